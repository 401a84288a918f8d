import PyProof.Rows.All
import Wide.All
import OpenK.AllK
import Wide.FinOn
import HandS.ForMost
import HandS.ForExc
import HandS.Flow
import HandS.Wide
import HandS.Gcd
import HandS.IsInst
import HandS.EndBits
import HandS.Defaults
import HandS.Style
import HandS.TryMany
import HandS.ExcIs
import HandS.ExcCtx
import HandS.Small
import HandS.ClsMeth
import HandS.Evl
import KE.RegKIsAll
import KE.KOpsOwn
import HandS.OwnEq
import HandS.DictComp
import HandS.Walk
import HandS.StrMore
import HandS.More
import HandS.Finally
import HandS.NoneIn
import HandS.ExcInit
import HandS.ExcField
import HandS.SetKeys
import HandS.TupSets
import HandS.MakeKwOnly
import KE.KExcIs
import HandS.ExcValue
import PyProof.SumWalkG
import PyProof.WalkInts
import PyProof.TwoTypesSub
import PyProof.MinMaxWalk
import HandS.Hot
import HandS.HotCalls
import PyProof.CallStr
import HandS.RaiseMore
import PyProof.Walks
import PySem.Challenge.RW_lotcosts_k22_forms_in_order_and_at_price
set_option Elab.async false
set_option linter.all false
set_option maxRecDepth 100000
set_option maxHeartbeats 4000000
namespace Lo
open PySem PySem.Spec PyProof.Rows L2

/-! ### heaps -/
theorem sget {H H' : Hp} {a : Addr} {o : HO} (s : Same H H') (h : H a = some o) : H' a = some o := s a o h
/-- all but what stands at b is as it was -/
def Keep (b : Addr) (H H' : Hp) : Prop := ∀ a o, H a = some o → a ≠ b → H' a = some o
theorem Keep.of {b : Addr} {H H' : Hp} (s : Same H H') : Keep b H H' := fun a o h _ => s a o h
theorem Keep.trans {b : Addr} {H H1 H2 : Hp} (s : Keep b H H1) (t : Keep b H1 H2) : Keep b H H2 := fun a o h n => t a o (s a o h n) n
theorem kget {b : Addr} {H H' : Hp} {a : Addr} {o : HO} (s : Keep b H H') (n : a ≠ b) (h : H a = some o) : H' a = some o := s a o h n
theorem same_upd {H : Hp} {p : Addr} {o : HO} (h : H p = none) : Same H (upd H p o) := fun a u e => by rw [upd_ne (ne_of_none e h)]; exact e
theorem keep_upd {H : Hp} {p : Addr} {o : HO} : Keep p H (upd H p o) := fun a u e n => by rw [upd_ne n]; exact e
theorem same_put {H H' : Hp} {p : Addr} {o : HO} (n : H p = none) (s : Same H H') : Same H (upd H' p o) := fun a u e => by rw [upd_ne (ne_of_none e n)]; exact s a u e
theorem gen_new {H G : Hp} {p : Addr} {o : HO} (n : H p = none) (g : upd H p o = G) : Same H G ∧ G p = some o := by
  subst g
  exact ⟨same_upd n, upd_same⟩
theorem gen_put {H G : Hp} {p : Addr} {o : HO} (g : upd H p o = G) : Keep p H G ∧ G p = some o := by
  subst g
  exact ⟨keep_upd, upd_same⟩
theorem SqL.same {K : PySem.W.Frag} {H H' : Hp} {a : Addr} {xs : List V} (s : Same H H') (h : SqL K H a xs) : SqL K H' a xs := s.seq h

/-! ### a word between an expression and what follows -/
def tMid (t : TE) : TE := fun σ H Q => ∃ M : V → Hp → Prop, t σ H M ∧ ∀ v H', M v H' → Q v H'
theorem pe_mid {X : Cx} {e : Expr} {t : TE} (h : PE X e t) : PE X e (tMid t) := ⟨fun pins s σ H Q I ⟨M, hm, hq⟩ => thn (h.run pins s σ H M I hm) fun u s1 ⟨v, H1, I1, r, m⟩ => ⟨v, H1, I1, r, hq v H1 m⟩⟩
def tMidT (t : TT) : TT := fun σ H Q => ∃ M : Bool → Hp → Prop, t σ H M ∧ ∀ v H', M v H' → Q v H'
theorem pt_mid {X : Cx} {e : Expr} {t : TT} (h : PT X e t) : PT X e (tMidT t) := ⟨fun pins s σ H Q I ⟨M, hm, hq⟩ => thn (h.run pins s σ H M I hm) fun b s1 ⟨H1, I1, m⟩ => ⟨H1, I1, hq b H1 m⟩⟩
/-! ### own defs, as their callers see them -/
structure Own (P : Program) (w : World) (K : PySem.W.Frag) (mg : Str → Option Value) (base : Heap) (k : Nat) (x : Str) (ps : List Str) (sp : Sp) : Prop where
  ex : ∃ f fd, FnOk P w K mg base (L2N.CX P w) k f fd ps sp ∧ mg x = some (.ref f) ∧ PySem.W.keepIn K (.ref f) = true ∧ Binds K fd ps []
structure OwnM (P : Program) (w : World) (K : PySem.W.Frag) (mg : Str → Option Value) (base : Heap) (k : Nat) (C : Addr) (m : Str) (ps : List Str) (sp : Sp) : Prop where
  cl : Cls K C
  ex : ∃ f fd, FnOk P w K mg base (L2N.CX P w) k f fd ps sp ∧ Meth K C m f ∧ Binds K fd ps []
structure OwnI (P : Program) (w : World) (K : PySem.W.Frag) (mg : Str → Option Value) (base : Heap) (k : Nat) (x : Str) (C : Addr) (ps : List Str) (dvs : List V) (sp : Sp) : Prop where
  ex : ∃ f fd ds, FnOk P w K mg base (L2N.CX P w) k f fd ps sp ∧ Mk K C f ∧ mg x = some (.ref C) ∧ Binds K fd ps ds ∧ Vals dvs ds

section
variable {X : Cx} {k : Nat} {C : Addr} {ps : List Str} {sp : Sp} {E : L2.St → XK} {x m : Str} {p pos apos : Pos} {e o : Expr} {es : List Expr} {ta : TE} {t : TA} {dvs : List V}

theorem pas0 {X : Cx} : ∀ σ, PassesAt (L2N.CX X.prog X.w) X σ ((fun _ => E0) σ) := fun σ pins H s e s' I h => by
  obtain ⟨_, _, _, _, _, _, _, _, _, _, _, _, z⟩ := h
  exact z.elim
/-- a def by its body, whatever its callers learn of what leaves it -/
theorem okN {P : Program} {w : World} {K : PySem.W.Frag} {mg : Str → Option Value} {base : Heap} {x qual : Str} {st : Stmt} {f : Addr} {fd : FuncData} {N ps : List Str} {k : Nat} {sp : Sp} (F : Fun K x qual st f fd) (sc : FnScope N ps (defScope st))
    (ln : ∀ vs H Q E, sp vs H Q E → vs.length = ps.length) (bd : ∀ (cv : Value) (A : Around) (outer : List Env) (s : Shared) (H : Hp) (vs : List V) (Q : VK) (E : XK), Room k (A.deeper (envOfC qual (defScope st) s.heap.objs.size f cv)) → sp vs H Q E →
      ∃ t, PSs (cxOf (L2N.CX P w) P w K mg base N qual (defScope st) f cv A outer s H E) (defBody st) t ∧ t { nx := fun _ H' => Q .non H', rt := Q } (start N vs) H) :
    FnOk P w K mg base (L2N.CX P w) (k + 1) f fd ps sp := by
  have ⟨_, _, _, _, _, _, _, _, _, e, look, hcd⟩ := F.ex
  subst e
  exact fn_of look hcd sc ln fun A outer s H vs Q E hr h => bd _ A outer s H vs Q E hr h
theorem takesN {X : Cx} : L2N.Takes X (fun _ _ _ _ => False) := fun _ _ ⟨_, _, _, _, _, _, _, _, _, _, _, _, _, _, _, _, z⟩ => z.elim
theorem passN {X : Cx} : Passes (L2N.CX X.prog X.w) X E0 := fun pins σ => pas0 σ pins
theorem pasE {X : Cx} {E : XK} (tk : L2N.Takes X (fun cls d _ H => E cls d H)) : ∀ σ, PassesAt (L2N.CX X.prog X.w) X σ ((fun _ => E) σ) := fun σ => L2N.passAt (W := fun cls d _ H => E cls d H) tk σ
theorem pe_own (O : Own X.prog X.w X.K X.mg X.base k x ps sp) (hr : Room k X.A) (hg : Gl X x) (hx : ∀ σ, PassesAt (L2N.CX X.prog X.w) X σ (E σ)) (ha : PA X (e :: es) t)
    (hdb : (x == ("__debug__" : Str)) = false := by decide) (he : starEach (e :: es) X.env = (false, eval e X.env) :: starEach es X.env := by rfl) (hpl : (backTo pos (starEach es X.env)).any (·.1) = false := by rfl) :
    PE X (.Call (.Name x p) (e :: es) [] pos) (tCallS sp E t) := by
  obtain ⟨f, fd, F, hm, hk, hb⟩ := O.ex
  exact pe_callS F hr hg hm hk hb hx ha hdb he hpl

def tMethS (C : Addr) (m : Str) (sp : Sp) (E : L2.St → XK) (ta : TE) (t : TA) : TE := fun σ H Q => ta σ H fun x H1 => ∃ a dx fs, x = .ref a ∧ H1 a = some (.ins C dx fs) ∧ fs.lookup m = none ∧
  t σ H1 fun vs H2 => sp (x :: vs) H2 Q (E σ)
theorem pe_ownm {pl : Sem Bool} (O : OwnM X.prog X.w X.K X.mg X.base k C m ps sp) (he : PE X o ta) (hr : Room k X.A) (hx : ∀ σ, PassesAt (L2N.CX X.prog X.w) X σ (E σ)) (ha : PA X (e :: es) t)
    (hst : starEach (e :: es) X.env = (false, eval e X.env) :: starEach es X.env := by rfl) (hpl : (backTo pos (starEach es X.env)).any (·.1) = false := by rfl)
    (ht : eval (.Call (.Attribute o m apos) (e :: es) [] pos) X.env = (do
      let ov ← eval o X.env
      standAt apos.atName
      let (f, first) ← holding [ov] (getMethod ov m pl)
      callWith pos f first (backTo pos (starEach (e :: es) X.env)) (backToKw pos (keywordEach [] X.env))) := by rfl) :
    PE X (.Call (.Attribute o m apos) (e :: es) [] pos) (tMethS C m sp E ta t) := by
  obtain ⟨f, fd, F, hm, hb⟩ := O.ex
  refine ⟨fun pins s σ H Q I h => ?_⟩
  refine PySem.W.methodCall_KW (pl := pl) (thn (he.run pins s σ H _ I h) fun u s1 ⟨x, H1, I1, rx, a, dx, fs, ex, ea, l, q⟩ => ?_) ht
  subst ex
  obtain rfl : u = Value.ref a := rx
  refine getmeth_ok I1 ea O.cl hm l ?_
  refine PySem.W.callWith_K (first := [.ref a]) (h₀ := X.base) I.ok.mod.kin hm.kp (thn (ha.run pos pins s1 σ H1 _ I1 q) fun us s2 ⟨vs, H2, I2, r, q2⟩ => ⟨I2.kIn, ?_⟩) hst hpl
  exact run_fnS (us := .ref a :: us) (vs := .ref a :: vs) F hr hb (hx σ) I2 (.cons rfl r) q2
theorem pe_ownm0 {pl : Sem Bool} (O : OwnM X.prog X.w X.K X.mg X.base k C m ps sp) (he : PE X o ta) (hr : Room k X.A) (hx : ∀ σ, PassesAt (L2N.CX X.prog X.w) X σ (E σ))
    (ht : eval (.Call (.Attribute o m apos) [] [] pos) X.env = (do
      let ov ← eval o X.env
      standAt apos.atName
      let (f, first) ← holding [ov] (getMethod ov m pl)
      callWith pos f first (backTo pos (starEach [] X.env)) (backToKw pos (keywordEach [] X.env))) := by rfl) :
    PE X (.Call (.Attribute o m apos) [] [] pos) (tMethS C m sp E ta tNil) := by
  obtain ⟨f, fd, F, hm, hb⟩ := O.ex
  refine ⟨fun pins s σ H Q I h => ?_⟩
  refine PySem.W.methodCall_KW (pl := pl) (thn (he.run pins s σ H _ I h) fun u s1 ⟨x, H1, I1, rx, a, dx, fs, ex, ea, l, q⟩ => ?_) ht
  subst ex
  obtain rfl : u = Value.ref a := rx
  refine getmeth_ok I1 ea O.cl hm l ?_
  exact PySem.W.callWith_K0 (first := [.ref a]) I1.kIn hm.kp (run_fnS (us := [.ref a]) (vs := [.ref a]) F hr hb (hx σ) I1 (.cons rfl .nil) q)

def tMakeS (C : Addr) (sp : Sp) (dvs : List V) (E : L2.St → XK) (t : TA) : TE := fun σ H Q => t σ H fun vs H1 => ∀ x dx, H1 x = none → H1 dx = none → dx ≠ x →
  sp (.ref x :: (vs ++ dvs)) (upd (upd H1 dx (.own x)) x (.ins C dx [])) (fun v H2 => v = .non ∧ Q (.ref x) H2) (E σ)
theorem run_makeS {f : Addr} {fd : FuncData} {ds : List Value} {pins : List (Addr × Obj)} {σ : L2.St} {H : Hp} {s : Shared} {Q : VK} {us : List Value} {vs : List V} (M : Mk X.K C f) (F : FnOk X.prog X.w X.K X.mg X.base (L2N.CX X.prog X.w) k f fd ps sp)
    (hr : Room (k + 1) X.A) (hb : Binds X.K fd ps ds) (hd : Vals dvs ds) (hx : PassesAt (L2N.CX X.prog X.w) X σ (E σ)) (I : Inv X pins σ H s) (r : Vals vs us)
    (h : ∀ x dx, H x = none → H dx = none → dx ≠ x → sp (.ref x :: (vs ++ dvs)) (upd (upd H dx (.own x)) x (.ins C dx [])) (fun v H2 => v = .non ∧ Q (.ref x) H2) (E σ)) :
    wpAny (model X.prog X.w) X.A (call (.ref C) us) (EP X pins σ Q) X.xe s := by
  have hq := h (s.heap.objs.size + 1) s.heap.objs.size (I.hok.fresh (Nat.le_succ _)) (I.hok.fresh (Nat.le_refl _)) (Nat.ne_of_lt (Nat.lt_succ_self _))
  have I2 := Inv.made (C := C) I
  have r2 : Vals (V.ref (s.heap.objs.size + 1) :: (vs ++ dvs)) (Value.ref (s.heap.objs.size + 1) :: (us ++ ds)) := .cons rfl (r.append hd)
  have hl : (Value.ref (s.heap.objs.size + 1) :: us ++ ds).length = ps.length := by
    have e := r2.length
    rw [F.len _ _ _ _ hq] at e
    exact e.symm
  refine wpAny_call (make_map (f := f) I.kIn M.makes M.init (beq_iff_eq.mp M.fn) (codeAny_mono (F.run _ X.stack _ _ ⟨Value.ref (s.heap.objs.size + 1) :: us, []⟩ (Value.ref (s.heap.objs.size + 1) :: (us ++ ds)) _ _ (E σ) (hr.make C us [])
    (I2.env0.make C us []) (hb _ (Value.ref (s.heap.objs.size + 1) :: us) I2.kIn hl) r2 hq) fun r s' hq' => ?_))
  cases r with
  | error e => exact hx pins _ _ e s' I2 hq'
  | ok fl =>
    cases fl with
    | ret u =>
      obtain ⟨v, H', I3, rv, ev, q3⟩ := I2.after hq'
      subst ev
      exact ⟨rv, ⟨V.ref (s.heap.objs.size + 1), H', I3, rfl, q3⟩⟩
    | next => exact False.elim hq'
    | brk => exact False.elim hq'
    | cont => exact False.elim hq'
theorem pe_owni (O : OwnI X.prog X.w X.K X.mg X.base k x C ps dvs sp) (hr : Room (k + 1) X.A) (hg : Gl X x) (hx : ∀ σ, PassesAt (L2N.CX X.prog X.w) X σ (E σ)) (ha : PA X (e :: es) t)
    (hdb : (x == ("__debug__" : Str)) = false := by decide) (he : starEach (e :: es) X.env = (false, eval e X.env) :: starEach es X.env := by rfl) (hpl : (backTo pos (starEach es X.env)).any (·.1) = false := by rfl) :
    PE X (.Call (.Name x p) (e :: es) [] pos) (tMakeS C sp dvs E t) := by
  obtain ⟨f, fd, ds, F, M, hm, hb, hd⟩ := O.ex
  refine ⟨fun pins s σ H Q I h => ?_⟩
  refine wpAny_Call_Name_kw (ld_glob I hg hm ?_ hdb)
  refine PySem.W.callWith_K (h₀ := X.base) I.ok.mod.kin M.kp (thn (ha.run pos pins s σ H _ I h) fun us s1 ⟨vs, H1, I1, r, q⟩ => ⟨I1.kIn, ?_⟩) he hpl
  exact run_makeS M F hr hb hd (hx σ) I1 r q
end

def rLenSeq (K : PySem.W.Frag) : List V → Hp → VK → Prop := fun xs H Q => ∃ p ys, xs = [V.ref p] ∧ (SqL K H p ys ∨ SqT K H p ys) ∧ Q (.int ys.length) H
/-! ### own operators -/
section
open PySem.W
section
variable {prog : Program} {w : World} {A : Around} {E : Value → Shared → Prop} {s : Shared} {i : Int} {t : Tok} {x C dx f g : Addr} {K : Frag} {ox : Obj} {od : Option Obj} {nm : String} {Q : Option Value → Shared → Prop} {rc fo ro : Option Value}
theorem slot_fills {M : Model} {h : Heap} (X : K.In h) (hc : selfFirst K C = true) (hs : findIn K (.ref C) (PySem.dunder nm) = some (some (.ref f))) : Looks M h (fillsNumberSlot (.ref C) nm) true := by
  obtain ⟨cd, rest, hcd, hm⟩ := ksp_first hc
  exact fills_K X hcd hm hs
/-- what an own method answers is no NotImplemented -/
theorem bin1_same {b : Value} (X : K.In s.heap) (I : InstAt s.heap x ox C od) (hb : Looks (model prog w) s.heap (typeOf b) (.ref C)) (hc : selfFirst K C = true) (hs : findIn K (.ref C) (PySem.dunder nm) = some (some (.ref f))) (hf : isFn K (.ref f) = true)
    (h : wpAny (model prog w) A (call (.ref f) [.ref x, b]) (PySem.W.CmpBack fun v => Q (some v)) E s) : wpAny (model prog w) A (binaryOp1 nm (.ref x) b) Q E s := by
  have one := ksp_try X I hs hf h
  have L3 : Looks (model prog w) s.heap (fillsNumberSlot (.ref C) nm) true := slot_fills X hc hs
  have L1 : Looks (model prog w) s.heap (typeOf (.ref x)) (.ref C) := I.type
  obtain ⟨hh, gg, d, tt, os⟩ := s
  unfold binaryOp1
  refine wpAny_bind (L1.at (wpAny_bind (hb.at (wpAny_bind (L3.at ?_)))))
  simp only [beq_self_eq_true, if_true]
  ksp_lk
  refine wpAny_mono one (fun r s' hr => ?_) fun _ _ e => e
  obtain ⟨v, rfl, hq⟩ := hr
  ksp_lk
  exact hq
theorem bin1_int (X : K.In s.heap) (I : InstAt s.heap x ox C od) (hc : selfFirst K C = true) (hs : findIn K (.ref C) (PySem.dunder nm) = some (some (.ref f))) (hf : isFn K (.ref f) = true) (hr : findIn K (.ref C) (dunderR nm) = some rc) (hp : rc = none ∨ ∃ g : Addr, rc = some (.ref g))
    (h1 : findIn K (.type "int") (PySem.dunder nm) = some fo) (h2 : findIn K (.type "int") (dunderR nm) = some ro) (hsub : subIn K (.type "int") (.ref C) = some false)
    (h : wpAny (model prog w) A (call (.ref f) [.ref x, .int i t]) (PySem.W.CmpBack fun v => Q (some v)) E s) : wpAny (model prog w) A (binaryOp1 nm (.ref x) (.int i t)) Q E s := by
  have one := ksp_try X I hs hf h
  have L3 : Looks (model prog w) s.heap (fillsNumberSlot (.ref C) nm) true := slot_fills X hc hs
  have L1 : Looks (model prog w) s.heap (typeOf (.ref x)) (.ref C) := I.type
  have L2 : Looks (model prog w) s.heap (typeOf (.int i t)) (.type "int") := Looks.of_pure rfl
  have L4 : Looks (model prog w) s.heap (fillsNumberSlot (.type "int") nm) ((fo.isSome && !isSeqSlot fo) || (ro.isSome && !isSeqSlot ro)) := ksp_fillsT X h1 h2
  have L5 : Looks (model prog w) s.heap (isSubtype (.type "int") (.ref C)) false := looks_subIn X hsub
  have L6 : Looks (model prog w) s.heap (numberSlotInPython (.ref C) nm) true := ksp_inPy X hs hr hp
  have L7 : Looks (model prog w) s.heap (numberSlotInPython (.type "int") nm) false := Looks.of_pure rfl
  have L8 : Looks (model prog w) s.heap (typeLookup (.type "int") (dunderR nm)) ro := looks_findIn X h2
  have hne : (Value.ref C == Value.type "int") = false := Bool.eq_false_iff.mpr fun q => by cases beq_iff_eq.mp q
  obtain ⟨hh, gg, d, tt, os⟩ := s
  generalize ((fo.isSome && !isSeqSlot fo) || (ro.isSome && !isSeqSlot ro)) = right at L4
  unfold binaryOp1
  refine wpAny_bind (L1.at (wpAny_bind (L2.at (wpAny_bind (L3.at ?_)))))
  simp only [hne, Bool.false_eq_true, if_false]
  cases right <;>
  · ksp_lk
    refine wpAny_mono one (fun r s' hr => ?_) fun _ _ e => e
    obtain ⟨v, rfl, hq⟩ := hr
    ksp_lk
    exact hq
theorem bin1_refl (X : K.In s.heap) (I : InstAt s.heap x ox C od) (hc : selfFirst K C = true) (hs : findIn K (.ref C) (PySem.dunder nm) = some (some (.ref g))) (hr : findIn K (.ref C) (dunderR nm) = some (some (.ref f))) (hf : isFn K (.ref f) = true)
    (fills : fillsNumberSlot (.type "int") nm = pure true) (hsub : subIn K (.ref C) (.type "int") = some false)
    (decl : ∀ Q : Option Value → Shared → Prop, Q none s → wpAny (model prog w) A (tryMethod (.int i t) (PySem.dunder nm) (.ref x)) Q E s)
    (h : wpAny (model prog w) A (call (.ref f) [.ref x, .int i t]) (PySem.W.CmpBack fun v => Q (some v)) E s) : wpAny (model prog w) A (binaryOp1 nm (.int i t) (.ref x)) Q E s := by
  have one := ksp_try X I hr hf h
  have L3 : Looks (model prog w) s.heap (fillsNumberSlot (.ref C) nm) true := slot_fills X hc hs
  have L1 : Looks (model prog w) s.heap (typeOf (.ref x)) (.ref C) := I.type
  have L2 : Looks (model prog w) s.heap (typeOf (.int i t)) (.type "int") := Looks.of_pure rfl
  have L4 : Looks (model prog w) s.heap (fillsNumberSlot (.type "int") nm) true := Looks.of_pure fills
  have L5 : Looks (model prog w) s.heap (isSubtype (.ref C) (.type "int")) false := looks_subIn X hsub
  have L7 : Looks (model prog w) s.heap (numberSlotInPython (.type "int") nm) false := Looks.of_pure rfl
  have hne : (Value.type "int" == Value.ref C) = false := Bool.eq_false_iff.mpr fun q => by cases beq_iff_eq.mp q
  obtain ⟨hh, gg, d, tt, os⟩ := s
  unfold binaryOp1
  refine wpAny_bind (L2.at (wpAny_bind (L1.at (wpAny_bind (L4.at ?_)))))
  simp only [hne, Bool.false_eq_true, if_false]
  ksp_lk
  refine decl _ ?_
  ksp_lk
  refine wpAny_mono one (fun r s' hr => ?_) fun _ _ e => e
  obtain ⟨v, rfl, hq⟩ := hr
  ksp_lk
  exact hq
end
end

/-! ### own arithmetic -/
section
variable {prog : Program} {w : World} {A : Around} {E : Value → Shared → Prop} {s : Shared} {i : Int} {t : Tok} {x C dx : Addr}
theorem int_declines {id : String} {B : Builtin} {nm : Str} {name : String} {f : Int → Int → Sem Fin} (slot : Slot "int" nm id) (entry : entryFor table id = some B) (args : ∀ a b : Value, argsOk id ⟨[a, b], []⟩) (hB : B = Builtin.Int.intBinary name f) (hx : s.heap.get? x = some (PySem.W.instObj C dx))
    (Q : Option Value → Shared → Prop) (h : Q none s) : wpAny (model prog w) A (tryMethod (.int i t) nm (.ref x)) Q E s := by
  refine wpAny_tryMethod_declines (typeIs_int s i t) slot (wpAny_call_entry slot (typeIs_int s i t) entry ?_ (args _ _))
  rw [hB]
  unfold Builtin.Int.intBinary
  obtain ⟨hp, g, d, tk, os⟩ := s
  wp_walk using wpAny_load' hx
  exact ⟨_, rfl, rfl, h⟩
theorem bin_of1 {op : Operator} {a b : Value} {Q : Value → Shared → Prop} (h : wpAny (model prog w) A (binaryOp1 op.info.2 a b) (fun r s' => ∃ v, r = some v ∧ Q v s') E s) : wpAny (model prog w) A (binaryOp op a b) Q E s := by
  unfold binaryOp
  refine wpAny_holding (wpAny_bind (wpAny_mono h (fun r s' hr => ?_) fun _ _ e => e))
  obtain ⟨v, rfl, hq⟩ := hr
  exact wpAny_pure hq
theorem inp_of1 {op : Operator} {a b ta : Value} {Q : Value → Shared → Prop} (ht : PySem.W.Looks (model prog w) s.heap (typeOf a) ta) (hn : PySem.W.Looks (model prog w) s.heap (fillsInplaceSlot ta op.info.2 (op == .Add)) false)
    (h : wpAny (model prog w) A (binaryOp1 op.info.2 a b) (fun r s' => ∃ v, r = some v ∧ Q v s') E s) : wpAny (model prog w) A (inplaceOp op a b) Q E s := by
  unfold inplaceOp
  refine wpAny_holding (wpAny_bind (ht.here (wpAny_bind (hn.here ?_))))
  simp only [Bool.false_eq_true, if_false]
  refine wpAny_bind (wpAny_mono h (fun r s' hr => ?_) fun _ _ e => e)
  obtain ⟨v, rfl, hq⟩ := hr
  exact wpAny_pure hq
end
section
variable {prog : Program} {w : World} {A : Around} {E : Value → Shared → Prop} {s : Shared} {x C : Addr} {K : PySem.W.Frag} {cd : ClassData}
theorem no_inplace {M : Model} {h : Heap} {nm : String} {add : Bool} (X : K.In h) (hc : PySem.W.clsIn K C = some cd) (hm : cd.mro = [.ref C, .type "object"]) (h1 : PySem.W.findIn K (.ref C) (dunderI nm) = some none) (h2 : PySem.W.findIn K (.type "object") (dunderI nm) = some none) :
    PySem.W.Looks M h (fillsInplaceSlot (.ref C) nm add) false := by
  intro A Q E s k q
  have Lm : PySem.W.Looks M h (mroOf (.ref C)) cd.mro := (PySem.W.looks_clsIn X hc).andThen (f := fun cd => pure cd.mro) .now
  have L1 : PySem.W.Looks M h (typeLookup (.ref C) (dunderI nm)) none := PySem.W.looks_findIn X h1
  have L2 : PySem.W.Looks M h (typeLookup (.type "object") (dunderI nm)) none := PySem.W.looks_findIn X h2
  unfold fillsInplaceSlot
  refine wpAny_bind (Lm.keeps k |>.here ?_)
  rw [hm, List.anyM_cons]
  refine wpAny_bind (wpAny_bind ((L1.keeps k).here ?_))
  refine wpAny_pure ?_
  rw [List.anyM_cons]
  refine wpAny_bind (wpAny_bind ((L2.keeps k).here ?_))
  refine wpAny_pure ?_
  exact wpAny_pure q
end

/-- what the written part says of a class with own + - * -/
def refOr : Option Value → Bool
  | none => true
  | some (.ref _) => true
  | _ => false
theorem refOr_of {r : Option Value} (h : refOr r = true) : r = none ∨ ∃ g : Addr, r = some (.ref g) := by
  unfold refOr at h
  split at h
  · exact .inl rfl
  · exact .inr ⟨_, rfl⟩
  · cases h
structure Arith (K : PySem.W.Frag) (C : Addr) : Prop where
  sf : PySem.W.selfFirst K C = true
  s1 : PySem.W.subIn K (.type "int") (.ref C) = some false
  s2 : PySem.W.subIn K (.ref C) (.type "int") = some false
  mro : ∃ cd, PySem.W.clsIn K C = some cd ∧ cd.mro = [.ref C, .type "object"]
  ia : PySem.W.findIn K (.ref C) "__iadd__" = some none ∧ PySem.W.findIn K (.type "object") "__iadd__" = some none
  isb : PySem.W.findIn K (.ref C) "__isub__" = some none ∧ PySem.W.findIn K (.type "object") "__isub__" = some none
  im : PySem.W.findIn K (.ref C) "__imul__" = some none ∧ PySem.W.findIn K (.type "object") "__imul__" = some none
  ofInt : ∃ a b c d e f, PySem.W.findIn K (.type "int") "__add__" = some a ∧ PySem.W.findIn K (.type "int") "__radd__" = some b ∧ PySem.W.findIn K (.type "int") "__sub__" = some c ∧ PySem.W.findIn K (.type "int") "__rsub__" = some d ∧
    PySem.W.findIn K (.type "int") "__mul__" = some e ∧ PySem.W.findIn K (.type "int") "__rmul__" = some f
  refl : ∃ a b c, (PySem.W.findIn K (.ref C) "__radd__" = some a ∧ refOr a = true) ∧ (PySem.W.findIn K (.ref C) "__rsub__" = some b ∧ refOr b = true) ∧ PySem.W.findIn K (.ref C) "__rmul__" = some c ∧ refOr c = true
  has : ∃ a b c : Addr, PySem.W.findIn K (.ref C) "__add__" = some (some (.ref a)) ∧ PySem.W.findIn K (.ref C) "__sub__" = some (some (.ref b)) ∧ PySem.W.findIn K (.ref C) "__mul__" = some (some (.ref c))
inductive AOp | add | sub | mul
def AOp.op : AOp → Operator | .add => .Add | .sub => .Sub | .mul => .Mult
def AOp.m : AOp → Str | .add => "__add__" | .sub => "__sub__" | .mul => "__mul__"
def AOp.r : AOp → Str | .add => "__radd__" | .sub => "__rsub__" | .mul => "__rmul__"
def AOp.i : AOp → Str | .add => "__iadd__" | .sub => "__isub__" | .mul => "__imul__"
theorem AOp.em (o : AOp) : PySem.dunder o.op.info.2 = o.m := by cases o <;> decide +kernel
theorem AOp.er (o : AOp) : dunderR o.op.info.2 = o.r := by cases o <;> decide +kernel
theorem AOp.ei (o : AOp) : dunderI o.op.info.2 = o.i := by cases o <;> decide +kernel
theorem AOp.fills (o : AOp) : fillsNumberSlot (.type "int") o.op.info.2 = pure true := by
  cases o
  · exact F.fills_int_add
  · exact F.fills_int_sub
  · exact F.fills_int_mul
theorem AOp.decl {prog : Program} {w : World} {A : Around} {E : Value → Shared → Prop} {s : Shared} {i : Int} {t : Tok} {x C dx : Addr} (o : AOp) (hx : s.heap.get? x = some (PySem.W.instObj C dx)) (Q : Option Value → Shared → Prop) (h : Q none s) :
    wpAny (model prog w) A (tryMethod (.int i t) (PySem.dunder o.op.info.2) (.ref x)) Q E s := by
  cases o
  · exact int_declines F.slot_int_add F.entry_int_add F.args_int_add_2 rfl hx Q h
  · exact int_declines F.slot_int_sub F.entry_int_sub F.args_int_sub_2 rfl hx Q h
  · exact int_declines F.slot_int_mul F.entry_int_mul F.args_int_mul_2 rfl hx Q h
section
variable {X : Cx} {k k' : Nat} {C : Addr} {m : Str} {ps ps' : List Str} {sp sp' : Sp} {E : XK}
/-- an instance of C on the left, an int or such an instance on the right -/
def rOwn (C : Addr) (sp : Sp) (E : XK) : R2 := fun x y H Q => ∃ a dx fs, x = .ref a ∧ H a = some (.ins C dx fs) ∧ ((∃ i, y = .int i) ∨ ∃ b dy gs, y = .ref b ∧ H b = some (.ins C dy gs)) ∧ sp [x, y] H Q E
/-- an int on the left -/
def rRefl (C : Addr) (sp : Sp) (E : XK) : R2 := fun x y H Q => ∃ i b dy gs, x = .int i ∧ y = .ref b ∧ H b = some (.ins C dy gs) ∧ sp [y, x] H Q E
def rUna (C : Addr) (sp : Sp) (E : XK) : V → Hp → VK → Prop := fun x H Q => ∃ a dx fs, x = .ref a ∧ H a = some (.ins C dx fs) ∧ sp [x] H Q E
theorem back_of {pins : List (Addr × Obj)} {σ : L2.St} {Q : VK} {u : Value} {s' : Shared} {R : Value → Shared → Prop} (h : EP X pins σ Q u s') (k : ∀ u s', EP X pins σ Q u s' → R u s') : PySem.W.CmpBack R u s' := by
  obtain ⟨v, H', I, r, q⟩ := id h
  cases u with
  | notImplemented =>
    cases v <;> simp [L2.RelV] at r
  | _ => exact k _ _ h
theorem inst_at {pins : List (Addr × Obj)} {σ : L2.St} {H : Hp} {s : Shared} {a dx : Addr} {fs : List (Str × V)} (I : Inv X pins σ H s) (e : H a = some (.ins C dx fs)) : s.heap.get? a = some (PySem.W.instObj C dx) ∧ ∃ od, PySem.W.InstAt s.heap a (PySem.W.instObj C dx) C (some od) := by
  obtain ⟨mA, J, _⟩ := ins_get I.hok e
  obtain ⟨od, J2, _⟩ := J.look
  exact ⟨J.obj, od, J2⟩
theorem bin1_own (o : AOp) (A : Arith X.K C) (O : OwnM X.prog X.w X.K X.mg X.base k C o.m ps sp) (hr : Room k X.A) (hx : Passes (L2N.CX X.prog X.w) X E)
    {pins : List (Addr × Obj)} {s : Shared} {σ : L2.St} {H : Hp} {x y : V} {v u : Value} {Q : VK} (I : Inv X pins σ H s) (rx : RelV x v) (ry : RelV y u) (h : rOwn C sp E x y H Q) :
    wpAny (model X.prog X.w) X.A (binaryOp1 o.op.info.2 v u) (fun r s' => ∃ z, r = some z ∧ EP X pins σ Q z s') X.xe s := by
  obtain ⟨a, dx, fs, rfl, ha, hy, hsp⟩ := h
  obtain rfl : v = Value.ref a := rx
  obtain ⟨f, fd, Fo, hm, hb⟩ := O.ex
  obtain ⟨_, od, J⟩ := inst_at I ha
  have h1 : PySem.W.findIn X.K (.ref C) (PySem.dunder o.op.info.2) = some (some (.ref f)) := by rw [o.em]; exact hm.at_
  obtain ⟨rc, h2, hrc⟩ : ∃ rc, PySem.W.findIn X.K (.ref C) (dunderR o.op.info.2) = some rc ∧ refOr rc = true := by
    rw [o.er]
    obtain ⟨a, b, c, q1, q2, q3⟩ := A.refl
    cases o
    · exact ⟨_, q1⟩
    · exact ⟨_, q2⟩
    · exact ⟨_, q3⟩
  have run := run_fn (us := [.ref a, u]) (vs := [.ref a, y]) (dvs := []) Fo hr hb .nil hx I (.cons rfl (.cons ry .nil)) hsp
  have run2 := wpAny_mono run (fun u s' q => back_of (R := fun v s' => ∃ z, some v = some z ∧ EP X pins σ Q z s') q fun v s' q => ⟨v, rfl, q⟩) fun _ _ e => e
  rcases hy with ⟨i, rfl⟩ | ⟨b, dy, gs, rfl, hb'⟩
  · obtain ⟨t, rfl⟩ := ry
    obtain ⟨fo, ro, e1, e2⟩ : ∃ fo ro, PySem.W.findIn X.K (.type "int") (PySem.dunder o.op.info.2) = some fo ∧ PySem.W.findIn X.K (.type "int") (dunderR o.op.info.2) = some ro := by
      rw [o.em, o.er]
      obtain ⟨p1, p2, p3, p4, p5, p6, q1, q2, q3, q4, q5, q6⟩ := A.ofInt
      cases o
      · exact ⟨_, _, q1, q2⟩
      · exact ⟨_, _, q3, q4⟩
      · exact ⟨_, _, q5, q6⟩
    exact bin1_int I.kIn J A.sf h1 hm.fn h2 (refOr_of hrc) e1 e2 A.s1 run2
  · obtain rfl : u = Value.ref b := ry
    obtain ⟨_, od', J'⟩ := inst_at I hb'
    exact bin1_same I.kIn J J'.type A.sf h1 hm.fn run2
theorem op_own (o : AOp) (A : Arith X.K C) (O : OwnM X.prog X.w X.K X.mg X.base k C o.m ps sp) (hr : Room k X.A) (hx : Passes (L2N.CX X.prog X.w) X E) : OpR X (binaryOp o.op) (rOwn C sp E) :=
  fun _ _ _ _ _ _ _ _ _ I rx ry h => bin_of1 (bin1_own o A O hr hx I rx ry h)
theorem iop_own (o : AOp) (A : Arith X.K C) (O : OwnM X.prog X.w X.K X.mg X.base k C o.m ps sp) (hr : Room k X.A) (hx : Passes (L2N.CX X.prog X.w) X E) : OpR X (inplaceOp o.op) (rOwn C sp E) := by
  intro pins s σ H x y v u Q I rx ry h
  have one := bin1_own o A O hr hx I rx ry h
  obtain ⟨a, dx, fs, rfl, ha, _, _⟩ := h
  obtain rfl : v = Value.ref a := rx
  obtain ⟨_, od, J⟩ := inst_at I ha
  obtain ⟨cd, hcd, hmro⟩ := A.mro
  refine inp_of1 J.type (no_inplace I.kIn hcd hmro ?_ ?_) one
  · rw [o.ei]
    cases o
    · exact A.ia.1
    · exact A.isb.1
    · exact A.im.1
  · rw [o.ei]
    cases o
    · exact A.ia.2
    · exact A.isb.2
    · exact A.im.2
theorem op_refl (o : AOp) (A : Arith X.K C) (R : OwnM X.prog X.w X.K X.mg X.base k C o.r ps sp) (hr : Room k X.A) (hx : Passes (L2N.CX X.prog X.w) X E) : OpR X (binaryOp o.op) (rRefl C sp E) := by
  intro pins s σ H x y v u Q I rx ry h
  obtain ⟨i, b, dy, gs, rfl, rfl, hb, hsp⟩ := h
  obtain ⟨t, rfl⟩ := rx
  obtain rfl : u = Value.ref b := ry
  obtain ⟨f, fd, Fo, hm, hbd⟩ := R.ex
  obtain ⟨hobj, od, J⟩ := inst_at I hb
  obtain ⟨g, h1⟩ : ∃ g : Addr, PySem.W.findIn X.K (.ref C) (PySem.dunder o.op.info.2) = some (some (.ref g)) := by
    rw [o.em]
    obtain ⟨a, b, c, q1, q2, q3⟩ := A.has
    cases o
    · exact ⟨_, q1⟩
    · exact ⟨_, q2⟩
    · exact ⟨_, q3⟩
  have h2 : PySem.W.findIn X.K (.ref C) (dunderR o.op.info.2) = some (some (.ref f)) := by rw [o.er]; exact hm.at_
  have run := run_fn (us := [.ref b, .int i t]) (vs := [.ref b, .int i]) (dvs := []) Fo hr hbd .nil hx I (.cons rfl (.cons ⟨t, rfl⟩ .nil)) hsp
  exact bin_of1 (bin1_refl I.kIn J A.sf h1 h2 hm.fn o.fills A.s2 (fun Q h => o.decl hobj Q h) (wpAny_mono run (fun u s' q => back_of (R := fun v s' => ∃ z, some v = some z ∧ EP X pins σ Q z s') q fun v s' q => ⟨v, rfl, q⟩) fun _ _ e => e))
theorem un_negOwn (O : OwnM X.prog X.w X.K X.mg X.base k C "__neg__" ps sp) (hr : Room k X.A) (hx : Passes (L2N.CX X.prog X.w) X E) : UnR X (unaryOp .USub) (rUna C sp E) := by
  intro pins s σ H x v Q I rx h
  obtain ⟨a, dx, fs, rfl, ha, hsp⟩ := h
  obtain rfl : v = Value.ref a := rx
  obtain ⟨f, fd, Fo, hm, hb⟩ := O.ex
  obtain ⟨_, od, J⟩ := inst_at I ha
  have run := run_fn (us := [.ref a]) (vs := [.ref a]) (dvs := []) Fo hr hb .nil hx I (.cons rfl .nil) hsp
  unfold unaryOp
  refine wpAny_holding ?_
  exact wpAny_bind (PySem.W.special_fn I.kIn J hm.at_ (beq_iff_eq.mp hm.fn) (wpAny_mono run (fun _ _ z => wpAny_pure z) fun _ _ z => z))
theorem call_absOwn (O : OwnM X.prog X.w X.K X.mg X.base k C "__abs__" ps sp) (hr : Room (k + 1) X.A) (hx : Passes (L2N.CX X.prog X.w) X E) : CallR X (.builtin "abs") (fun xs H Q => ∃ a dx fs, xs = [.ref a] ∧ H a = some (.ins C dx fs) ∧ sp [.ref a] H Q E) := by
  intro pins s σ H xs us Q I r h
  obtain ⟨a, dx, fs, rfl, ha, hsp⟩ := h
  obtain ⟨u, rfl, r1⟩ := vals1 r
  obtain rfl : u = Value.ref a := r1
  obtain ⟨f, fd, Fo, hm, hb⟩ := O.ex
  obtain ⟨_, od, J⟩ := inst_at I ha
  refine PySem.Calls.call_function_entry kind_abs plain_abs entry_abs (args_abs _) ?_
  unfold Builtin.«abs»
  refine wpAny_bind (m := oneArg "abs" _) (wpAny_pure ?_)
  refine wpAny_bind (m := callSpecial? (.ref a) (Str.ofString "__abs__")) ?_
  refine PySem.W.special_fn I.kIn J hm.at_ (beq_iff_eq.mp hm.fn) ?_
  have bd := hb s [.ref a] I.kIn (Fo.len _ _ _ _ hsp)
  refine wpAny_call (codeAny_mono (Fo.run X.A.in1 X.stack s H ⟨[.ref a], []⟩ [.ref a] [.ref a] Q E hr.in1 I.env0.in1 bd (.cons rfl .nil) hsp) fun r s' hq => ?_)
  cases r with
  | error e => exact hx pins σ H s e s' I hq
  | ok fl =>
    cases fl with
    | ret u => exact wpAny_pure ⟨_, rfl, I.after hq⟩
    | next => exact False.elim hq
    | brk => exact False.elim hq
    | cont => exact False.elim hq
end
/-! ### operators on ints, further -/
section
variable {X : Cx}
theorem op_mulI : OpR X (binaryOp .Mult) (rI IntMulOk fun i j => .int (i * j)) := opI fun _ _ _ _ _ _ _ hc q => mul_int q hc
def CDivA (_ j : Int) : Prop := j ≠ 0 ∧ j.natAbs.log2 < 9000
theorem op_fdivA : OpR X (binaryOp .FloorDiv) (rI CDivA fun i j => .int (i.fdiv j)) := opI fun i j _ _ _ _ _ hc q => floordiv_int hc.1 q (.inl (PyProof.noPylong_of_log2 hc.2))
end
theorem mok_l {i j : Int} (h : i.natAbs < 2 ^ 64) : IntMulOk i j := by
  have e : (2 : Nat) ^ 64 = 18446744073709551616 := by decide
  rw [e] at h
  exact CMul.ok (.inl ⟨by omega, by omega⟩)
theorem mok_r {i j : Int} (h : j.natAbs < 2 ^ 64) : IntMulOk i j := by
  have e : (2 : Nat) ^ 64 = 18446744073709551616 := by decide
  rw [e] at h
  exact CMul.ok (.inr ⟨by omega, by omega⟩)
theorem mok_w {i j : Int} {a b : Nat} (ha : i.natAbs < 2 ^ a) (hb : j.natAbs < 2 ^ b) (h0 : 0 < a := by decide) (h1 : 0 < b := by decide) (h : a + b ≤ 1000000 := by decide) : IntMulOk i j := CMulW.ok (wide_mul ha hb h0 h1 h)
theorem une {H : Hp} {a p : Addr} {o u : HO} (n : a ≠ p) (h : H a = some o) : upd H p u a = some o := by rw [upd_ne n]; exact h
theorem sqL_of {K : PySem.W.Frag} {H : Hp} {a : Addr} {xs : List V} (h : H a = some (.lst xs)) : SqL K H a xs := SqL.of h
theorem ix_c {xs : List V} {z : Int} {v : V} (h : xs[z.toNat]? = some v) (h0 : 0 ≤ z := by decide) : atI xs z = some v := at_of (Int.toNat_of_nonneg h0).symm h

/-! ### tests whose outcome is open -/
theorem iteI {i j : Int} {A B : Prop} (h1 : i = j → A) (h2 : i ≠ j → B) : if decide (V.int i = V.int j) = true then A else B := by
  by_cases e : i = j
  · rw [decide_eq_true (congrArg V.int e)]
    exact iteT (h1 e)
  · rw [decide_eq_false fun z => e (V.int.inj z)]
    exact iteF (h2 e)
theorem iteIn {i j : Int} {A B : Prop} (h1 : i ≠ j → A) (h2 : i = j → B) : if (!decide (V.int i = V.int j)) = true then A else B := by
  by_cases e : i = j
  · rw [decide_eq_true (congrArg V.int e)]
    exact iteF (h2 e)
  · rw [decide_eq_false fun z => e (V.int.inj z)]
    exact iteT (h1 e)
theorem iteD {p : Prop} [Decidable p] {A B : Prop} (h1 : p → A) (h2 : ¬ p → B) : if decide p = true then A else B := by
  by_cases e : p
  · rw [decide_eq_true e]
    exact iteT (h1 e)
  · rw [decide_eq_false e]
    exact iteF (h2 e)
theorem iteDn {p : Prop} [Decidable p] {A B : Prop} (h1 : ¬ p → A) (h2 : p → B) : if (!decide p) = true then A else B := by
  by_cases e : p
  · rw [decide_eq_true e]
    exact iteF (h2 e)
  · rw [decide_eq_false e]
    exact iteT (h1 e)
theorem iteZ {y : Int} {A B : Prop} (h1 : y ≠ 0 → A) (h2 : y = 0 → B) : if (y != 0) = true then A else B := by
  by_cases e : y = 0
  · subst e
    exact iteF (h2 rfl)
  · rw [bne_iff_ne.mpr e]
    exact iteT (h1 e)
theorem iteDT {p : Prop} [Decidable p] {A B : Prop} (h : p) (a : A) : if decide p = true then A else B := iteD (fun _ => a) fun n => absurd h n
theorem iteDF {p : Prop} [Decidable p] {A B : Prop} (h : ¬ p) (a : B) : if decide p = true then A else B := iteD (fun n => absurd n h) fun _ => a
theorem iteDnT {p : Prop} [Decidable p] {A B : Prop} (h : p) (a : B) : if (!decide p) = true then A else B := iteDn (fun n => absurd h n) fun _ => a
theorem line_le {n : Nat} (h : n ≤ 16777216) : n ≤ sizeLine := by
  rw [sizeLine_eq]
  exact h

/-! ### the law's bag: what is drawn from it is any number below the size -/
/-- a bag stands at b, its script at L -/
def Bag (H : Hp) (L b : Addr) : Prop := ∃ (ns : List Int) (i : Nat) (big mix cnt : Int), H b = some (.lst [.ref L, .int i, .int big, .int mix, .int cnt]) ∧ H L = some (.lst (ns.map V.int)) ∧ L ≠ b
theorem Bag.same {H H' : Hp} {L b : Addr} (s : Same H H') (h : Bag H L b) : Bag H' L b := by
  obtain ⟨ns, i, big, mix, cnt, h1, h2, h3⟩ := h
  exact ⟨ns, i, big, mix, cnt, s _ _ h1, s _ _ h2, h3⟩
theorem Bag.some {H : Hp} {L b : Addr} (h : Bag H L b) : H b ≠ none := by
  obtain ⟨ns, i, big, mix, cnt, h1, h2, h3⟩ := h
  rw [h1]
  exact fun z => nomatch z
theorem Bag.someL {H : Hp} {L b : Addr} (h : Bag H L b) : H L ≠ none := by
  obtain ⟨ns, i, big, mix, cnt, h1, h2, h3⟩ := h
  rw [h2]
  exact fun z => nomatch z
/-- what was made behind the bag stands apart from it -/
theorem Bag.ne {H : Hp} {L b p : Addr} (h : Bag H L b) (n : H p = none) : p ≠ b := fun e => h.some (e ▸ n)
theorem Bag.neL {H : Hp} {L b p : Addr} (h : Bag H L b) (n : H p = none) : p ≠ L := fun e => h.someL (e ▸ n)
/-- another object was changed -/
theorem Bag.keep {H H' : Hp} {L b p : Addr} (h : Bag H L b) (k : Keep p H H') (n : p ≠ b) (n2 : p ≠ L) : Bag H' L b := by
  obtain ⟨ns, i, big, mix, cnt, h1, h2, h3⟩ := h
  exact ⟨ns, i, big, mix, cnt, k _ _ h1 n.symm, k _ _ h2 n2.symm, h3⟩
theorem Bag.mk {H : Hp} {L b : Addr} {ns : List Int} {i : Nat} {big mix cnt : Int} (hb : H b = Option.some (.lst [.ref L, .int i, .int big, .int mix, .int cnt])) (hL : H L = Option.some (.lst (ns.map V.int))) (n : L ≠ b) : Bag H L b :=
  ⟨ns, i, big, mix, cnt, hb, hL, n⟩

/-! ### fields by name -/
theorem lk0 {a : Str} {v : V} {r : List (Str × V)} : ((a, v) :: r).lookup a = some v := by simp [List.lookup]
theorem lk1 {a b : Str} {u : V} {o : Option V} {r : List (Str × V)} (h : (b == a) = false) (k : r.lookup b = o) : ((a, u) :: r).lookup b = o := by
  simp only [List.lookup, h]
  exact k
theorem lkn {b : Str} : ([] : List (Str × V)).lookup b = none := rfl
theorem putF_nil {f : Str} {v : V} : putF f v [] = [(f, v)] := rfl
theorem putF_ne {f g : Str} {u v : V} {r : List (Str × V)} (h : ¬ g = f) : putF f v ((g, u) :: r) = (g, u) :: putF f v r := if_neg h
theorem putF_eq {f : Str} {u v : V} {r : List (Str × V)} : putF f v ((f, u) :: r) = (f, v) :: r := if_pos rfl
theorem same_made {H H2 : Hp} {x dx C : Addr} (nx : H x = none) (nd : H dx = none) (ne : dx ≠ x) (k : Keep x (upd (upd H dx (.own x)) x (.ins C dx [])) H2) : Same H H2 := fun a o e => by
  have n1 := ne_of_none e nx
  have n2 := ne_of_none e nd
  exact k a o (by rw [upd_ne n1, upd_ne n2]; exact e) n1

/-! ### an own exception class, made without arguments -/
theorem pmk_own0 {X : Cx} {C : Addr} {bmB : List Value} {B newId initId : String} {x : Str} {p pos : Pos} (F : ExcBaseFacts B newId initId bmB) (q : PySem.W.excIn X.K C bmB newId = true) (gC : X.mg x = some (.ref C))
    (kC : PySem.W.keepIn X.K (.ref C) = true) (r : Raises X (.ref C)) (hg : Gl X x) (hdb : (x == ("__debug__" : Str)) = false := by decide) : L2N.PMk X (.Call (.Name x p) [] [] pos) (fun _ H Q => Q (.ref C) none H) := by
  intro pins s σ H Q I h
  refine wpAny_Call_Name_kw (ld_glob I hg gC ?_ hdb)
  refine PySem.W.callWith_K0 I.kIn kC ?_
  obtain ⟨bm, N, nm, qn, bs, hdct, sn, sub, ab, col, dd, k0, k1, k2, k3, k5, mN, hC, hN, hni, T⟩ := exc_obj I.kIn q
  refine wpAny_call_exc_subT F T hC hN hni (fun h' e hm => ?_) (Nat.zero_le _)
  exact L2N.mk_of I hm r h (I.hok.gone hm.new)

theorem erase_perm {α : Type} : ∀ {l : List α} {i : Nat} (h : i < l.length), (l[i] :: l.eraseIdx i).Perm l
  | a :: l, 0, _ => .refl _
  | a :: l, i + 1, h => by
    have ih := erase_perm (l := l) (i := i) (by simpa using h)
    simp only [List.getElem_cons_succ, List.eraseIdx_cons_succ]
    exact (List.Perm.swap _ _ _).trans (.cons _ ih)
/-! ### numbers in lowest terms -/
/-- a / b in lowest terms -/
def nrmC (a b : Int) : Int := if b < 0 then -((Nat.gcd a.natAbs b.natAbs : Nat) : Int) else ((Nat.gcd a.natAbs b.natAbs : Nat) : Int)
def nrm (a b : Int) : Int × Int := (a.fdiv (nrmC a b), b.fdiv (nrmC a b))
theorem nrmC_ne {a b : Int} (h : b ≠ 0) : nrmC a b ≠ 0 := by
  have g : 0 < Nat.gcd a.natAbs b.natAbs := Nat.gcd_pos_of_pos_right _ (by omega)
  unfold nrmC
  split <;> omega
theorem nrmC_abs {a b : Int} : (nrmC a b).natAbs = Nat.gcd a.natAbs b.natAbs := by
  unfold nrmC
  split <;> omega
theorem nrmC_log {a b : Int} (h : b ≠ 0) (hb : b.natAbs.log2 < 9000) : (nrmC a b).natAbs.log2 < 9000 := by
  rw [nrmC_abs]
  have g : Nat.gcd a.natAbs b.natAbs ≤ b.natAbs := Nat.gcd_le_right _ (by omega)
  have hb2 : b.natAbs < 2 ^ 9000 := (Nat.log2_lt (by omega)).mp hb
  exact (Nat.log2_lt (by have := Nat.gcd_pos_of_pos_right a.natAbs (show 0 < b.natAbs by omega); omega)).mpr (Nat.lt_of_le_of_lt g hb2)
theorem nrmC_dvd_a {a b : Int} : nrmC a b ∣ a := by
  have h : ((Nat.gcd a.natAbs b.natAbs : Nat) : Int) ∣ a := Int.ofNat_dvd_left.mpr (Nat.gcd_dvd_left _ _)
  unfold nrmC
  split
  · exact Int.neg_dvd.mpr h
  · exact h
theorem nrmC_dvd_b {a b : Int} : nrmC a b ∣ b := by
  have h : ((Nat.gcd a.natAbs b.natAbs : Nat) : Int) ∣ b := Int.ofNat_dvd_left.mpr (Nat.gcd_dvd_right _ _)
  unfold nrmC
  split
  · exact Int.neg_dvd.mpr h
  · exact h
theorem fdiv_mul {a c : Int} (h : c ∣ a) : a.fdiv c * c = a := Int.fdiv_mul_cancel h
theorem nrm_a {a b : Int} : (nrm a b).1 * nrmC a b = a := fdiv_mul nrmC_dvd_a
theorem nrm_b {a b : Int} : (nrm a b).2 * nrmC a b = b := fdiv_mul nrmC_dvd_b
/-- in lowest terms -/
structure Red (t b : Int) : Prop where
  pos : 0 < b
  cop : Nat.gcd t.natAbs b.natAbs = 1
theorem nrm_red {a b : Int} (h : b ≠ 0) : Red (nrm a b).1 (nrm a b).2 := by
  have e1 := nrm_a (a := a) (b := b)
  have e2 := nrm_b (a := a) (b := b)
  have hc := nrmC_ne (a := a) h
  refine ⟨?_, ?_⟩
  · have s : (0 < b ∧ 0 < nrmC a b) ∨ (b < 0 ∧ nrmC a b < 0) := by
      have g : 0 < Nat.gcd a.natAbs b.natAbs := Nat.gcd_pos_of_pos_right _ (by omega)
      unfold nrmC
      split <;> omega
    rcases s with ⟨s1, s2⟩ | ⟨s1, s2⟩
    · exact Int.pos_of_mul_pos_left (by rw [e2]; exact s1) s2
    · refine Int.pos_of_mul_pos_left (b := -nrmC a b) ?_ (by omega)
      rw [Int.mul_neg, e2]
      omega
  · have g : 0 < Nat.gcd a.natAbs b.natAbs := Nat.gcd_pos_of_pos_right _ (by omega)
    have f1 : (nrm a b).1.natAbs * Nat.gcd a.natAbs b.natAbs = a.natAbs := by
      have := congrArg Int.natAbs e1
      rw [Int.natAbs_mul, nrmC_abs] at this
      exact this
    have f2 : (nrm a b).2.natAbs * Nat.gcd a.natAbs b.natAbs = b.natAbs := by
      have := congrArg Int.natAbs e2
      rw [Int.natAbs_mul, nrmC_abs] at this
      exact this
    have f3 : Nat.gcd ((nrm a b).1.natAbs * Nat.gcd a.natAbs b.natAbs) ((nrm a b).2.natAbs * Nat.gcd a.natAbs b.natAbs) = Nat.gcd a.natAbs b.natAbs := by rw [f1, f2]
    rw [Nat.gcd_mul_right] at f3
    exact Nat.eq_of_mul_eq_mul_right g (by rw [f3, Nat.one_mul])
theorem nrm_cross {a b : Int} : (nrm a b).1 * b = a * (nrm a b).2 := by
  have e1 := nrm_a (a := a) (b := b)
  have e2 := nrm_b (a := a) (b := b)
  have h : (nrm a b).1 * ((nrm a b).2 * nrmC a b) = (nrm a b).1 * nrmC a b * (nrm a b).2 := by
    rw [Int.mul_assoc, Int.mul_comm (nrmC a b)]
  rw [e1, e2] at h
  exact h
theorem Red.uniq {t b t' b' : Int} (h : Red t b) (h' : Red t' b') (e : t * b' = t' * b) : t = t' ∧ b = b' := by
  have hb := h.pos
  have hb' := h'.pos
  have f : t.natAbs * b'.natAbs = t'.natAbs * b.natAbs := by
    have := congrArg Int.natAbs e
    rw [Int.natAbs_mul, Int.natAbs_mul] at this
    exact this
  have c : Nat.Coprime b.natAbs t.natAbs := (Nat.gcd_comm _ _).trans h.cop
  have c' : Nat.Coprime b'.natAbs t'.natAbs := (Nat.gcd_comm _ _).trans h'.cop
  have d1 : b.natAbs ∣ b'.natAbs := c.dvd_of_dvd_mul_left ⟨t'.natAbs, by rw [f, Nat.mul_comm]⟩
  have d2 : b'.natAbs ∣ b.natAbs := c'.dvd_of_dvd_mul_left ⟨t.natAbs, by rw [← f, Nat.mul_comm]⟩
  have eb : b = b' := by
    have := Nat.dvd_antisymm d1 d2
    omega
  subst eb
  exact ⟨Int.eq_of_mul_eq_mul_right (by omega) e, rfl⟩
/-- which fraction stands for the number doesn't matter -/
theorem nrm_same {a b c d : Int} (hb : b ≠ 0) (hd : d ≠ 0) (e : a * d = c * b) : nrm a b = nrm c d := by
  have h1 := nrm_cross (a := a) (b := b)
  have h2 := nrm_cross (a := c) (b := d)
  have k : (nrm a b).1 * (nrm c d).2 = (nrm c d).1 * (nrm a b).2 := by
    refine Int.eq_of_mul_eq_mul_right (a := b * d) (Int.mul_ne_zero hb hd) ?_
    calc (nrm a b).1 * (nrm c d).2 * (b * d) = ((nrm a b).1 * b) * (d * (nrm c d).2) := by ac_rfl
      _ = (a * (nrm a b).2) * (d * (nrm c d).2) := by rw [h1]
      _ = (a * d) * ((nrm a b).2 * (nrm c d).2) := by ac_rfl
      _ = (c * b) * ((nrm a b).2 * (nrm c d).2) := by rw [e]
      _ = (c * (nrm c d).2) * ((nrm a b).2 * b) := by ac_rfl
      _ = ((nrm c d).1 * d) * ((nrm a b).2 * b) := by rw [h2]
      _ = (nrm c d).1 * (nrm a b).2 * (b * d) := by ac_rfl
  obtain ⟨e1, e2⟩ := (nrm_red hb).uniq (nrm_red hd) k
  exact Prod.ext e1 e2
theorem nrm_id {t b : Int} (h : Red t b) : nrm t b = (t, b) := by
  have hb := h.pos
  obtain ⟨e1, e2⟩ := (nrm_red (a := t) (b := b) (by omega)).uniq h nrm_cross
  exact Prod.ext e1 e2
theorem red_one {t : Int} : Red t 1 := ⟨by decide, by simp⟩
theorem nrm_one {t : Int} : nrm t 1 = (t, 1) := nrm_id red_one

theorem nrm_zero {a b : Int} (h : b ≠ 0) : (nrm a b).1 = 0 ↔ a = 0 := by
  have e := nrm_a (a := a) (b := b)
  have c := nrmC_ne (a := a) h
  constructor
  · intro z
    rw [z, Int.zero_mul] at e
    exact e.symm
  · intro z
    rw [z] at e
    rcases Int.mul_eq_zero.mp e with u | u
    · rw [z]
      exact u
    · rw [z] at c
      exact absurd u c
theorem nrm_ne {a b : Int} (h : b ≠ 0) : (nrm a b).2 ≠ 0 := by
  have := (nrm_red (a := a) h).pos
  omega
/-- a quotient of numbers in lowest terms -/
theorem nrm_over {a b c d : Int} (hb : b ≠ 0) (hd : d ≠ 0) (hc : c ≠ 0) : nrm ((nrm a b).1 * (nrm c d).2) ((nrm a b).2 * (nrm c d).1) = nrm (a * d) (b * c) := by
  have h1 := nrm_cross (a := a) (b := b)
  have h2 := nrm_cross (a := c) (b := d)
  have n1 := nrm_ne (a := a) hb
  have n2 : (nrm c d).1 ≠ 0 := fun z => hc ((nrm_zero hd).mp z)
  refine nrm_same (Int.mul_ne_zero n1 n2) (Int.mul_ne_zero hb hc) ?_
  calc (nrm a b).1 * (nrm c d).2 * (b * c) = ((nrm a b).1 * b) * (c * (nrm c d).2) := by ac_rfl
    _ = (a * (nrm a b).2) * ((nrm c d).1 * d) := by rw [h1, h2]
    _ = a * d * ((nrm a b).2 * (nrm c d).1) := by ac_rfl

/-! ### Ratios -/
/-- the ratio t / b stands at p -/
def RatAt (ca : Nat → Addr) (H : Hp) (p : Addr) (t b : Int) : Prop := Red t b ∧ ∃ dx, H p = some (.ins (ca 2) dx [("top", .int t), ("bottom", .int b)])
theorem RatAt.same {ca : Nat → Addr} {H H' : Hp} {p : Addr} {t b : Int} (h : RatAt ca H p t b) (s : Same H H') : RatAt ca H' p t b := ⟨h.1, let ⟨dx, e⟩ := h.2; ⟨dx, s _ _ e⟩⟩
/-- a number: an int, or a ratio -/
def NumV (ca : Nat → Addr) (H : Hp) (x : V) (t b : Int) : Prop := (x = .int t ∧ b = 1) ∨ ∃ p, x = .ref p ∧ RatAt ca H p t b
theorem NumV.same {ca : Nat → Addr} {H H' : Hp} {x : V} {t b : Int} (h : NumV ca H x t b) (s : Same H H') : NumV ca H' x t b :=
  h.imp id fun ⟨p, e, r⟩ => ⟨p, e, r.same s⟩
theorem NumV.red {ca : Nat → Addr} {H : Hp} {x : V} {t b : Int} (h : NumV ca H x t b) : Red t b := by
  rcases h with ⟨_, rfl⟩ | ⟨p, _, r⟩
  · exact red_one
  · exact r.1
theorem kit_self {K : PySem.W.Frag} {v : Value} : PySem.W.kitOne K v v = some true := if_pos (beq_iff_eq.mpr rfl)
theorem put_rat {x y : V} : putF "bottom" y (putF "top" x []) = ([("top", x), ("bottom", y)] : List (Str × V)) := by
  rw [putF_nil, putF_ne (by decide +kernel), putF_nil]
theorem lt164 {z : Int} (h0 : -(10 ^ 49 + 2) < z) (h : z < 10 ^ 49 + 2) : z.natAbs < 2 ^ 164 := by
  have e : (2 : Nat) ^ 164 = 23384026197294446691258957323460528314494920687616 := by decide
  have e2 : (10 : Int) ^ 49 = 10000000000000000000000000000000000000000000000000 := by decide
  rw [e]
  rw [e2] at h0 h
  omega
theorem lg164 {z : Int} (h : z.natAbs < 2 ^ 164) : z.natAbs.log2 < 9000 := Nat.lt_trans (PySem.Flt.log2_lt_of (by decide) h) (by decide)
theorem RatAt.mk {ca : Nat → Addr} {H : Hp} {p dx : Addr} {t b : Int} (h : Red t b) (e : H p = some (.ins (ca 2) dx [("top", .int (nrm t b).1), ("bottom", .int (nrm t b).2)])) : RatAt ca H p t b := by
  rw [nrm_id h] at e
  exact ⟨h, dx, e⟩
theorem RatAt.of {ca : Nat → Addr} {H : Hp} {p dx : Addr} {t b : Int} (h : b ≠ 0) (e : H p = some (.ins (ca 2) dx [("top", .int (nrm t b).1), ("bottom", .int (nrm t b).2)])) : RatAt ca H p (nrm t b).1 (nrm t b).2 := ⟨nrm_red h, dx, e⟩
theorem nrm_le1 {a b : Int} (h : b ≠ 0) : (nrm a b).1.natAbs ≤ a.natAbs := by
  have e := congrArg Int.natAbs (nrm_a (a := a) (b := b))
  rw [Int.natAbs_mul] at e
  have c : 0 < (nrmC a b).natAbs := by have := nrmC_ne (a := a) h; omega
  rw [← e]
  exact Nat.le_mul_of_pos_right _ c
theorem nrm_le2 {a b : Int} (h : b ≠ 0) : (nrm a b).2.natAbs ≤ b.natAbs := by
  have e := congrArg Int.natAbs (nrm_b (a := a) (b := b))
  rw [Int.natAbs_mul] at e
  have c : 0 < (nrmC a b).natAbs := by have := nrmC_ne (a := a) h; omega
  rw [← e]
  exact Nat.le_mul_of_pos_right _ c
/-- a pair of ints in lowest terms, none of them large -/
structure TupR (H : Hp) (p : Addr) (t b : Int) : Prop where
  red : Red t b
  st : t.natAbs < 2 ^ 170
  sb : b.natAbs < 2 ^ 170
  at_ : H p = some (.tup [.int t, .int b])
theorem tup_ne {H : Hp} {L b p : Addr} {xs : List V} (B : Bag H L b) (e : H p = some (.tup xs)) : p ≠ b := by
  obtain ⟨ns, i, big, mix, cnt, h1, _⟩ := B
  exact ne_of e h1 fun z => nomatch z
theorem TupR.keep {H H' : Hp} {L b p : Addr} {t u : Int} (h : TupR H p t u) (B : Bag H L b) (k : Keep b H H') : TupR H' p t u := ⟨h.red, h.st, h.sb, k _ _ h.at_ (tup_ne B h.at_)⟩
theorem TupR.same {H H' : Hp} {p : Addr} {t u : Int} (h : TupR H p t u) (s : Same H H') : TupR H' p t u := ⟨h.red, h.st, h.sb, s _ _ h.at_⟩
theorem TupR.of {H : Hp} {p : Addr} {a b : Int} (hb : b ≠ 0) (sa : a.natAbs < 2 ^ 164) (sb : b.natAbs < 2 ^ 164) (e : H p = some (.tup [.int (nrm a b).1, .int (nrm a b).2])) : TupR H p (nrm a b).1 (nrm a b).2 :=
  ⟨nrm_red hb, Nat.lt_of_le_of_lt (nrm_le1 hb) (Nat.lt_trans sa (by decide)), Nat.lt_of_le_of_lt (nrm_le2 hb) (Nat.lt_trans sb (by decide)), e⟩
theorem lg170 {z : Int} (h : z.natAbs < 2 ^ 170) : z.natAbs.log2 < 9000 := Nat.lt_trans (PySem.Flt.log2_lt_of (by decide) h) (by decide)
theorem m170 {x y : Int} (h : x.natAbs < 2 ^ 170) (h2 : y.natAbs < 2 ^ 170) : IntMulOk x y := mok_w h h2
theorem eqv2 {a b c d : Int} : PyData.eqv (.tuple [.int a, .int b]) (.tuple [.int c, .int d]) = decide (a = c ∧ b = d) := by
  by_cases h1 : a = c <;> by_cases h2 : b = d <;> simp [PyData.eqv, PyData.eqvAll, h1, h2]
/-- two pairs of ints, compared -/
theorem eqT {K : PySem.W.Frag} {H : Hp} {p q : Addr} {a b c d : Int} {Q : VK} (hp : H p = some (.tup [.int a, .int b])) (hq : H q = some (.tup [.int c, .int d])) (k : Q (.bl (decide (a = c ∧ b = d))) H) : rEqD K (.ref p) (.ref q) H Q := by
  refine ⟨.tuple [.int a, .int b], .tuple [.int c, .int d], .tup (SqT.of hp) (.cons (.int _) (.cons (.int _) .nil)), .tup (SqT.of hq) (.cons (.int _) (.cons (.int _) .nil)), rfl, rfl, ?_⟩
  rw [eqv2]
  exact k
theorem neT {K : PySem.W.Frag} {H : Hp} {p q : Addr} {a b c d : Int} {Q : VK} (hp : H p = some (.tup [.int a, .int b])) (hq : H q = some (.tup [.int c, .int d])) (k : Q (.bl (!decide (a = c ∧ b = d))) H) : rNeD K (.ref p) (.ref q) H Q := by
  refine ⟨.tuple [.int a, .int b], .tuple [.int c, .int d], .tup (SqT.of hp) (.cons (.int _) (.cons (.int _) .nil)), .tup (SqT.of hq) (.cons (.int _) (.cons (.int _) .nil)), rfl, rfl, ?_⟩
  rw [eqv2]
  exact k
theorem iteNv {x y : V} {A B : Prop} (h : x = y) (b : B) : if (!decide (x = y)) = true then A else B := by
  rw [decide_eq_true h]
  exact iteF b
def dueN (w a0 a1 b0 b1 : Int) : Int × Int := if w = 0 then (a0, b0) else if w = 1 then (a0 * b1, a1 * b0) else if w = 2 then (a0, a1 * b0) else (a0 * b1, b0)
theorem due_ne {w a0 a1 b0 b1 : Int} (h1 : a1 ≠ 0) (h3 : b1 ≠ 0) (h2 : b0 ≠ 0) : (dueN w a0 a1 b0 b1).2 ≠ 0 := by
  unfold dueN
  split
  · exact h2
  · split
    · exact Int.mul_ne_zero h1 h2
    · split
      · exact Int.mul_ne_zero h1 h2
      · exact h2
theorem due_log {w a0 a1 b0 b1 : Int} (s1 : a1.natAbs < 2 ^ 170) (s2 : b0.natAbs < 2 ^ 170) (_ : b1.natAbs < 2 ^ 170) : (dueN w a0 a1 b0 b1).2.natAbs.log2 < 9000 := by
  have m3 : (a1 * b0).natAbs.log2 < 9000 := Nat.lt_trans (PySem.Flt.log2_lt_of (by decide) (wide_lt s1 s2)) (by decide)
  unfold dueN
  split
  · exact lg170 s2
  · split
    · exact m3
    · split
      · exact m3
      · exact lg170 s2
/-! ### sizes -/
def Sz (n : Nat) (z : Int) : Prop := z.natAbs < 2 ^ n
theorem Sz.mono {n m : Nat} {z : Int} (h : Sz n z) (l : n ≤ m := by decide) : Sz m z := Nat.lt_of_lt_of_le h (Nat.pow_le_pow_right (by decide) l)
theorem Sz.mul {n m : Nat} {x y : Int} (h : Sz n x) (k : Sz m y) : Sz (n + m) (x * y) := by
  unfold Sz
  rw [Int.natAbs_mul, Nat.pow_add]
  exact Nat.mul_lt_mul_of_lt_of_le h (Nat.le_of_lt k) (Nat.two_pow_pos _)
theorem Sz.add {n m : Nat} {x y : Int} (h : Sz n x) (k : Sz m y) : Sz (n + m + 1) (x + y) := by
  unfold Sz at *
  have a : 2 ^ n ≤ 2 ^ (n + m) := Nat.pow_le_pow_right (by decide) (Nat.le_add_right _ _)
  have b : 2 ^ m ≤ 2 ^ (n + m) := Nat.pow_le_pow_right (by decide) (Nat.le_add_left _ _)
  rw [Nat.pow_succ]
  omega
/-- both of the same size -/
theorem Sz.add' {n : Nat} {x y : Int} (h : Sz n x) (k : Sz n y) : Sz (n + 1) (x + y) := by
  unfold Sz at *
  rw [Nat.pow_succ]
  omega
theorem Sz.neg {n : Nat} {x : Int} (h : Sz n x) : Sz n (-x) := by
  unfold Sz at *
  omega
theorem Sz.sub {n m : Nat} {x y : Int} (h : Sz n x) (k : Sz m y) : Sz (n + m + 1) (x - y) := by
  rw [Int.sub_eq_add_neg]
  exact h.add k.neg
theorem Sz.sub' {n : Nat} {x y : Int} (h : Sz n x) (k : Sz n y) : Sz (n + 1) (x - y) := by
  unfold Sz at *
  rw [Nat.pow_succ]
  omega
theorem Sz.lg {n : Nat} {x : Int} (h : Sz n x) (l : n ≤ 8999 := by decide) (l0 : 0 < n := by decide) : x.natAbs.log2 < 9000 :=
  Nat.lt_of_lt_of_le (PySem.Flt.log2_lt_of l0 h) (Nat.le_succ_of_le l)
theorem Sz.mok {n m : Nat} {x y : Int} (h : Sz n x) (k : Sz m y) (h0 : 0 < n := by decide) (h1 : 0 < m := by decide) (l : n + m ≤ 1000000 := by decide) : IntMulOk x y := mok_w h k h0 h1 l
theorem Sz.le {n : Nat} {x y : Int} (h : Sz n x) (l : y.natAbs ≤ x.natAbs) : Sz n y := Nat.lt_of_le_of_lt l h
theorem Sz.one : Sz 1 1 := show (1 : Int).natAbs < 2 ^ 1 by decide
theorem Sz.zero : Sz 1 0 := show (0 : Int).natAbs < 2 ^ 1 by decide

/-! ### fractions, and the ratios that stand for them -/
theorem nrm_add {a b c d : Int} (hb : b ≠ 0) (hd : d ≠ 0) : nrm ((nrm a b).1 * (nrm c d).2 + (nrm c d).1 * (nrm a b).2) ((nrm a b).2 * (nrm c d).2) = nrm (a * d + c * b) (b * d) := by
  have h1 := nrm_cross (a := a) (b := b)
  have h2 := nrm_cross (a := c) (b := d)
  refine nrm_same (Int.mul_ne_zero (nrm_ne hb) (nrm_ne hd)) (Int.mul_ne_zero hb hd) ?_
  rw [Int.add_mul, Int.add_mul]
  congr 1
  · calc (nrm a b).1 * (nrm c d).2 * (b * d) = ((nrm a b).1 * b) * (d * (nrm c d).2) := by ac_rfl
      _ = a * (nrm a b).2 * (d * (nrm c d).2) := by rw [h1]
      _ = a * d * ((nrm a b).2 * (nrm c d).2) := by ac_rfl
  · calc (nrm c d).1 * (nrm a b).2 * (b * d) = ((nrm c d).1 * d) * (b * (nrm a b).2) := by ac_rfl
      _ = c * (nrm c d).2 * (b * (nrm a b).2) := by rw [h2]
      _ = c * b * ((nrm a b).2 * (nrm c d).2) := by ac_rfl
theorem nrm_neg {a b : Int} (hb : b ≠ 0) : nrm (-a) b = (-(nrm a b).1, (nrm a b).2) := by
  have h1 := nrm_cross (a := a) (b := b)
  have r := nrm_red (a := a) hb
  rw [← nrm_id (t := -(nrm a b).1) (b := (nrm a b).2) ⟨r.pos, by rw [Int.natAbs_neg]; exact r.cop⟩]
  refine nrm_same hb (nrm_ne hb) ?_
  rw [Int.neg_mul, Int.neg_mul, h1]
theorem nrm_sub {a b c d : Int} (hb : b ≠ 0) (hd : d ≠ 0) : nrm ((nrm a b).1 * (nrm c d).2 - (nrm c d).1 * (nrm a b).2) ((nrm a b).2 * (nrm c d).2) = nrm (a * d - c * b) (b * d) := by
  have h := nrm_add (a := a) (c := -c) hb hd
  rw [nrm_neg hd] at h
  simp only [Int.neg_mul, ← Int.sub_eq_add_neg] at h
  exact h
theorem nrm_mul {a b c d : Int} (hb : b ≠ 0) (hd : d ≠ 0) : nrm ((nrm a b).1 * (nrm c d).1) ((nrm a b).2 * (nrm c d).2) = nrm (a * c) (b * d) := by
  have h1 := nrm_cross (a := a) (b := b)
  have h2 := nrm_cross (a := c) (b := d)
  refine nrm_same (Int.mul_ne_zero (nrm_ne hb) (nrm_ne hd)) (Int.mul_ne_zero hb hd) ?_
  calc (nrm a b).1 * (nrm c d).1 * (b * d) = ((nrm a b).1 * b) * ((nrm c d).1 * d) := by ac_rfl
    _ = a * (nrm a b).2 * (c * (nrm c d).2) := by rw [h1, h2]
    _ = a * c * ((nrm a b).2 * (nrm c d).2) := by ac_rfl
/-- the amount of a number -/
def iab (a : Int) : Int := if a < 0 then -a else a
theorem iab_nat {a : Int} : iab a = (a.natAbs : Int) := by unfold iab; split <;> omega
theorem Sz.iab {n : Nat} {x : Int} (h : Sz n x) : Sz n (iab x) := h.le (by rw [iab_nat]; exact Nat.le_of_eq (Int.natAbs_natCast _))
theorem nrm_abs {a b : Int} (hb : b ≠ 0) : nrm (iab (nrm a b).1) (nrm a b).2 = nrm (iab a) (iab b) := by
  have h1 := congrArg Int.natAbs (nrm_cross (a := a) (b := b))
  have r := nrm_red (a := a) hb
  rw [Int.natAbs_mul, Int.natAbs_mul] at h1
  have e : ((nrm a b).2.natAbs : Int) = (nrm a b).2 := Int.natAbs_of_nonneg (Int.le_of_lt r.pos)
  refine nrm_same (nrm_ne hb) (by rw [iab_nat]; omega) ?_
  rw [iab_nat, iab_nat, iab_nat, ← e, ← Int.natCast_mul, ← Int.natCast_mul, h1]
/-- the ratio of a / b stands at p -/
structure RatQ (ca : Nat → Addr) (H : Hp) (p : Addr) (a b : Int) : Prop where
  ne : b ≠ 0
  at_ : RatAt ca H p (nrm a b).1 (nrm a b).2
theorem RatQ.same {ca : Nat → Addr} {H H' : Hp} {p : Addr} {a b : Int} (h : RatQ ca H p a b) (s : Same H H') : RatQ ca H' p a b := ⟨h.ne, h.at_.same s⟩
theorem rsame {ca : Nat → Addr} {H H' : Hp} {p : Addr} {a b : Int} (s : Same H H') (h : RatQ ca H p a b) : RatQ ca H' p a b := h.same s
theorem strans {H H1 H2 : Hp} (t : Same H1 H2) (s : Same H H1) : Same H H2 := s.trans t
theorem RatQ.to {ca : Nat → Addr} {H : Hp} {p : Addr} {a b c d : Int} (h : RatQ ca H p a b) (hd : d ≠ 0) (e : a * d = c * b) : RatQ ca H p c d := ⟨hd, by rw [← nrm_same h.ne hd e]; exact h.at_⟩
theorem RatQ.ins {ca : Nat → Addr} {H : Hp} {p : Addr} {a b : Int} (h : RatQ ca H p a b) : ∃ dx, H p = some (.ins (ca 2) dx [("top", .int (nrm a b).1), ("bottom", .int (nrm a b).2)]) := h.at_.2
theorem RatQ.of {ca : Nat → Addr} {H : Hp} {p dx : Addr} {a b a' b' : Int} (hb : b ≠ 0) (e : H p = some (.ins (ca 2) dx [("top", .int (nrm a' b').1), ("bottom", .int (nrm a' b').2)])) (n : nrm a' b' = nrm a b) : RatQ ca H p a b :=
  ⟨hb, by rw [n] at e; exact RatAt.of hb e⟩
/-- a number that is a / b: an int, or a ratio -/
def NumQ (ca : Nat → Addr) (H : Hp) (x : V) (a b : Int) : Prop := (x = .int a ∧ b = 1) ∨ ∃ p, x = .ref p ∧ RatQ ca H p a b
theorem NumQ.same {ca : Nat → Addr} {H H' : Hp} {x : V} {a b : Int} (h : NumQ ca H x a b) (s : Same H H') : NumQ ca H' x a b := h.imp id fun ⟨p, e, r⟩ => ⟨p, e, r.same s⟩
theorem NumQ.ne {ca : Nat → Addr} {H : Hp} {x : V} {a b : Int} (h : NumQ ca H x a b) : b ≠ 0 := by
  rcases h with ⟨_, rfl⟩ | ⟨_, _, r⟩
  · decide
  · exact r.ne
theorem NumQ.num {ca : Nat → Addr} {H : Hp} {x : V} {a b : Int} (h : NumQ ca H x a b) : NumV ca H x (nrm a b).1 (nrm a b).2 := by
  rcases h with ⟨rfl, rfl⟩ | ⟨p, e, r⟩
  · rw [nrm_one]
    exact .inl ⟨rfl, rfl⟩
  · exact .inr ⟨p, e, r.at_⟩
theorem RatQ.num {ca : Nat → Addr} {H : Hp} {p : Addr} {a b : Int} (h : RatQ ca H p a b) : NumQ ca H (.ref p) a b := .inr ⟨p, rfl, h⟩
theorem NumQ.int {ca : Nat → Addr} {H : Hp} {a : Int} : NumQ ca H (.int a) a 1 := .inl ⟨rfl, rfl⟩
theorem rOwn_of {ca : Nat → Addr} {H : Hp} {p : Addr} {x : V} {a b a' b' : Int} {sp : Sp} {E : XK} {Q : VK} (h : RatQ ca H p a b) (n : NumQ ca H x a' b') (k : sp [.ref p, x] H Q E) : rOwn (ca 2) sp E (.ref p) x H Q := by
  obtain ⟨dx, e⟩ := h.ins
  refine ⟨p, dx, _, rfl, e, ?_, k⟩
  rcases n with ⟨rfl, rfl⟩ | ⟨q, rfl, r⟩
  · exact .inl ⟨_, rfl⟩
  · obtain ⟨dy, e2⟩ := r.ins
    exact .inr ⟨q, dy, _, rfl, e2⟩
theorem rRefl_of {ca : Nat → Addr} {H : Hp} {p : Addr} {i a b : Int} {sp : Sp} {E : XK} {Q : VK} (h : RatQ ca H p a b) (k : sp [.ref p, .int i] H Q E) : rRefl (ca 2) sp E (.int i) (.ref p) H Q := by
  obtain ⟨dx, e⟩ := h.ins
  exact ⟨i, p, dx, _, rfl, rfl, e, k⟩
theorem rUna_of {ca : Nat → Addr} {H : Hp} {p : Addr} {a b : Int} {sp : Sp} {E : XK} {Q : VK} (h : RatQ ca H p a b) (k : sp [.ref p] H Q E) : rUna (ca 2) sp E (.ref p) H Q := by
  obtain ⟨dx, e⟩ := h.ins
  exact ⟨p, dx, _, rfl, e, k⟩
/-- sums of fractions, from the left -/
def sumQ : Int × Int → List (Int × Int) → Int × Int := List.foldl fun x y => (x.1 * y.2 + y.1 * x.2, x.2 * y.2)
theorem sumQ_size : ∀ (fs : List (Int × Int)) (z : Int × Int) (n : Nat), (∀ f ∈ fs, Sz 200 f.1 ∧ Sz 200 f.2) → Sz n z.1 → Sz n z.2 → Sz (n + 201 * fs.length) (sumQ z fs).1 ∧ Sz (n + 201 * fs.length) (sumQ z fs).2
  | [], z, n, _, h1, h2 => ⟨h1, h2⟩
  | f :: fs, z, n, hf, h1, h2 => by
    obtain ⟨f1, f2⟩ := hf f List.mem_cons_self
    have g1 : Sz (n + 201) (z.1 * f.2 + f.1 * z.2) := ((h1.mul f2).add' ((f1.mul h2).mono (by omega))).mono (by omega)
    have g2 : Sz (n + 201) (z.2 * f.2) := (h2.mul f2).mono (by omega)
    obtain ⟨r1, r2⟩ := sumQ_size fs (z.1 * f.2 + f.1 * z.2, z.2 * f.2) (n + 201) (fun g hg => hf g (List.mem_cons_of_mem _ hg)) g1 g2
    rw [List.length_cons]
    exact ⟨r1.mono (by omega), r2.mono (by omega)⟩
theorem sumQ_ne : ∀ (fs : List (Int × Int)) (z : Int × Int), (∀ f ∈ fs, f.2 ≠ 0) → z.2 ≠ 0 → (sumQ z fs).2 ≠ 0
  | [], _, _, h => h
  | f :: fs, z, hf, h => sumQ_ne fs (z.1 * f.2 + f.1 * z.2, z.2 * f.2) (fun g hg => hf g (List.mem_cons_of_mem _ hg)) (Int.mul_ne_zero h (hf f List.mem_cons_self))
theorem sumQ_app {fs : List (Int × Int)} {z f : Int × Int} : sumQ z (fs ++ [f]) = ((sumQ z fs).1 * f.2 + f.1 * (sumQ z fs).2, (sumQ z fs).2 * f.2) := by
  unfold sumQ
  rw [List.foldl_append]
  rfl
/-- a sum whose first part alone is in lowest terms -/
theorem nrm_addL {a b c d : Int} (hb : b ≠ 0) (hd : d ≠ 0) : nrm ((nrm a b).1 * d + c * (nrm a b).2) ((nrm a b).2 * d) = nrm (a * d + c * b) (b * d) := by
  have h1 := nrm_cross (a := a) (b := b)
  refine nrm_same (Int.mul_ne_zero (nrm_ne hb) hd) (Int.mul_ne_zero hb hd) ?_
  rw [Int.add_mul, Int.add_mul]
  congr 1
  · calc (nrm a b).1 * d * (b * d) = ((nrm a b).1 * b) * (d * d) := by ac_rfl
      _ = a * (nrm a b).2 * (d * d) := by rw [h1]
      _ = a * d * ((nrm a b).2 * d) := by ac_rfl
  · ac_rfl
theorem RatQ.low {ca : Nat → Addr} {H : Hp} {p : Addr} {a b : Int} (h : RatQ ca H p a b) : RatQ ca H p (nrm a b).1 (nrm a b).2 := h.to (nrm_ne h.ne) nrm_cross.symm
/-! ### what another object's change leaves -/
theorem Bag.lst {H : Hp} {L b : Addr} (h : Bag H L b) : ∃ xs, H b = Option.some (.lst xs) := by
  obtain ⟨ns, i, big, mix, cnt, h1, _⟩ := h
  exact ⟨_, h1⟩
theorem RatQ.put {ca : Nat → Addr} {H H' : Hp} {p c : Addr} {a b : Int} {xs : List V} (h : RatQ ca H p a b) (e : H c = some (.lst xs)) (k : Keep c H H') : RatQ ca H' p a b :=
  ⟨h.ne, h.at_.1, let ⟨dx, q⟩ := h.at_.2; ⟨dx, k _ _ q (ne_of q e fun z => nomatch z)⟩⟩
theorem NumQ.put {ca : Nat → Addr} {H H' : Hp} {c : Addr} {x : V} {a b : Int} {xs : List V} (h : NumQ ca H x a b) (e : H c = some (.lst xs)) (k : Keep c H H') : NumQ ca H' x a b := h.imp id fun ⟨p, q, r⟩ => ⟨p, q, r.put e k⟩
theorem tput {H H' : Hp} {p c : Addr} {ys xs : List V} (h : H p = some (.tup ys)) (e : H c = some (.lst xs)) (k : Keep c H H') : H' p = some (.tup ys) := k _ _ h (ne_of h e fun z => nomatch z)
/-- a number with its fraction -/
def Item (ca : Nat → Addr) (H : Hp) (z : V) : Prop := ∃ t x v a b, z = .ref t ∧ H t = some (.tup [x, .ref v]) ∧ H v = some (.tup [.int a, .int b]) ∧ NumQ ca H x a b ∧ Sz 200 a ∧ Sz 200 b
theorem Item.put {ca : Nat → Addr} {H H' : Hp} {c : Addr} {z : V} {xs : List V} (h : Item ca H z) (e : H c = some (.lst xs)) (k : Keep c H H') : Item ca H' z := by
  obtain ⟨t, x, v, a, b, rfl, h1, h2, n, s⟩ := h
  exact ⟨t, x, v, a, b, rfl, tput h1 e k, tput h2 e k, n.put e k, s⟩
theorem Item.same {ca : Nat → Addr} {H H' : Hp} {z : V} (h : Item ca H z) (s : Same H H') : Item ca H' z := by
  obtain ⟨t, x, v, a, b, rfl, h1, h2, n, z⟩ := h
  exact ⟨t, x, v, a, b, rfl, s _ _ h1, s _ _ h2, n.same s, z⟩
/-- the numbers of a list and their fractions, beside each other -/
def Nums (ca : Nat → Addr) (H : Hp) : List V → List (Int × Int) → Prop := Paired fun x f => NumQ ca H x f.1 f.2 ∧ Sz 200 f.1 ∧ Sz 200 f.2
theorem paired_get {α β : Type} {F : α → β → Prop} : ∀ {xs : List α} {fs : List β} {i : Nat} {x : α} {f : β}, Paired F xs fs → xs[i]? = some x → fs[i]? = some f → F x f
  | _, _, 0, _, _, .cons r _, h1, h2 => by
    simp at h1 h2
    subst h1; subst h2
    exact r
  | _, _, i + 1, _, _, .cons _ t, h1, h2 => paired_get (i := i) t (by simpa using h1) (by simpa using h2)
theorem paired_mem {α β : Type} {F : α → β → Prop} : ∀ {xs : List α} {fs : List β}, Paired F xs fs → ∀ f ∈ fs, ∃ x, F x f
  | _, _, .cons r t, f, h => by
    rcases List.mem_cons.mp h with rfl | h
    · exact ⟨_, r⟩
    · exact paired_mem t f h
theorem Nums.same {ca : Nat → Addr} {H H' : Hp} {xs : List V} {fs : List (Int × Int)} (h : Nums ca H xs fs) (s : Same H H') : Nums ca H' xs fs := Paired.mapP h fun _ _ n => ⟨n.1.same s, n.2⟩
theorem Nums.put {ca : Nat → Addr} {H H' : Hp} {c : Addr} {xs ys : List V} {fs : List (Int × Int)} (h : Nums ca H xs fs) (e : H c = some (.lst ys)) (k : Keep c H H') : Nums ca H' xs fs := Paired.mapP h fun _ _ n => ⟨n.1.put e k, n.2⟩
theorem Nums.ne {ca : Nat → Addr} {H : Hp} {xs : List V} {fs : List (Int × Int)} (h : Nums ca H xs fs) : ∀ f ∈ fs, f.2 ≠ 0 := fun f m => let ⟨_, n⟩ := paired_mem h f m; n.1.ne
theorem Nums.sz {ca : Nat → Addr} {H : Hp} {xs : List V} {fs : List (Int × Int)} (h : Nums ca H xs fs) : ∀ f ∈ fs, Sz 200 f.1 ∧ Sz 200 f.2 := fun f m => let ⟨_, n⟩ := paired_mem h f m; n.2
/-! ### lists of the same things -/
def DId : Eqv := fun x y H => DFlat x y H ∨ ∃ a, x = .ref a ∧ y = .ref a
theorem mon_id : Mon DId := fun _ _ _ _ _ d => d
theorem eqG_id {X : Cx} : EqG X 0 DId := EqG.or eqG_flat fun A pins s σ H x y u v sb I rx ry d => by
  obtain ⟨a, rfl, rfl⟩ := d
  cases rx
  cases ry
  exact SeqAt.EqAt.same (A := A) (s := s) (.ref a) X.prog X.w X.xe _ ⟨rfl, H, I, Ext.rfl'⟩
theorem op_eqId {X : Cx} (hr : Room 1 X.A) : OpR X (compareOp .Eq) (rEqG (DList DId)) := op_eqG (rcG_list mon_id eqG_id) hr
/-! ### a static method, called on its class -/
structure OwnS (P : Program) (w : World) (K : PySem.W.Frag) (mg : Str → Option Value) (base : Heap) (k : Nat) (C : Addr) (m : Str) (ps : List Str) (sp : Sp) : Prop where
  ex : ∃ f fd p mc, FnOk P w K mg base (L2N.CX P w) k f fd ps sp ∧ ClX.CRead K C mc ∧ PySem.W.findCls K (.ref C) mc m = some (.get (.builtin "staticmethod.__get__") (.ref p) .none (.ref C)) ∧ (∃ rest, PySem.W.recIn K p "staticmethod" = some (.ref f :: rest)) ∧
    PySem.W.keepIn K (.ref f) = true ∧ Binds K fd ps []
def tStatS (C : Addr) (sp : Sp) (E : L2.St → XK) (ta : TE) (t : TA) : TE := fun σ H Q => ta σ H fun x H1 => x = .ref C ∧ t σ H1 fun vs H2 => sp vs H2 Q (E σ)
theorem pe_owns {X : Cx} {k : Nat} {C : Addr} {m : Str} {ps : List Str} {sp : Sp} {E : L2.St → XK} {pos apos : Pos} {e o : Expr} {es : List Expr} {ta : TE} {t : TA} {pl : Sem Bool} (O : OwnS X.prog X.w X.K X.mg X.base k C m ps sp) (he : PE X o ta) (hr : Room k X.A)
    (hx : ∀ σ, PassesAt (L2N.CX X.prog X.w) X σ (E σ)) (ha : PA X (e :: es) t)
    (hst : starEach (e :: es) X.env = (false, eval e X.env) :: starEach es X.env := by rfl) (hpl : (backTo pos (starEach es X.env)).any (·.1) = false := by rfl)
    (ht : eval (.Call (.Attribute o m apos) (e :: es) [] pos) X.env = (do
      let ov ← eval o X.env
      standAt apos.atName
      let (f, first) ← holding [ov] (getMethod ov m pl)
      callWith pos f first (backTo pos (starEach (e :: es) X.env)) (backToKw pos (keywordEach [] X.env))) := by rfl) :
    PE X (.Call (.Attribute o m apos) (e :: es) [] pos) (tStatS C sp E ta t) := by
  obtain ⟨f, fd, q, mc, F, r, hc, ⟨rest, hp⟩, hk, hb⟩ := O.ex
  refine ⟨fun pins s σ H Q I h => ?_⟩
  refine PySem.W.methodCall_KW (pl := pl) (thn (he.run pins s σ H _ I h) fun u s1 ⟨x, H1, I1, rx, ex, q1⟩ => ?_) ht
  subst ex
  obtain rfl : u = Value.ref C := rx
  refine PySem.W.method_cls I1.kIn r.ga (PySem.W.cls_bind I1.kIn r.rd hc ?_)
  refine wpAny_call (PySem.W.sm_get (s := { s1 with toks := s1.toks + 1 }) I1.kIn hp (PySem.W.handed_on rfl ?_))
  have I2 := I1.tok (s1.toks + 1)
  refine PySem.W.callWith_K (first := []) (h₀ := X.base) I.ok.mod.kin hk (thn (ha.run pos pins _ σ H1 _ I2 q1) fun us s2 ⟨vs, H2, I3, rv, q2⟩ => ⟨I3.kIn, ?_⟩) hst hpl
  exact run_fnS F hr hb (hx σ) I3 rv q2
/-! ### an own error that is caught -/
theorem exm1 {K : PySem.W.Frag} {C : Addr} (h1 : PySem.W.subIn K (.ref C) (.type "BaseException") = some true) (h2 : PySem.W.isClsIn K C = true) (h3 : PySem.W.typeIn K (.ref C) = some (.type "type")) (h4 : PySem.W.subIn K (.ref C) (.ref C) = some true) :
    PySem.W.exmOne K (.ref C) (.ref C) = some true := by
  have h2' : (PySem.W.clsIn K C).isSome = true := h2
  unfold PySem.W.exmOne PySem.W.kitCls
  rw [if_pos (by rw [h1]; rfl)]
  simp only [h2', h3, h4]
  rfl
def tGuard (p : Prop) (t : TS) : TS := fun D σ H => p ∧ t D σ H
theorem pss_err {X : Cx} {st : List Stmt} {t : TS} {cls : Value} {d : Option Addr} {oe : Obj} {C : Addr} (hz : Zc cls d oe) (h : Zc (.ref C) none oe → PSs X st t) : PSs X st (tGuard (cls = .ref C ∧ d = none) t) :=
  ⟨fun pins s σ H D I q => (h (q.1.1 ▸ q.1.2 ▸ hz)).run pins s σ H D I q.2⟩
/-! ### the law's own promise, and the end -/
def sp_law (K : PySem.W.Frag) (_ : Nat → Addr) : Sp := fun vs H Q _ => ∃ (a : Addr) (ns : List Int), vs = [.ref a] ∧ SqL K H a (ns.map V.int) ∧ ∀ H' : Hp, Q (.bl true) H'
theorem walk {l : PySem.W.OpenLaw} {q : Program} {loose : List Str} {XP : (Str → Option Value) → Heap → Prop} {YP : World → Heap → Prop} {d : DefRec} {K : Params → PySem.W.Frag} (k : Nat) (hk : Room k callerA) (hn : l.most = some 63) (hdf : d.params.defaults = [])
    (hY : ∀ (w : World) (h : Heap), YP w h → (K w.params).In h)
    (F : ∀ (w : World) (mg : Str → Option Value) (fa : Addr) (h : Heap), (K w.params).In h → h.Ns mainGlobals mg → mg d.name = some (.ref fa) →
      ∃ fd : FuncData, (∀ (s : Shared) (u : Value), BindsTo s fd ⟨[u], []⟩ [("_law_script", u)]) ∧ ∀ base : Heap, (K w.params).In base → base.Ns mainGlobals mg → FnOk l.prog w (K w.params) mg base (L2N.CX l.prog w) k fa fd ["_law_script"] (sp_law (K w.params) fun _ => 0)) :
    PySem.W.WalkO q loose XP YP l.row.toRowW d [] (fun f vs => PySem.call f vs) :=
  L2.walk_of (n := 63) (k := k) (x := "_law_script") (CX := fun w => L2N.CX l.prog w) (sp := fun w => sp_law (K w.params) fun _ => 0) hn (by decide) hdf hk hY F (fun _ _ a ns _ _ hS => ⟨a, ns, rfl, hS, fun _ => rfl⟩)
    fun _ _ _ _ _ h => by
      obtain ⟨_, _, _, _, _, _, _, _, _, _, _, _, z⟩ := h
      exact z
theorem binds_all {K : PySem.W.Frag} {fd : FuncData} {ps : List Str} {ds : List Value} (v : Vals [] ds) (b : L2.Binds K fd ps ds) : L2.Binds K fd ps [] := by
  cases v
  exact b
end Lo

set_option Elab.async false
set_option linter.all false
set_option maxRecDepth 100000
set_option maxHeartbeats 4000000
namespace Lo
open PySem PySem.Spec PyProof.Rows L2
open TL (tl tl_append)
/-! ### further rules -/
/-- a statement that is never reached -/
def tDead : TS := fun _ _ _ => False
theorem ps_dead {X : Cx} {st : Stmt} : PS X st tDead := ⟨fun _ _ _ _ _ _ h => h.elim⟩
theorem pe_const {X : Cx} {x : Str} {i : Int} {p : Pos} (hm : ∃ t, X.mg x = some (.int i t)) (hg : Gl X x) (hdb : (x == ("__debug__" : Str)) = false := by decide) : PE X (.Name x p) (tC (.int i)) := by
  obtain ⟨t, h⟩ := hm
  exact pe_glob hg h ⟨t, rfl⟩ hdb
theorem op_mulS {X : Cx} : OpR X (binaryOp .Mult) (fun x y H Q => ∃ z n, x = .str z ∧ y = .int n ∧ MulOk z n ∧ Q (.str (Txt.mul z n)) H) := by
  intro pins s σ H x y v u Q I rx ry h
  obtain ⟨z, n, rfl, rfl, hok, q⟩ := h
  obtain ⟨t, rfl⟩ := rx
  obtain ⟨t2, rfl⟩ := ry
  exact SB.mul hok fun t' k => ⟨.str (Txt.mul z n), H, I.tok _, ⟨t', rfl⟩, q⟩
section
variable {X : Cx} {k i : Nat} {C : Addr} {ps : List Str} {sp : Sp} {E : L2.St → XK} {x m y : Str} {p pos apos : Pos} {e o : Expr} {es : List Expr} {ta : TE} {t : TA} {dvs : List V}
/-- C() -/
theorem pe_owni0 (O : OwnI X.prog X.w X.K X.mg X.base k x C ps dvs sp) (hr : Room (k + 1) X.A) (hg : Gl X x) (hx : ∀ σ, PassesAt (L2N.CX X.prog X.w) X σ (E σ)) (hdb : (x == ("__debug__" : Str)) = false := by decide) :
    PE X (.Call (.Name x p) [] [] pos) (tMakeS C sp dvs E tNil) := by
  obtain ⟨f, fd, ds, F, M, hm, hb, hd⟩ := O.ex
  refine ⟨fun pins s σ H Q I h => ?_⟩
  refine wpAny_Call_Name_kw (ld_glob I hg hm ?_ hdb)
  exact PySem.W.callWith_K0 I.kIn M.kp (run_makeS (us := []) (vs := []) M F hr hb hd (hx σ) I .nil h)
/-- cls(..), cls a name of the def that holds the class -/
def tMakeL (i : Nat) (C : Addr) (sp : Sp) (dvs : List V) (E : L2.St → XK) (t : TA) : TE := fun σ H Q => σ[i]? = some (some (.ref C)) ∧ tMakeS C sp dvs E t σ H Q
theorem pe_ownl (O : OwnI X.prog X.w X.K X.mg X.base k x C ps dvs sp) (hr : Room (k + 1) X.A) (hN : X.N[i]? = some y) (hv : Vis X.env.scope y) (hx : ∀ σ, PassesAt (L2N.CX X.prog X.w) X σ (E σ)) (ha : PA X (e :: es) t)
    (hdb : (y == ("__debug__" : Str)) = false := by decide) (hcd : (y == ("__classdict__" : Str)) = false := by decide)
    (he : starEach (e :: es) X.env = (false, eval e X.env) :: starEach es X.env := by rfl) (hpl : (backTo pos (starEach es X.env)).any (·.1) = false := by rfl) :
    PE X (.Call (.Name y p) (e :: es) [] pos) (tMakeL i C sp dvs E t) := by
  obtain ⟨f, fd, ds, F, M, hm, hb, hd⟩ := O.ex
  refine ⟨fun pins s σ H Q I h => ?_⟩
  obtain ⟨hs, ht⟩ := h
  refine wpAny_Call_Name_kw (thn ((pe_var (pos := p) hN hv hdb hcd).run pins s σ H (fun v H1 => v = .ref C ∧ H1 = H) I ⟨.ref C, hs, rfl, rfl⟩) fun u s1 ⟨v, H1, I1, r1, q1⟩ => ?_)
  obtain ⟨rfl, rfl⟩ := q1
  cases r1
  refine PySem.W.callWith_K (h₀ := X.base) I.ok.mod.kin M.kp (thn (ha.run pos pins s1 σ _ _ I1 ht) fun us s2 ⟨vs, H2, I2, r, q⟩ => ⟨I2.kIn, ?_⟩) he hpl
  exact run_makeS M F hr hb hd (hx σ) I2 r q
end
/-- a field, the written part by its own name (within a comprehension) -/
theorem pe_fldK {X : Cx} {K : PySem.W.Frag} {e : Expr} {ta : TE} {f : Str} {pos : Pos} (he : PE X e ta) (hb : attributeBase e f X.env (eval e X.env) = eval e X.env) (hK : X.K = K) : PE X (.Attribute e f pos) (tFld K ta f) := by
  subst hK
  exact pe_fld he hb
/-- a class method, called on its class -/
structure OwnC (P : Program) (w : World) (K : PySem.W.Frag) (mg : Str → Option Value) (base : Heap) (k : Nat) (C : Addr) (m : Str) (ps : List Str) (sp : Sp) : Prop where
  ex : ∃ f fd p mc, FnOk P w K mg base (L2N.CX P w) k f fd ps sp ∧ ClX.CRead K C mc ∧ ClX.CMet K C mc m p f ∧ Binds K fd ps []
theorem pe_ownc {X : Cx} {k : Nat} {C : Addr} {m : Str} {ps : List Str} {sp : Sp} {E : XK} {pos apos : Pos} {e o : Expr} {es : List Expr} {ta : TE} {t : TA} {pl : Sem Bool} (O : OwnC X.prog X.w X.K X.mg X.base k C m ps sp) (he : PE X o ta) (hr : Room k X.A)
    (hx : Passes (L2N.CX X.prog X.w) X E) (ha : PA X (e :: es) t)
    (hst : starEach (e :: es) X.env = (false, eval e X.env) :: starEach es X.env := by rfl) (hpl : (backTo pos (starEach es X.env)).any (·.1) = false := by rfl)
    (ht : eval (.Call (.Attribute o m apos) (e :: es) [] pos) X.env = (do
      let ov ← eval o X.env
      standAt apos.atName
      let (f, first) ← holding [ov] (getMethod ov m pl)
      callWith pos f first (backTo pos (starEach (e :: es) X.env)) (backToKw pos (keywordEach [] X.env))) := by rfl) :
    PE X (.Call (.Attribute o m apos) (e :: es) [] pos) (ClX.tCMeth C sp E ta t) := by
  obtain ⟨f, fd, q, mc, F, r, c, hb⟩ := O.ex
  exact ClX.pe_cmeth he r c ((F.raw hb .nil).imp fun vs H Q E h => by rw [List.append_nil]; exact h) hr hx ha hst hpl ht
/-! ### an instance of another class on the right -/
section
open PySem.W
variable {prog : Program} {w : World} {A : Around} {E : Value → Shared → Prop} {s : Shared} {x y C D f g : Addr} {K : Frag} {ox oy : Obj} {od od' : Option Obj} {nm : String} {Q : Option Value → Shared → Prop} {rc ro : Option Value}
theorem bin1_other (X : K.In s.heap) (I : InstAt s.heap x ox C od) (J : InstAt s.heap y oy D od') (hc : selfFirst K C = true) (hs : findIn K (.ref C) (PySem.dunder nm) = some (some (.ref f))) (hf : isFn K (.ref f) = true) (hr : findIn K (.ref C) (dunderR nm) = some rc) (hp : rc = none ∨ ∃ g : Addr, rc = some (.ref g))
    (hcD : selfFirst K D = true) (hsD : findIn K (.ref D) (PySem.dunder nm) = some (some (.ref g))) (hrD : findIn K (.ref D) (dunderR nm) = some ro) (hpD : ro = none ∨ ∃ g : Addr, ro = some (.ref g)) (hne : C ≠ D) (hsub : subIn K (.ref D) (.ref C) = some false)
    (h : wpAny (model prog w) A (call (.ref f) [.ref x, .ref y]) (PySem.W.CmpBack fun v => Q (some v)) E s) : wpAny (model prog w) A (binaryOp1 nm (.ref x) (.ref y)) Q E s := by
  have one := ksp_try X I hs hf h
  have L3 : Looks (model prog w) s.heap (fillsNumberSlot (.ref C) nm) true := slot_fills X hc hs
  have L4 : Looks (model prog w) s.heap (fillsNumberSlot (.ref D) nm) true := slot_fills X hcD hsD
  have L1 : Looks (model prog w) s.heap (typeOf (.ref x)) (.ref C) := I.type
  have L2 : Looks (model prog w) s.heap (typeOf (.ref y)) (.ref D) := J.type
  have L5 : Looks (model prog w) s.heap (isSubtype (.ref D) (.ref C)) false := looks_subIn X hsub
  have L6 : Looks (model prog w) s.heap (numberSlotInPython (.ref C) nm) true := ksp_inPy X hs hr hp
  have L7 : Looks (model prog w) s.heap (numberSlotInPython (.ref D) nm) true := ksp_inPy X hsD hrD hpD
  have hne : (Value.ref C == Value.ref D) = false := Bool.eq_false_iff.mpr fun q => hne (Value.ref.inj (beq_iff_eq.mp q))
  obtain ⟨hh, gg, d, tt, os⟩ := s
  unfold binaryOp1
  refine wpAny_bind (L1.at (wpAny_bind (L2.at (wpAny_bind (L3.at ?_)))))
  simp only [hne, Bool.false_eq_true, if_false]
  ksp_lk
  refine wpAny_mono one (fun r s' hr => ?_) fun _ _ e => e
  obtain ⟨v, rfl, hq⟩ := hr
  ksp_lk
  exact hq
end
section
variable {X : Cx} {k : Nat} {C D : Addr} {ps : List Str} {sp : Sp} {E : XK}
/-- an instance of C on the left; an int, or an instance of C or of D on the right -/
def rOwnN (C D : Addr) (sp : Sp) (E : XK) : R2 := fun x y H Q => ∃ a dx fs, x = .ref a ∧ H a = some (.ins C dx fs) ∧ ((∃ i, y = .int i) ∨ (∃ b dy gs, y = .ref b ∧ H b = some (.ins C dy gs)) ∨ ∃ b dy gs, y = .ref b ∧ H b = some (.ins D dy gs)) ∧ sp [x, y] H Q E
theorem op_ownN (o : AOp) (A : Arith X.K C) (B : Arith X.K D) (hne : C ≠ D) (hsub : PySem.W.subIn X.K (.ref D) (.ref C) = some false) (O : OwnM X.prog X.w X.K X.mg X.base k C o.m ps sp) (hr : Room k X.A) (hx : Passes (L2N.CX X.prog X.w) X E) :
    OpR X (binaryOp o.op) (rOwnN C D sp E) := by
  intro pins s σ H x y v u Q I rx ry h
  obtain ⟨a, dx, fs, ex, ha, hy, hsp⟩ := h
  rcases hy with h1 | h1 | ⟨b, dy, gs, ey, hb'⟩
  · exact op_own o A O hr hx pins s σ H x y v u Q I rx ry ⟨a, dx, fs, ex, ha, .inl h1, hsp⟩
  · exact op_own o A O hr hx pins s σ H x y v u Q I rx ry ⟨a, dx, fs, ex, ha, .inr h1, hsp⟩
  · subst ex
    subst ey
    obtain rfl : v = Value.ref a := rx
    obtain rfl : u = Value.ref b := ry
    obtain ⟨f, fd, Fo, hm, hb⟩ := O.ex
    obtain ⟨_, od, J⟩ := inst_at I ha
    obtain ⟨_, od2, J2⟩ := inst_at I hb'
    have h1 : PySem.W.findIn X.K (.ref C) (PySem.dunder o.op.info.2) = some (some (.ref f)) := by rw [o.em]; exact hm.at_
    have refl_of : ∀ {c : Addr}, Arith X.K c → ∃ rc, PySem.W.findIn X.K (.ref c) (dunderR o.op.info.2) = some rc ∧ refOr rc = true := by
      intro c A
      rw [o.er]
      obtain ⟨a, b, c, q1, q2, q3⟩ := A.refl
      cases o
      · exact ⟨_, q1⟩
      · exact ⟨_, q2⟩
      · exact ⟨_, q3⟩
    obtain ⟨rc, h2, hrc⟩ := refl_of A
    obtain ⟨rd, h3, hrd⟩ := refl_of B
    obtain ⟨g, h4⟩ : ∃ g : Addr, PySem.W.findIn X.K (.ref D) (PySem.dunder o.op.info.2) = some (some (.ref g)) := by
      rw [o.em]
      obtain ⟨a, b, c, q1, q2, q3⟩ := B.has
      cases o
      · exact ⟨_, q1⟩
      · exact ⟨_, q2⟩
      · exact ⟨_, q3⟩
    have run := run_fn (us := [.ref a, .ref b]) (vs := [.ref a, .ref b]) (dvs := []) Fo hr hb .nil hx I (.cons rfl (.cons rfl .nil)) hsp
    have run2 := wpAny_mono run (fun u s' q => back_of (R := fun v s' => ∃ z, some v = some z ∧ EP X pins σ Q z s') q fun v s' q => ⟨v, rfl, q⟩) fun _ _ e => e
    exact bin_of1 (bin1_other I.kIn J J2 A.sf h1 hm.fn h2 (refOr_of hrc) B.sf h4 h3 (refOr_of hrd) hne hsub run2)
end
/-! ### name = {..} of a comprehension, the name a local -/
theorem ps_setDc {X : Cx} {slot : Nat} {nm : Str} {np : Pos} {ke ve target src : Expr} {tests : List Expr} {sc : Scope} {mine : List (Str × Nat)} {pc ps : Pos} {ti : TI} {tg : TG} {tt : TT} {tk tv : TE} (calm : X.calm = true) (nodup : X.N.Nodup) (at_ : X.N[slot]? = some nm)
    (loc : X.env.scope.names.lookup nm = some .local) (sw : swapsWith (.DictComp ke ve [⟨target, src, tests, 0⟩] sc pc) (some (.Name nm np)) ps.line X.env = pure true) (over : PI X target src ti) (blk : BlkOk X.N X.env.scope sc mine)
    (pg : ∀ (s1 : Shared) (H1 : Hp) (c1 : Addr) (l1 : List (Str × Addr)) (f1 : List Addr), PG (X.blk s1 H1 sc (compEnvC sc l1 c1 X.env) f1) target tg)
    (pt : ∀ (s1 : Shared) (H1 : Hp) (c1 : Addr) (l1 : List (Str × Addr)) (f1 : List Addr), PTs (X.blk s1 H1 sc (compEnvC sc l1 c1 X.env) f1) tests tt)
    (pk : ∀ (s1 : Shared) (H1 : Hp) (c1 : Addr) (l1 : List (Str × Addr)) (f1 : List Addr), PE (X.blk s1 H1 sc (compEnvC sc l1 c1 X.env) f1) ke tk)
    (pv : ∀ (s1 : Shared) (H1 : Hp) (c1 : Addr) (l1 : List (Str × Addr)) (f1 : List Addr), PE (X.blk s1 H1 sc (compEnvC sc l1 c1 X.env) f1) ve tv) (fold : ∀ x, foldedSetIterable src X.env x = pure x := by intro _; rfl) :
    PS X (.Assign [.Name nm np] (.DictComp ke ve [⟨target, src, tests, 0⟩] sc pc) ps) (tAsg (tDc ti tg tt tk tv (mine.map (·.2))) (gName slot)) := by
  refine ⟨fun pins s σ H D I want => ?_⟩
  rw [exec_Assign_Name_used _ _ _ _ sw]
  refine wpAny_bind (wpAny_standAt (wpAny_bind ?_))
  show wpAny _ X.A (do let _ ← comprehension (.DictComp ke ve [⟨target, src, tests, 0⟩] sc pc) sc X.env (firstIterPos [⟨target, src, tests, 0⟩] pc) newDict false (eval src X.env) (some (assign (.Name nm np) X.env))) _ _ s
  have want : tDc ti tg tt tk tv (mine.map (·.2)) σ H (fun x H1 => gName slot x σ H1 D.nx) := want
  refine wpAny_bind (thn (dc_core (Qf := fun _ s' => SP X pins D .next s') calm nodup I over blk pg pt pk pv fold want fun new C s' m H' I' q ns fp => ?_) fun _ s' hq => wpAny_pure (wpAny_pure hq))
  show wpAny _ _ (assign (.Name nm np) X.env (.ref new)) _ _ _
  refine wpAny_assign_Name (store_ok2 (v := V.ref new) I' nodup at_ (.inl loc) rfl (fun s2 I2 ⟨a, sb, ha⟩ => ?_) (.inr loc))
  obtain ⟨g0, g1, g2, g3, g4, g5⟩ := fp
  have apart : C ≠ a := ha.elim (fun z => z ▸ g1) fun z e => g4 nm a z e.symm
  exact ⟨m, ns.sameBut sb apart, fun h3 sb3 => ⟨_, H', I2.turned (t' := s2.toks) (fun b o hb e => (sb3.2 b hb).trans e) g0 g1 g3 g4 g5, q⟩⟩
theorem sw_trueD {ke ve : Expr} {gs : List Comprehension} {sc : Scope} {pc np : Pos} {nm : Str} {l : Nat} {env : Env} (kind : env.scope.kind = .function) (loc : env.scope.names.lookup nm = some .local) (line : (np.line == pc.line) = true)
    (other : (sc.names.any fun (n, k) => n == nm && (k == .local || k == .cell)) = false) : swapsWith (.DictComp ke ve gs sc pc) (some (.Name nm np)) l env = pure true := by
  have one : env.kindOf nm = some .local := loc
  have two : env.blockKind = .function := by unfold Env.blockKind; rw [kind]; rfl
  unfold swapsWith
  simp only [two, one, other, Expr.pos, line]
  rfl
/-! ### words of letters -/
def Lets (z : Str) : Prop := ∀ c ∈ tl z, 97 ≤ c ∧ c ≤ 122
structure NameOk (z : Str) : Prop where
  le : z.length ≤ 12
  ne : 0 < z.length
  ls : Lets z
theorem lets_app {x y : Str} (h : Lets x) (k : Lets y) : Lets (x ++ y) := fun c m => by
  rw [tl_append] at m
  rcases List.mem_append.mp m with m | m
  · exact h c m
  · exact k c m
theorem len_app {x y : Str} : (x ++ y).length = x.length + y.length := by
  show (x.cps ++ y.cps).size = _
  rw [Array.size_append]
  rfl
theorem lets_cut {z : Str} {lo hi : Option Int} (h : Lets z) : Lets (cutS z lo hi) := fun c m => h c (by
  have m : c ∈ (z.cps.toList.drop (HT.sIx z.length 0 lo)).take (HT.sIx z.length z.length hi - HT.sIx z.length 0 lo) := by
    have e : tl (cutS z lo hi) = (z.cps.toList.drop (HT.sIx z.length 0 lo)).take (HT.sIx z.length z.length hi - HT.sIx z.length 0 lo) := by
      unfold cutS tl
      rfl
    rw [e] at m
    exact m
  exact List.mem_of_mem_drop (List.mem_of_mem_take m))
theorem len_cuts {z : Str} {w : Int} : (cutS z none (some w)).length + (cutS z (some w) none).length = z.length := by
  unfold cutS Str.length
  have e1 : HT.sIx z.cps.size 0 none = 0 := rfl
  have e2 : HT.sIx z.cps.size z.cps.size none = z.cps.size := rfl
  have e3 : HT.sIx z.cps.size z.cps.size (some w) = HT.sIx z.cps.size 0 (some w) := rfl
  have e4 := HT.sIx_le z.cps.size 0 (Nat.zero_le _) (some w)
  simp only [Str.length, e1, e2, e3, List.size_toArray, List.length_take, List.length_drop, Array.length_toList]
  omega
theorem lets_one {c : Nat} (h : 97 ≤ c ∧ c ≤ 122) : Lets ⟨#[c]⟩ := fun d m => by
  have e : d = c := by simpa [tl] using m
  subst e
  exact h
theorem len_one {c : Nat} : (⟨#[c]⟩ : Str).length = 1 := rfl
theorem lets_nil : Lets Str.empty := fun c m => by simp [tl, Str.empty] at m
theorem mul_01 {z : Str} {n : Int} (h : n = 0 ∨ n = 1) : MulOk z n ∧ (Txt.mul z n = Str.empty ∨ Txt.mul z n = z) := by
  rcases h with rfl | rfl
  · exact ⟨⟨by decide, fun z => absurd (by decide) z, fun z => absurd (by decide) z⟩, .inl rfl⟩
  · exact ⟨⟨by decide, fun _ z => by simp at z, fun _ z => by simp at z⟩, .inr rfl⟩
theorem uni_alpha : ∀ c : Fin 26, Unicode.isAlpha (97 + c) = true ∧ Unicode.isLower (97 + c) = true ∧ Unicode.isUpper (97 + c) = false ∧ Unicode.isTitle (97 + c) = false := by decide +kernel
theorem uni_of {c : Nat} (h : 97 ≤ c ∧ c ≤ 122) : Unicode.isAlpha c = true ∧ Unicode.isLower c = true ∧ Unicode.isUpper c = false ∧ Unicode.isTitle c = false := by
  have := uni_alpha ⟨c - 97, by omega⟩
  have e : 97 + (c - 97) = c := by omega
  simp only [e] at this
  exact this
def nmB (z : Str) : Bool := decide (z.length ≤ 12) && (Txt.isascii z && (Txt.isalpha z && Txt.islower z))
theorem NameOk.asc {z : Str} (h : NameOk z) : Txt.isascii z = true := by
  unfold Txt.isascii
  rw [← Array.all_toList, List.all_eq_true]
  intro c m
  have := h.ls c m
  exact decide_eq_true (by omega)
theorem NameOk.alp {z : Str} (h : NameOk z) : Txt.isalpha z = true := by
  unfold Txt.isalpha
  rw [Bool.and_eq_true]
  refine ⟨decide_eq_true h.ne, ?_⟩
  rw [← Array.all_toList, List.all_eq_true]
  exact fun c m => (uni_of (h.ls c m)).1
theorem NameOk.low {z : Str} (h : NameOk z) : Txt.islower z = true := by
  unfold Txt.islower
  rw [Bool.and_eq_true, ← Array.any_toList, List.any_eq_true, Bool.not_eq_true', ← Array.any_toList, List.any_eq_false]
  have n := h.ne
  refine ⟨?_, fun c m => ?_⟩
  · have m : z.cps[0]'n ∈ z.cps.toList := by simpa using Array.getElem_mem n
    exact ⟨z.cps[0]'n, m, (uni_of (h.ls _ m)).2.1⟩
  · have u := uni_of (h.ls c m)
    rw [u.2.2.1, u.2.2.2]
    decide
theorem NameOk.nm {z : Str} (h : NameOk z) : nmB z = true := by
  unfold nmB
  rw [h.asc, h.alp, h.low, decide_eq_true h.le]
  rfl
/-! ### sorted lists of words -/
theorem tl_inj {x y : Str} (h : tl x = tl y) : x = y := by
  obtain ⟨⟨a⟩⟩ := x
  obtain ⟨⟨b⟩⟩ := y
  cases (show a = b from h)
  rfl
theorem rising_pw : ∀ (p : Str) (l : List Str), risingS p l = true → (p :: l).Pairwise fun a b => ¬ tl b < tl a
  | p, [], _ => by simp
  | p, x :: r, h => by
    have h : (!ltCps x.cps.toList p.cps.toList && risingS x r) = true := h
    rw [Bool.and_eq_true, Bool.not_eq_true', ltCps_eq] at h
    have h1 : ¬ tl x < tl p := of_decide_eq_false h.1
    have ih := rising_pw x r h.2
    refine List.pairwise_cons.mpr ⟨fun y m => ?_, ih⟩
    rcases List.mem_cons.mp m with rfl | m
    · exact h1
    · have h2 := (List.pairwise_cons.mp ih).1 y m
      exact List.not_lt.mpr (List.le_trans (List.not_lt.mp h1) (List.not_lt.mp h2))
theorem sorted_pw {l : List Str} (h : sortedS l = true) : l.Pairwise fun a b => ¬ tl b < tl a := by
  cases l with
  | nil => exact .nil
  | cons x r => exact rising_pw x r h
theorem sorted_uniq {l m : List Str} (h : sortedS l = true) (k : sortedS m = true) (p : l.Perm m) : l = m :=
  List.Perm.eq_of_pairwise (fun a b _ _ h1 h2 => tl_inj (List.le_antisymm (List.not_lt.mp h1) (List.not_lt.mp h2))) (sorted_pw h) (sorted_pw k) p
theorem nodup_len {α : Type} [DecidableEq α] : ∀ {l m : List α}, l.Nodup → (∀ x ∈ l, x ∈ m) → l.length ≤ m.length
  | [], m, _, _ => Nat.zero_le _
  | x :: l, m, h, s => by
    obtain ⟨h1, h2⟩ := List.nodup_cons.mp h
    have hx := s x List.mem_cons_self
    have ih := nodup_len (l := l) (m := m.erase x) h2 fun y hy => (List.mem_erase_of_ne (fun e => h1 (by rw [← e]; exact hy))).mpr (s y (List.mem_cons_of_mem _ hy))
    rw [List.length_erase_of_mem hx] at ih
    have : 0 < m.length := List.length_pos_of_mem hx
    rw [List.length_cons]
    omega
theorem nodup_perm {α : Type} [DecidableEq α] {l m : List α} (h : l.Nodup) (k : m.Nodup) (s : ∀ x, x ∈ l ↔ x ∈ m) : l.Perm m := by
  rw [List.perm_iff_count]
  intro a
  rw [h.count, k.count]
  simp only [s a]
/-! ### tables by names -/
/-- the names that may stand in tables -/
structure Uni (N : List Str) : Prop where
  len : N.length ≤ 60
  ok : ∀ z ∈ N, NameOk z
structure KOk (N : List Str) (kvs : List (Key × V)) : Prop where
  nd : (kvs.map (·.1)).Nodup
  mem : ∀ kv ∈ kvs, ∃ z ∈ N, kv.1 = .inr z
theorem KOk.nil {N : List Str} : KOk N [] := ⟨.nil, fun _ h => nomatch h⟩
theorem KOk.len {N : List Str} {kvs : List (Key × V)} (h : KOk N kvs) : kvs.length ≤ N.length := by
  have e := nodup_len (m := N.map (Sum.inr : Str → Key)) h.nd fun k hk => by
    obtain ⟨kv, m, rfl⟩ := List.mem_map.mp hk
    obtain ⟨z, hz, e⟩ := h.mem kv m
    rw [e]
    exact List.mem_map.mpr ⟨z, hz, rfl⟩
  rw [List.length_map, List.length_map] at e
  exact e
theorem valV_mem {kvs : List (Key × V)} {k : Key} {v : V} (h : valV kvs k = some v) : (k, v) ∈ kvs := by
  unfold valV at h
  obtain ⟨p, h1, rfl⟩ := Option.map_eq_some_iff.mp h
  have e : decide (p.1 = k) = true := List.find?_some (p := fun kv : Key × V => decide (kv.1 = k)) h1
  have e := of_decide_eq_true e
  have m := List.mem_of_find?_eq_some h1
  obtain ⟨a, b⟩ := p
  cases e
  exact m
theorem valV_none {kvs : List (Key × V)} {k : Key} : valV kvs k = none ↔ k ∉ kvs.map (·.1) := by
  unfold valV
  rw [Option.map_eq_none_iff, List.find?_eq_none]
  constructor
  · intro h m
    obtain ⟨p, hp, e⟩ := List.mem_map.mp m
    exact h p hp (decide_eq_true e)
  · intro h p hp e
    exact h (List.mem_map.mpr ⟨p, hp, of_decide_eq_true e⟩)
theorem valV_of : ∀ {kvs : List (Key × V)} {k : Key} {v : V}, (kvs.map (·.1)).Nodup → (k, v) ∈ kvs → valV kvs k = some v
  | p :: r, k, v, h, m => by
    rw [List.map_cons] at h
    obtain ⟨h1, h2⟩ := List.nodup_cons.mp h
    rcases List.mem_cons.mp m with e | m
    · subst e
      exact valV_pos rfl
    · rw [valV_neg fun e => h1 (by rw [e]; exact List.mem_map.mpr ⟨_, m, rfl⟩)]
      exact valV_of h2 m
theorem KOk.put {N : List Str} {kvs : List (Key × V)} {z : Str} (h : KOk N kvs) (hz : z ∈ N) (v : V) : KOk N (putK kvs (.inr z) v) := by
  cases e : valV kvs (.inr z) with
  | none =>
    rw [putK_new v e]
    refine ⟨?_, fun kv m => ?_⟩
    · rw [List.map_append, List.nodup_append]
      refine ⟨h.nd, by simp, fun a ha b hb => ?_⟩
      have eb : b = .inr z := by simpa using hb
      rintro rfl
      rw [eb] at ha
      exact valV_none.mp e ha
    · rcases List.mem_append.mp m with m | m
      · exact h.mem kv m
      · cases List.mem_singleton.mp m
        exact ⟨z, hz, rfl⟩
  | some u =>
    have a : (kvs.any fun kv => decide (kv.1 = .inr z)) = true := by rw [valV_any, e]; rfl
    unfold putK
    rw [if_pos a]
    have hk : (kvs.map fun kv => if kv.1 = .inr z then (kv.1, v) else kv).map (·.1) = kvs.map (·.1) := by
      rw [List.map_map]
      refine List.map_congr_left fun kv _ => ?_
      show (if kv.1 = .inr z then (kv.1, v) else kv).1 = kv.1
      split <;> rfl
    refine ⟨by rw [hk]; exact h.nd, fun kv m => ?_⟩
    obtain ⟨kv', m', rfl⟩ := List.mem_map.mp m
    obtain ⟨y, hy, e'⟩ := h.mem kv' m'
    refine ⟨y, hy, ?_⟩
    split
    · exact e'
    · exact e'
theorem KOk.at_ {N : List Str} {kvs : List (Key × V)} {k : Key} {v : V} {i : Nat} (h : KOk N kvs) (e : kvs[i]? = some (k, v)) : ∃ z ∈ N, k = .inr z ∧ valV kvs (.inr z) = some v := by
  have m := List.mem_of_getElem? e
  obtain ⟨z, hz, ez⟩ := h.mem _ m
  have ez : k = .inr z := ez
  subst ez
  exact ⟨z, hz, rfl, valV_of h.nd m⟩
/-- what stands at the names -/
structure Tab (N : List Str) (R : Str → V → Prop) (Z : Str → Prop) (kvs : List (Key × V)) : Prop where
  k : KOk N kvs
  r : ∀ z v, valV kvs (.inr z) = some v → R z v
  z : ∀ z, valV kvs (.inr z) = none → Z z
theorem Tab.mono {N : List Str} {R R' : Str → V → Prop} {Z Z' : Str → Prop} {kvs : List (Key × V)} (h : Tab N R Z kvs) (a : ∀ z v, R z v → R' z v) (b : ∀ z, Z z → Z' z) : Tab N R' Z' kvs := ⟨h.k, fun z v e => a z v (h.r z v e), fun z e => b z (h.z z e)⟩
theorem Tab.off {N : List Str} {R : Str → V → Prop} {Z : Str → Prop} {kvs : List (Key × V)} (h : Tab N R Z kvs) {z : Str} (n : z ∉ N) : Z z := h.z z (by
  rw [valV_none]
  intro m
  obtain ⟨kv, m, e⟩ := List.mem_map.mp m
  obtain ⟨y, hy, e'⟩ := h.k.mem kv m
  rw [e] at e'
  cases e'
  exact n hy)
/-- the first i names of kvs are done: the new table holds what R says, or nothing where Z holds; the others are not in it -/
structure Part (N : List Str) (R : Str → V → Prop) (Z : Str → Prop) (kvs : List (Key × V)) (i : Nat) (new : List (Key × V)) : Prop where
  k : KOk N new
  r : ∀ z v, valV new (.inr z) = some v → R z v ∧ (.inr z : Key) ∈ (kvs.take i).map (·.1)
  z : ∀ z, valV new (.inr z) = none → (.inr z : Key) ∈ (kvs.take i).map (·.1) → Z z
theorem Part.start {N : List Str} {R : Str → V → Prop} {Z : Str → Prop} {kvs : List (Key × V)} : Part N R Z kvs 0 [] := ⟨.nil, fun z v e => (by rw [valV_nil] at e; cases e), fun z _ m => (by simp at m)⟩
theorem take_mem {kvs : List (Key × V)} {k y : Key} {v : V} {i : Nat} (e : kvs[i]? = some (k, v)) : y ∈ (kvs.take (i + 1)).map (·.1) ↔ y ∈ (kvs.take i).map (·.1) ∨ y = k := by
  rw [List.take_add_one, e, List.map_append, List.mem_append]
  simp
theorem Part.mono {N : List Str} {R R' : Str → V → Prop} {Z Z' : Str → Prop} {kvs new : List (Key × V)} {i : Nat} (h : Part N R Z kvs i new) (a : ∀ z v, R z v → R' z v) (b : ∀ z, Z z → Z' z) : Part N R' Z' kvs i new :=
  ⟨h.k, fun z v e => ⟨a z v (h.r z v e).1, (h.r z v e).2⟩, fun z e m => b z (h.z z e m)⟩
theorem Part.put {N : List Str} {R : Str → V → Prop} {Z : Str → Prop} {kvs new : List (Key × V)} {i : Nat} {z : Str} {v u : V} (h : Part N R Z kvs i new) (e : kvs[i]? = some (.inr z, u)) (hz : z ∈ N) (r : R z v) : Part N R Z kvs (i + 1) (putK new (.inr z) v) := by
  refine ⟨h.k.put hz v, fun y w q => ?_, fun y q m => ?_⟩
  · rw [valV_put] at q
    rw [take_mem e]
    by_cases c : (Sum.inr y : Key) = Sum.inr z
    · rw [if_pos c] at q
      cases q
      cases c
      exact ⟨r, .inr rfl⟩
    · rw [if_neg c] at q
      obtain ⟨a, b⟩ := h.r y w q
      exact ⟨a, .inl b⟩
  · rw [valV_put] at q
    by_cases c : (Sum.inr y : Key) = Sum.inr z
    · rw [if_pos c] at q
      cases q
    · rw [if_neg c] at q
      rcases (take_mem e).mp m with m | m
      · exact h.z y q m
      · exact absurd m c
theorem Part.skip {N : List Str} {R : Str → V → Prop} {Z : Str → Prop} {kvs new : List (Key × V)} {i : Nat} {z : Str} {u : V} (h : Part N R Z kvs i new) (e : kvs[i]? = some (.inr z, u)) (n : Z z) : Part N R Z kvs (i + 1) new := by
  refine ⟨h.k, fun y w q => ?_, fun y q m => ?_⟩
  · obtain ⟨a, b⟩ := h.r y w q
    exact ⟨a, (take_mem e).mpr (.inl b)⟩
  · rcases (take_mem e).mp m with m | m
    · exact h.z y q m
    · cases m
      exact n
theorem Part.done {N : List Str} {R : Str → V → Prop} {Z : Str → Prop} {kvs new : List (Key × V)} (h : Part N R Z kvs kvs.length new) (o : ∀ z, valV kvs (.inr z) = none → Z z) : Tab N R Z new := by
  refine ⟨h.k, fun z v e => (h.r z v e).1, fun z e => ?_⟩
  cases q : valV kvs (.inr z) with
  | none => exact o z q
  | some u =>
    refine h.z z e ?_
    rw [List.take_length]
    exact List.mem_map.mpr ⟨_, valV_mem q, rfl⟩
/-! ### locks -/
theorem same_lock {H H2 : Hp} {d : Addr} {od : Obj} {u : HO} (h : H d = some u) (s : Same (upd H d (.frz od u)) H2) : Same H (upd H2 d u) := fun a o e => by
  by_cases c : a = d
  · subst c
    rw [h] at e
    cases e
    exact upd_same
  · rw [upd_ne c]
    exact s a o (by rw [upd_ne c]; exact e)
/-- over what is locked already, or with a lock of its own -/
structure LkW (p q : Prop) : Prop where
  h : p ∨ q
def tLk (t : TS) : TS := fun D σ H => LkW (tLock t D σ H) (t D σ H)
def tLkE (t : TE) : TE := fun σ H Q => LkW (tLockE t σ H Q) (t σ H Q)
theorem ps_lk {X : Cx} {st : Stmt} {t : TS} (h : PS X st t) : PS X st (tLk t) := ⟨fun pins s σ H D I q => q.h.elim (fun q => (ps_lock h).run pins s σ H D I q) fun q => h.run pins s σ H D I q⟩
theorem pe_lk {X : Cx} {e : Expr} {t : TE} (h : PE X e t) : PE X e (tLkE t) := ⟨fun pins s σ H Q I q => q.h.elim (fun q => (pe_lock h).run pins s σ H Q I q) fun q => h.run pins s σ H Q I q⟩
/-- a dict comprehension over what Walk tells of -/
theorem dc_it {J : It} {n : Nat} {G : Hp → Prop} {Y : Nat → Hp → V → Hp → Prop} (w : Walk J n G Y) {g : TG} {tt : TT} {tk tv : TE} {vs : List Nat} {σ : L2.St} {H1 : Hp} {D : Addr} {Qd : Hp → Prop} (Pv : Nat → Hp → Prop) (h0 : Pv 0 (upd H1 D (.dK []))) (hG : ∀ i H, i ≤ n → Pv i H → G H)
    (hs : ∀ i x H H', i < n → Pv i H → Y i H x H' → g x (wipe σ vs) H' fun σ2 H2 => wipe σ2 vs = wipe σ vs ∧ tt σ2 H2 fun b H3 =>
      if b = true then tk σ2 H3 fun y H4 => tv σ2 H4 fun z H5 => ∃ kvs k, y = kV k ∧ H5 D = some (.dK kvs) ∧ kvs.length < sizeLine ∧ Pv (i + 1) (upd H5 D (.dK (putK kvs k z))) else Pv (i + 1) H3) (hd : ∀ H, Pv n H → Qd H) :
    ∃ W : Nat → Nat → Hp → Prop, (∃ m, W 0 m (upd H1 D (.dK []))) ∧ ∀ i m H, W i m H →
      (J.stop i H ∧ Qd H) ∨ (J.go i H ∧ ∃ Nx : Hp → Prop, (∀ H', Nx H' → ∃ m', m' < m ∧ W (i + 1) m' H') ∧ ∀ x H', J.yld i H x H' → g x (wipe σ vs) H' fun σ2 H2 => wipe σ2 vs = wipe σ vs ∧ tt σ2 H2 fun b H3 =>
        if b = true then tk σ2 H3 fun y H4 => tv σ2 H4 fun z H5 => ∃ kvs k, y = kV k ∧ H5 D = some (.dK kvs) ∧ kvs.length < sizeLine ∧ Nx (upd H5 D (.dK (putK kvs k z))) else Nx H3) := by
  refine ⟨fun i m H => m = n - i ∧ i ≤ n ∧ Pv i H, ⟨n, by simp, Nat.zero_le _, h0⟩, ?_⟩
  rintro i m H ⟨rfl, hi, p⟩
  have q := hG i H hi p
  by_cases hlt : i < n
  · refine .inr ⟨w.goes i H hlt q, Pv (i + 1), fun H' p' => ⟨n - (i + 1), by omega, rfl, hlt, p'⟩, fun x H' y => hs i x H H' hlt p (w.yields i H x H' hlt q y)⟩
  · have e : i = n := by omega
    subst e
    exact .inl ⟨w.stops H q, hd H p⟩
/-- the same over the keys of a locked dict with names -/
theorem dc_names {d : Addr} {od : Obj} {N : List Str} {kvs : List (Key × V)} (hk : KOk N kvs) {g : TG} {tt : TT} {tk tv : TE} {vs : List Nat} {σ : L2.St} {H1 : Hp} {D : Addr} {Qd : Hp → Prop} (Pv : Nat → Hp → Prop) (h0 : Pv 0 (upd H1 D (.dK [])))
    (hG : ∀ i H, i ≤ kvs.length → Pv i H → H d = some (.frz od (.dK kvs)))
    (hs : ∀ i z v H, kvs[i]? = some (.inr z, v) → z ∈ N → valV kvs (.inr z) = some v → Pv i H → g (.str z) (wipe σ vs) H fun σ2 H2 => wipe σ2 vs = wipe σ vs ∧ tt σ2 H2 fun b H3 =>
      if b = true then tk σ2 H3 fun y H4 => tv σ2 H4 fun z H5 => ∃ kvs k, y = kV k ∧ H5 D = some (.dK kvs) ∧ kvs.length < sizeLine ∧ Pv (i + 1) (upd H5 D (.dK (putK kvs k z))) else Pv (i + 1) H3) (hd : ∀ H, Pv kvs.length H → Qd H) :
    ∃ W : Nat → Nat → Hp → Prop, (∃ m, W 0 m (upd H1 D (.dK []))) ∧ ∀ i m H, W i m H →
      ((Itk d od kvs).stop i H ∧ Qd H) ∨ ((Itk d od kvs).go i H ∧ ∃ Nx : Hp → Prop, (∀ H', Nx H' → ∃ m', m' < m ∧ W (i + 1) m' H') ∧ ∀ x H', (Itk d od kvs).yld i H x H' → g x (wipe σ vs) H' fun σ2 H2 => wipe σ2 vs = wipe σ vs ∧ tt σ2 H2 fun b H3 =>
        if b = true then tk σ2 H3 fun y H4 => tv σ2 H4 fun z H5 => ∃ kvs k, y = kV k ∧ H5 D = some (.dK kvs) ∧ kvs.length < sizeLine ∧ Nx (upd H5 D (.dK (putK kvs k z))) else Nx H3) :=
  dc_it walk_keys Pv h0 hG (fun i x H H' hi p y => by
    obtain ⟨e, k, v, hkv, ex⟩ := y
    obtain ⟨z, hz, ek, hv⟩ := hk.at_ hkv
    subst e; subst ex; subst ek
    exact hs i z v _ hkv hz hv p) hd
/-- a list comprehension over the keys of a locked dict with names -/
theorem lc_names {d : Addr} {od : Obj} {N : List Str} {kvs : List (Key × V)} (hk : KOk N kvs) {g : TG} {tt : TT} {te : TE} {vs : List Nat} {σ : L2.St} {H1 : Hp} {D : Addr} {Qd : Hp → Prop} (Pv : Nat → Hp → Prop) (h0 : Pv 0 (upd H1 D (.lst [])))
    (hG : ∀ i H, i ≤ kvs.length → Pv i H → H d = some (.frz od (.dK kvs)))
    (hs : ∀ i z v H, kvs[i]? = some (.inr z, v) → z ∈ N → valV kvs (.inr z) = some v → Pv i H → g (.str z) (wipe σ vs) H fun σ2 H2 => wipe σ2 vs = wipe σ vs ∧ tt σ2 H2 fun b H3 =>
      if b = true then te σ2 H3 fun y H4 => ∃ acc, H4 D = some (.lst acc) ∧ acc.length < sizeLine ∧ Pv (i + 1) (upd H4 D (.lst (acc ++ [y]))) else Pv (i + 1) H3) (hd : ∀ H, Pv kvs.length H → Qd H) :
    ∃ W : Nat → Nat → Hp → Prop, (∃ m, W 0 m (upd H1 D (.lst []))) ∧ ∀ i m H, W i m H →
      ((Itk d od kvs).stop i H ∧ Qd H) ∨ ((Itk d od kvs).go i H ∧ ∃ Nx : Hp → Prop, (∀ H', Nx H' → ∃ m', m' < m ∧ W (i + 1) m' H') ∧ ∀ x H', (Itk d od kvs).yld i H x H' → g x (wipe σ vs) H' fun σ2 H2 => wipe σ2 vs = wipe σ vs ∧ tt σ2 H2 fun b H3 =>
        if b = true then te σ2 H3 fun y H4 => ∃ acc, H4 D = some (.lst acc) ∧ acc.length < sizeLine ∧ Nx (upd H4 D (.lst (acc ++ [y]))) else Nx H3) :=
  lc_it walk_keys Pv h0 hG (fun i x H H' hi p y => by
    obtain ⟨e, k, v, hkv, ex⟩ := y
    obtain ⟨z, hz, ek, hv⟩ := hk.at_ hkv
    subst e; subst ex; subst ek
    exact hs i z v _ hkv hz hv p) hd
/-- a for over the keys of a locked dict with names -/
theorem for_names {d : Addr} {od : Obj} {N : List Str} {kvs : List (Key × V)} (hk : KOk N kvs) {g : TG} {tb : TS} {D : Ends} {σ : L2.St} {H : Hp} (Pv : Nat → L2.St → Hp → Prop) (h0 : Pv 0 σ H) (hG : ∀ i σ H, i ≤ kvs.length → Pv i σ H → H d = some (.frz od (.dK kvs)))
    (hs : ∀ i z v σ H, kvs[i]? = some (.inr z, v) → z ∈ N → valV kvs (.inr z) = some v → Pv i σ H → g (.str z) σ H fun σ2 H2 => tb { D with nx := Pv (i + 1), ct := Pv (i + 1), bk := D.nx } σ2 H2) (hd : ∀ σ H, Pv kvs.length σ H → D.nx σ H) :
    ∃ W : Nat → Nat → L2.St → Hp → Prop, (∃ m, W 0 m σ H) ∧ ∀ i m σ H, W i m σ H →
      ((Itk d od kvs).stop i H ∧ D.nx σ H) ∨ ((Itk d od kvs).go i H ∧ ∃ N : L2.St → Hp → Prop, (∀ σ' H', N σ' H' → ∃ m', m' < m ∧ W (i + 1) m' σ' H') ∧ ∀ x H', (Itk d od kvs).yld i H x H' → g x σ H' fun σ2 H2 => tb { D with nx := N, ct := N, bk := D.nx } σ2 H2) :=
  for_it walk_keys Pv h0 hG (fun i x σ H H' hi p y => by
    obtain ⟨e, k, v, hkv, ex⟩ := y
    obtain ⟨z, hz, ek, hv⟩ := hk.at_ hkv
    subst e; subst ex; subst ek
    exact hs i z v σ _ hkv hz hv p) hd
/-! ### forms -/
abbrev Fm := Str → Int × Int
def RedF (f : Fm) : Prop := ∀ z, Red (f z).1 (f z).2
def SzF (n : Nat) (f : Fm) : Prop := ∀ z, Sz n (f z).1 ∧ Sz n (f z).2
theorem SzF.mono {n m : Nat} {f : Fm} (h : SzF n f) (l : n ≤ m := by decide) : SzF m f := fun z => ⟨(h z).1.mono l, (h z).2.mono l⟩
def ShR (ca : Nat → Addr) (f : Fm) (H : Hp) : Str → V → Prop := fun z v => ∃ q, v = .ref q ∧ RatAt ca H q (f z).1 (f z).2 ∧ (f z).1 ≠ 0
def ShZ (f : Fm) : Str → Prop := fun z => f z = (0, 1)
/-- the dict of a form's shares -/
def FormSh (ca : Nat → Addr) (H : Hp) (d : Addr) (N : List Str) (f : Fm) : Prop := ∃ kvs, H d = some (.dK kvs) ∧ Tab N (ShR ca f H) (ShZ f) kvs
def FormAt (ca : Nat → Addr) (H : Hp) (p : Addr) (N : List Str) (f : Fm) : Prop := ∃ dx d, H p = some (.ins (ca 3) dx [("_shares", .ref d)]) ∧ FormSh ca H d N f
theorem ShR.same {ca : Nat → Addr} {f : Fm} {H H' : Hp} (s : Same H H') {z : Str} {v : V} (h : ShR ca f H z v) : ShR ca f H' z v := by
  obtain ⟨q, e, r, n⟩ := h
  exact ⟨q, e, r.same s, n⟩
theorem RatAt.keep {ca : Nat → Addr} {H H' : Hp} {p c : Addr} {a b : Int} {u : HO} (h : RatAt ca H p a b) (e : H c = some u) (n : ∀ C dx fs, u ≠ .ins C dx fs) (k : Keep c H H') : RatAt ca H' p a b :=
  ⟨h.1, let ⟨dx, q⟩ := h.2; ⟨dx, k _ _ q (ne_of q e fun z => n _ _ _ z.symm)⟩⟩
theorem ShR.keep {ca : Nat → Addr} {f : Fm} {H H' : Hp} {c : Addr} {u : HO} (e : H c = some u) (n : ∀ C dx fs, u ≠ .ins C dx fs) (k : Keep c H H') {z : Str} {v : V} (h : ShR ca f H z v) : ShR ca f H' z v := by
  obtain ⟨q, e1, r, m⟩ := h
  exact ⟨q, e1, r.keep e n k, m⟩
theorem FormSh.same {ca : Nat → Addr} {H H' : Hp} {d : Addr} {N : List Str} {f : Fm} (h : FormSh ca H d N f) (s : Same H H') : FormSh ca H' d N f := by
  obtain ⟨kvs, e, t⟩ := h
  exact ⟨kvs, s _ _ e, t.mono (fun _ _ => ShR.same s) fun _ z => z⟩
theorem FormAt.same {ca : Nat → Addr} {H H' : Hp} {p : Addr} {N : List Str} {f : Fm} (h : FormAt ca H p N f) (s : Same H H') : FormAt ca H' p N f := by
  obtain ⟨dx, d, e, t⟩ := h
  exact ⟨dx, d, s _ _ e, t.same s⟩
theorem FormAt.put {ca : Nat → Addr} {H H' : Hp} {p c : Addr} {N : List Str} {f : Fm} {xs : List V} (h : FormAt ca H p N f) (e : H c = some (.lst xs)) (k : Keep c H H') : FormAt ca H' p N f := by
  obtain ⟨dx, d, e1, kvs, e2, t⟩ := h
  exact ⟨dx, d, k _ _ e1 (ne_of e1 e fun z => nomatch z), kvs, k _ _ e2 (ne_of e2 e fun z => nomatch z), t.mono (fun _ _ => ShR.keep e (fun _ _ _ z => nomatch z) k) fun _ z => z⟩
theorem red01 : Red 0 1 := ⟨by decide, by decide⟩
theorem FormSh.red {ca : Nat → Addr} {H : Hp} {d : Addr} {N : List Str} {f : Fm} (h : FormSh ca H d N f) : RedF f := fun z => by
  obtain ⟨kvs, _, t⟩ := h
  cases e : valV kvs (.inr z) with
  | none =>
    rw [show f z = (0, 1) from t.z z e]
    exact red01
  | some v =>
    obtain ⟨q, _, r, _⟩ := t.r z v e
    exact r.1
theorem FormAt.red {ca : Nat → Addr} {H : Hp} {p : Addr} {N : List Str} {f : Fm} (h : FormAt ca H p N f) : RedF f := by
  obtain ⟨_, _, _, t⟩ := h
  exact t.red
theorem FormAt.off {ca : Nat → Addr} {H : Hp} {p : Addr} {N : List Str} {f : Fm} (h : FormAt ca H p N f) {z : Str} (n : z ∉ N) : f z = (0, 1) := by
  obtain ⟨_, _, _, kvs, _, t⟩ := h
  exact t.off n
theorem RatAt.q {ca : Nat → Addr} {H : Hp} {p : Addr} {a b : Int} (h : RatAt ca H p a b) : RatQ ca H p a b := ⟨by have := h.1.pos; omega, by rw [nrm_id h.1]; exact h⟩
/-- sums, and products with c / d -/
def addP (x y : Int × Int) : Int × Int := nrm (x.1 * y.2 + y.1 * x.2) (x.2 * y.2)
def mulP (x y : Int × Int) : Int × Int := nrm (x.1 * y.1) (x.2 * y.2)
/-- numbers handed to a form -/
def NumR (ca : Nat → Addr) (f : Fm) (H : Hp) : Str → V → Prop := fun z v => NumV ca H v (f z).1 (f z).2
theorem NumR.same {ca : Nat → Addr} {f : Fm} {H H' : Hp} (s : Same H H') {z : Str} {v : V} (h : NumR ca f H z v) : NumR ca f H' z v := NumV.same h s
theorem dget {H : Hp} {d : Addr} {kvs : List (Key × V)} {z : Str} {v : V} (e : Rd H d (.dK kvs)) (h : valV kvs (.inr z) = some v) : DGet H d (.str z) (some v) := .inl ⟨kvs, .inr z, e, rfl, h.symm⟩
/-- what a form's dict is, while it is built over the keys of kvs -/
def Build (ca : Nat → Addr) (N : List Str) (f : Fm) (Z : Str → Prop) (R : Str → V → Hp → Prop) (H0 : Hp) (D : Addr) (kvs : List (Key × V)) (i : Nat) (H : Hp) : Prop :=
  Same H0 H ∧ ∃ new, H D = some (.dK new) ∧ Part N (fun z v => R z v H) Z kvs i new
theorem NumV.keep {ca : Nat → Addr} {H H' : Hp} {x : V} {c : Addr} {a b : Int} {u : HO} (h : NumV ca H x a b) (e : H c = some u) (n : ∀ C dx fs, u ≠ .ins C dx fs) (k : Keep c H H') : NumV ca H' x a b := h.imp id fun ⟨p, q, r⟩ => ⟨p, q, r.keep e n k⟩
theorem nd {kvs : List (Key × V)} : ∀ C dx fs, HO.dK kvs ≠ .ins C dx fs := fun _ _ _ z => nomatch z
theorem nf {o : Obj} {u : HO} : ∀ C dx fs, HO.frz o u ≠ .ins C dx fs := fun _ _ _ z => nomatch z
theorem KOk.line {N : List Str} {kvs : List (Key × V)} (h : KOk N kvs) (u : Uni N) : kvs.length < sizeLine := by
  have := h.len
  have := u.len
  rw [sizeLine_eq]
  omega
theorem Red.zero {t b : Int} (h : Red t b) (e : t = 0) : b = 1 := by
  subst e
  have c := h.cop
  have p := h.pos
  simp only [Int.natAbs_zero, Nat.gcd_zero_left] at c
  omega
theorem RatAt.keepN {ca : Nat → Addr} {H H' : Hp} {p c C dx : Addr} {a b : Int} (h : RatAt ca H p a b) (e : H c = some (.ins C dx [])) (k : Keep c H H') : RatAt ca H' p a b :=
  ⟨h.1, let ⟨dy, q⟩ := h.2; ⟨dy, k _ _ q (ne_of q e fun z => by injection z with _ _ h; cases h)⟩⟩
theorem ShR.keepN {ca : Nat → Addr} {f : Fm} {H H' : Hp} {c C dx : Addr} (e : H c = some (.ins C dx [])) (k : Keep c H H') {z : Str} {v : V} (h : ShR ca f H z v) : ShR ca f H' z v := by
  obtain ⟨q, e1, r, m⟩ := h
  exact ⟨q, e1, r.keepN e k, m⟩
theorem KOk.names {N : List Str} {kvs : List (Key × V)} (h : KOk N kvs) : ∃ ks : List Str, kvs.map (·.1) = ks.map Sum.inr ∧ ks.Nodup ∧ (∀ z, z ∈ ks ↔ ∃ v, valV kvs (.inr z) = some v) ∧ ks.length = kvs.length := by
  have all : ∀ l : List (Key × V), (∀ kv ∈ l, ∃ z ∈ N, kv.1 = .inr z) → ∃ ks : List Str, l.map (·.1) = ks.map Sum.inr := by
    intro l
    induction l with
    | nil => exact fun _ => ⟨[], rfl⟩
    | cons a l ih =>
      intro hm
      obtain ⟨z, _, e⟩ := hm a List.mem_cons_self
      obtain ⟨ks, e2⟩ := ih fun kv m => hm kv (List.mem_cons_of_mem _ m)
      exact ⟨z :: ks, by rw [List.map_cons, List.map_cons, e, e2]⟩
  obtain ⟨ks, e⟩ := all kvs h.mem
  have n := h.nd
  rw [e] at n
  refine ⟨ks, e, ?_, fun z => ?_, by have := congrArg List.length e; rw [List.length_map, List.length_map] at this; exact this.symm⟩
  · exact List.Pairwise.of_map Sum.inr (fun a b hab e => hab (by rw [e])) n
  · have m : z ∈ ks ↔ (Sum.inr z : Key) ∈ kvs.map (·.1) := by
      rw [e, List.mem_map]
      exact ⟨fun m => ⟨z, m, rfl⟩, fun ⟨y, m, q⟩ => by cases q; exact m⟩
    rw [m]
    cases q : valV kvs (.inr z) with
    | none => exact ⟨fun m => absurd m (valV_none.mp q), fun ⟨v, r⟩ => nomatch r⟩
    | some v => exact ⟨fun _ => ⟨v, rfl⟩, fun _ => List.mem_map.mpr ⟨_, valV_mem q, rfl⟩⟩
theorem Tab.put {N : List Str} {R : Str → V → Prop} {Z : Str → Prop} {kvs : List (Key × V)} {z : Str} {v : V} (h : Tab N R Z kvs) (hz : z ∈ N) (r : R z v) : Tab N R Z (putK kvs (.inr z) v) := by
  refine ⟨h.k.put hz v, fun y w q => ?_, fun y q => ?_⟩
  · rw [valV_put] at q
    by_cases c : (Sum.inr y : Key) = Sum.inr z
    · rw [if_pos c] at q
      cases q
      cases c
      exact r
    · rw [if_neg c] at q
      exact h.r y w q
  · rw [valV_put] at q
    by_cases c : (Sum.inr y : Key) = Sum.inr z
    · rw [if_pos c] at q
      cases q
    · rw [if_neg c] at q
      exact h.z y q
/-- .. where at z something else is told from then on -/
theorem Tab.set {N : List Str} {R R' : Str → V → Prop} {Z Z' : Str → Prop} {kvs : List (Key × V)} {z : Str} {v : V} (h : Tab N R Z kvs) (hz : z ∈ N) (r : R' z v) (a : ∀ y u, y ≠ z → R y u → R' y u) (b : ∀ y, y ≠ z → Z y → Z' y) : Tab N R' Z' (putK kvs (.inr z) v) := by
  refine ⟨h.k.put hz v, fun y w q => ?_, fun y q => ?_⟩
  · rw [valV_put] at q
    by_cases c : (Sum.inr y : Key) = Sum.inr z
    · rw [if_pos c] at q
      cases q
      cases c
      exact r
    · rw [if_neg c] at q
      exact a y w (fun e => c (by rw [e])) (h.r y w q)
  · rw [valV_put] at q
    by_cases c : (Sum.inr y : Key) = Sum.inr z
    · rw [if_pos c] at q
      cases q
    · rw [if_neg c] at q
      exact b y (fun e => c (by rw [e])) (h.z y q)
theorem Tab.nil {N : List Str} {R : Str → V → Prop} {Z : Str → Prop} (h : ∀ z, Z z) : Tab N R Z [] := ⟨.nil, fun z v e => (by rw [valV_nil] at e; cases e), fun z _ => h z⟩
theorem FormSh.mem {ca : Nat → Addr} {H : Hp} {N : List Str} {f : Fm} {kvs : List (Key × V)} (t : Tab N (ShR ca f H) (ShZ f) kvs) (z : Str) : (∃ v, valV kvs (.inr z) = some v) ↔ (f z).1 ≠ 0 := by
  cases q : valV kvs (.inr z) with
  | none => exact ⟨fun ⟨v, r⟩ => (nomatch r), fun n => absurd (by rw [show f z = (0, 1) from t.z z q]) n⟩
  | some v =>
    obtain ⟨_, _, _, n⟩ := t.r z v q
    exact ⟨fun _ => n, fun _ => ⟨v, rfl⟩⟩
/-- the form of one name -/
def oneF (z : Str) : Fm := fun y => if y = z then (1, 1) else (0, 1)
theorem addP_zero {x : Int × Int} (h : Red x.1 x.2) : addP x (0, 1) = x := by
  unfold addP
  rw [Int.mul_one, Int.zero_mul, Int.add_zero, Int.mul_one, nrm_id h]
theorem oneF_self {z : Str} : oneF z z = (1, 1) := if_pos rfl
theorem oneF_ne {z y : Str} (h : y ≠ z) : oneF z y = (0, 1) := if_neg h
theorem FormAt.ins {ca : Nat → Addr} {H : Hp} {p : Addr} {N : List Str} {f : Fm} (h : FormAt ca H p N f) : ∃ dx d, H p = some (.ins (ca 3) dx [("_shares", .ref d)]) := let ⟨dx, d, e, _⟩ := h; ⟨dx, d, e⟩
/-- a form and a form beside an operator of theirs -/
theorem fOwn2_of {ca : Nat → Addr} {H : Hp} {p q : Addr} {N N' : List Str} {f g : Fm} {sp : Sp} {E : XK} {Q : VK} (h : FormAt ca H p N f) (h2 : FormAt ca H q N' g) (k : sp [.ref p, .ref q] H Q E) : rOwn (ca 3) sp E (.ref p) (.ref q) H Q := by
  obtain ⟨dx, d, e⟩ := h.ins
  obtain ⟨dy, d2, e2⟩ := h2.ins
  exact ⟨p, dx, _, rfl, e, .inr ⟨q, dy, _, rfl, e2⟩, k⟩
/-- a form and an int -/
theorem fOwn_of {ca : Nat → Addr} {H : Hp} {p : Addr} {x : V} {N : List Str} {f : Fm} {sp : Sp} {E : XK} {Q : VK} (h : FormAt ca H p N f) (hx : ∃ i, x = .int i) (k : sp [.ref p, x] H Q E) : rOwn (ca 3) sp E (.ref p) x H Q := by
  obtain ⟨dx, d, e⟩ := h.ins
  exact ⟨p, dx, _, rfl, e, .inl hx, k⟩
theorem fRefl_of {ca : Nat → Addr} {H : Hp} {p : Addr} {i : Int} {N : List Str} {f : Fm} {sp : Sp} {E : XK} {Q : VK} (h : FormAt ca H p N f) (k : sp [.ref p, .int i] H Q E) : rRefl (ca 3) sp E (.int i) (.ref p) H Q := by
  obtain ⟨dx, d, e⟩ := h.ins
  exact ⟨i, p, dx, _, rfl, rfl, e, k⟩
theorem fUna_of {ca : Nat → Addr} {H : Hp} {p : Addr} {N : List Str} {f : Fm} {sp : Sp} {E : XK} {Q : VK} (h : FormAt ca H p N f) (k : sp [.ref p] H Q E) : rUna (ca 3) sp E (.ref p) H Q := by
  obtain ⟨dx, d, e⟩ := h.ins
  exact ⟨p, dx, _, rfl, e, k⟩
theorem nrm_0 {d : Int} (h : d ≠ 0) : nrm 0 d = (0, 1) := by
  rw [nrm_same h (show (1 : Int) ≠ 0 by decide) (show (0 : Int) * 1 = 0 * d by rw [Int.zero_mul, Int.zero_mul]), nrm_id red01]
theorem mulP_0 {c d : Int} (h : d ≠ 0) : mulP (0, 1) (c, d) = (0, 1) := by
  unfold mulP
  rw [Int.zero_mul, Int.one_mul, nrm_0 h]
theorem RatQ.keep {ca : Nat → Addr} {H H' : Hp} {p c : Addr} {a b : Int} {u : HO} (h : RatQ ca H p a b) (e : H c = some u) (n : ∀ C dx fs, u ≠ .ins C dx fs) (k : Keep c H H') : RatQ ca H' p a b := ⟨h.ne, h.at_.keep e n k⟩
theorem NumQ.keep {ca : Nat → Addr} {H H' : Hp} {x : V} {c : Addr} {a b : Int} {u : HO} (h : NumQ ca H x a b) (e : H c = some u) (n : ∀ C dx fs, u ≠ .ins C dx fs) (k : Keep c H H') : NumQ ca H' x a b := h.imp id fun ⟨p, q, r⟩ => ⟨p, q, r.keep e n k⟩
theorem NumQ.own {ca : Nat → Addr} {H : Hp} {x : V} {a b : Int} (h : NumQ ca H x a b) : (∃ i, x = .int i) ∨ (∃ b dy gs, x = .ref b ∧ H b = some (.ins (ca 3) dy gs)) ∨ ∃ b dy gs, x = .ref b ∧ H b = some (.ins (ca 2) dy gs) := by
  rcases h with ⟨e, _⟩ | ⟨p, e, r⟩
  · exact .inl ⟨_, e⟩
  · obtain ⟨dx, q⟩ := r.ins
    exact .inr (.inr ⟨p, dx, _, e, q⟩)
theorem fOwnN_of {ca : Nat → Addr} {H : Hp} {p : Addr} {x : V} {N : List Str} {f : Fm} {a b : Int} {sp : Sp} {E : XK} {Q : VK} (h : FormAt ca H p N f) (hx : NumQ ca H x a b) (k : sp [.ref p, x] H Q E) : rOwnN (ca 3) (ca 2) sp E (.ref p) x H Q := by
  obtain ⟨dx, d, e⟩ := h.ins
  exact ⟨p, dx, _, rfl, e, hx.own, k⟩
theorem mulP_neg {y : Int × Int} (h : Red y.1 y.2) : mulP y (-1, 1) = (-y.1, y.2) := by
  have n : y.2 ≠ 0 := by have := h.pos; omega
  unfold mulP
  show nrm (y.1 * -1) (y.2 * 1) = _
  rw [Int.mul_one, Int.mul_neg, Int.mul_one, nrm_neg n, nrm_id h]
theorem sub_0 {x y : Int × Int} (h : Red x.1 x.2) (k : Red y.1 y.2) : (addP x (mulP y (-1, 1))).1 = 0 ↔ x = y := by
  have n1 : x.2 ≠ 0 := by have := h.pos; omega
  have n2 : y.2 ≠ 0 := by have := k.pos; omega
  rw [mulP_neg k]
  unfold addP
  rw [nrm_zero (Int.mul_ne_zero n1 n2)]
  show x.1 * y.2 + -y.1 * x.2 = 0 ↔ x = y
  rw [Int.neg_mul]
  constructor
  · intro e
    obtain ⟨a, b⟩ := h.uniq k (show x.1 * y.2 = y.1 * x.2 by omega)
    exact Prod.ext a b
  · rintro rfl
    omega
/-! ### drawn words -/
theorem joinL_nil : ∀ ps : List (List Nat), TL.joinL [] ps = ps.flatten
  | [] => rfl
  | [p] => by simp [TL.joinL]
  | p :: q :: r => by
    show p ++ ([] ++ TL.joinL [] (q :: r)) = _
    rw [List.nil_append, joinL_nil (q :: r), List.flatten_cons (l := p)]
def Sign (z : Str) : Prop := ∃ c, (97 ≤ c ∧ c ≤ 122) ∧ z = ⟨#[c]⟩
theorem Sign.lets {z : Str} (h : Sign z) : Lets z := by
  obtain ⟨c, hc, rfl⟩ := h
  exact lets_one hc
theorem Sign.len {z : Str} (h : Sign z) : z.length = 1 := by
  obtain ⟨c, hc, rfl⟩ := h
  rfl
theorem tl_len {z : Str} : (tl z).length = z.length := by
  unfold tl Str.length
  rw [Array.length_toList]
theorem join_signs {zs : List Str} (h : ∀ z ∈ zs, Sign z) : Lets (Txt.join Str.empty zs) ∧ (Txt.join Str.empty zs).length = zs.length := by
  have e : tl (Txt.join Str.empty zs) = (zs.map tl).flatten := by
    rw [TL.join_eq, TL.tl_join]
    exact joinL_nil _
  constructor
  · intro c m
    rw [e] at m
    obtain ⟨l, hl, hc⟩ := List.mem_flatten.mp m
    obtain ⟨z, hz, rfl⟩ := List.mem_map.mp hl
    exact (h z hz).lets c hc
  · rw [← tl_len, e]
    clear e
    induction zs with
    | nil => rfl
    | cons z zs ih =>
      rw [List.map_cons, List.flatten_cons, List.length_append, ih fun y m => h y (List.mem_cons_of_mem _ m), tl_len, (h z List.mem_cons_self).len, List.length_cons]
      omega
theorem abc_all : (Str.ofString "abcdefghijklmnopqrstuvwxyz").length = 26 ∧ ∀ d : Fin 26, (Str.ofString "abcdefghijklmnopqrstuvwxyz").cps[d.val]? = some (97 + d.val) := by decide +kernel
/-- one of the letters -/
theorem abc_at {d : Int} (h0 : 0 ≤ d) (h1 : d < 26) : (Str.ofString "abcdefghijklmnopqrstuvwxyz").cps[d.toNat]? = some (97 + d.toNat) := abc_all.2 ⟨d.toNat, by omega⟩
theorem sign_abc {d : Int} (h1 : d < 26) : Sign ⟨#[97 + d.toNat]⟩ := ⟨_, by omega, rfl⟩
theorem rIxS_abc {d : Int} {H : Hp} {Q : VK} (h0 : 0 ≤ d) (h1 : d < 26) (k : Q (.str ⟨#[97 + d.toNat]⟩) H) : rIxS (.str (Str.ofString "abcdefghijklmnopqrstuvwxyz")) (.int d) H Q := by
  obtain ⟨n, rfl⟩ := Int.eq_ofNat_of_zero_le h0
  have e : (Str.ofString "abcdefghijklmnopqrstuvwxyz").cps.toList[n]? = some (97 + n) := by
    rw [Array.getElem?_toList]
    exact abc_at h0 h1
  exact ⟨_, _, _, rfl, rfl, line_le (by rw [abc_all.1]; decide), atI_nat e, k⟩
theorem keep_new {b D : Addr} {H H' : Hp} {o : HO} (k : Keep b H H') (n : H D = none) : Keep b H (upd H' D o) := fun a u e m => by
  rw [upd_ne (ne_of_none e n)]
  exact k a u e m
theorem size_line {n : Nat} (h : n < 10000) : n < sizeLine := Nat.lt_of_lt_of_le h (line_le (by decide))
theorem size_le {n : Nat} (h : n < 10000) : n ≤ sizeLine := Nat.le_of_lt (size_line h)
theorem strs_snoc {acc : List Str} {z : Str} : acc.map V.str ++ [V.str z] = (acc ++ [z]).map V.str := by simp
theorem keep_free {b p : Addr} {H H' : Hp} (k : Keep b H H') (n : H' p = none) (m : p ≠ b) : H p = none := by
  cases e : H p with
  | none => rfl
  | some o =>
    rw [k p o e m] at n
    cases n
theorem keep_put {b p : Addr} {H H1 H2 : Hp} (k : Keep b H H1) (k2 : Keep p H1 H2) (n : H p = none) : Keep b H H2 := fun a o e m => k2 a o (k a o e m) (ne_of_none e n)
/-- a text once or not at all -/
theorem op_mulS1 {X : Cx} : OpR X (binaryOp .Mult) (fun x y H Q => ∃ z n, x = .str z ∧ y = .int n ∧ (n = 0 ∨ n = 1) ∧ ∀ w, (w = Str.empty ∨ w = z) → Q (.str w) H) := by
  intro pins s σ H x y v u Q I rx ry h
  obtain ⟨z, n, rfl, rfl, hn, q⟩ := h
  obtain ⟨m1, m2⟩ := mul_01 (z := z) hn
  exact op_mulS pins s σ H _ _ v u Q I rx ry ⟨z, n, rfl, rfl, m1, q _ m2⟩
/-! ### the law's tables -/
def TupF (f : Fm) (H : Hp) : Str → V → Prop := fun z v => ∃ t, v = .ref t ∧ H t = some (.tup [.int (f z).1, .int (f z).2])
/-- a dict with a pair for each name -/
def TabAt (H : Hp) (d : Addr) (N : List Str) (f : Fm) : Prop := ∃ kvs, H d = some (.dK kvs) ∧ Tab N (TupF f H) (ShZ f) kvs
theorem TupF.same {f : Fm} {H H' : Hp} (s : Same H H') {z : Str} {v : V} (h : TupF f H z v) : TupF f H' z v := let ⟨t, e, q⟩ := h; ⟨t, e, s _ _ q⟩
theorem TupF.keep {f : Fm} {H H' : Hp} {c : Addr} {u : HO} (e : H c = some u) (n : ∀ xs, u ≠ .tup xs) (k : Keep c H H') {z : Str} {v : V} (h : TupF f H z v) : TupF f H' z v := let ⟨t, e1, q⟩ := h; ⟨t, e1, k _ _ q (ne_of q e fun z => n _ z.symm)⟩
theorem TabAt.same {H H' : Hp} {d : Addr} {N : List Str} {f : Fm} (h : TabAt H d N f) (s : Same H H') : TabAt H' d N f := let ⟨kvs, e, t⟩ := h; ⟨kvs, s _ _ e, t.mono (fun _ _ => TupF.same s) fun _ z => z⟩
theorem TabAt.put {H H' : Hp} {d c : Addr} {N : List Str} {f : Fm} {xs : List V} (h : TabAt H d N f) (e : H c = some (.lst xs)) (k : Keep c H H') : TabAt H' d N f :=
  let ⟨kvs, e1, t⟩ := h; ⟨kvs, k _ _ e1 (ne_of e1 e fun z => nomatch z), t.mono (fun _ _ => TupF.keep e (fun _ z => nomatch z) k) fun _ z => z⟩
theorem TabAt.off {H : Hp} {d : Addr} {N : List Str} {f : Fm} (h : TabAt H d N f) {z : Str} (n : z ∉ N) : f z = (0, 1) := let ⟨_, _, t⟩ := h; t.off n
theorem ndt {kvs : List (Key × V)} : ∀ xs, HO.dK kvs ≠ .tup xs := fun _ z => nomatch z
theorem nft {o : Obj} {u : HO} : ∀ xs, HO.frz o u ≠ .tup xs := fun _ z => nomatch z
def setF (f : Fm) (z : Str) (x : Int × Int) : Fm := fun y => if y = z then x else f y
theorem setF_self {f : Fm} {z : Str} {x : Int × Int} : setF f z x z = x := if_pos rfl
theorem setF_ne {f : Fm} {z y : Str} {x : Int × Int} (h : y ≠ z) : setF f z x y = f y := if_neg h
theorem setF_red {f : Fm} {z : Str} {x : Int × Int} (h : RedF f) (k : Red x.1 x.2) : RedF (setF f z x) := fun y => by
  unfold setF
  split
  · exact k
  · exact h y
theorem setF_sz {n : Nat} {f : Fm} {z : Str} {x : Int × Int} (h : SzF n f) (k : Sz n x.1 ∧ Sz n x.2) : SzF n (setF f z x) := fun y => by
  unfold setF
  split
  · exact k
  · exact h y
theorem zeroF_sz {n : Nat} (l : 1 ≤ n := by decide) : SzF n fun _ => (0, 1) := fun _ => ⟨Sz.zero.mono l, Sz.one.mono l⟩
theorem Tab.setT {N : List Str} {f : Fm} {H : Hp} {d p : Addr} {kvs : List (Key × V)} {y : Str} {x : Int × Int} (t : Tab N (TupF f H) (ShZ f) kvs) (hd : H d = some (.dK kvs)) (hy : y ∈ N) (hp : H p = some (.tup [.int x.1, .int x.2])) :
    TabAt (upd H d (.dK (putK kvs (.inr y) (.ref p)))) d N (setF f y x) := by
  refine ⟨_, upd_same, t.set hy ?_ (fun z u c r => ?_) fun z c n => ?_⟩
  · refine ⟨p, rfl, ?_⟩
    rw [setF_self, upd_ne (ne_of hp hd fun z => nomatch z)]
    exact hp
  · obtain ⟨q, e, h⟩ := TupF.keep hd ndt keep_upd r
    exact ⟨q, e, by rw [setF_ne c]; exact h⟩
  · show setF f y x z = (0, 1)
    rw [setF_ne c]
    exact n
theorem Part.again {N : List Str} {R : Str → V → Prop} {Z : Str → Prop} {kvs new : List (Key × V)} {i : Nat} {z : Str} {v : V} (h : Part N R Z kvs i new) (m : (Sum.inr z : Key) ∈ (kvs.take i).map (·.1)) (hz : z ∈ N) (r : R z v) : Part N R Z kvs i (putK new (.inr z) v) := by
  refine ⟨h.k.put hz v, fun y w q => ?_, fun y q m => ?_⟩
  · rw [valV_put] at q
    by_cases c : (Sum.inr y : Key) = Sum.inr z
    · rw [if_pos c] at q
      cases q
      cases c
      exact ⟨r, m⟩
    · rw [if_neg c] at q
      exact h.r y w q
  · rw [valV_put] at q
    by_cases c : (Sum.inr y : Key) = Sum.inr z
    · rw [if_pos c] at q
      cases q
    · rw [if_neg c] at q
      exact h.z y q m
theorem keep_lock {H H2 : Hp} {b d : Addr} {od : Obj} {u : HO} (h : H d = some u) (s : Keep b (upd H d (.frz od u)) H2) : Keep b H (upd H2 d u) := fun a o e n => by
  by_cases c : a = d
  · subst c
    rw [h] at e
    cases e
    exact upd_same
  · rw [upd_ne c]
    exact s a o (by rw [upd_ne c]; exact e) n
theorem same_updL {H H1 : Hp} {d : Addr} {o : HO} (s : Same H H1) : Same (upd H d o) (upd H1 d o) := fun a u e => by
  by_cases c : a = d
  · subst c
    rw [upd_same] at e ⊢
    exact e
  · rw [upd_ne c] at e ⊢
    exact s a u e
theorem Bag.ned {H : Hp} {L b d : Addr} {kvs : List (Key × V)} (h : Bag H L b) (e : H d = Option.some (.dK kvs)) : d ≠ b ∧ d ≠ L := by
  obtain ⟨ns, i, big, mix, cnt, h1, h2, h3⟩ := h
  exact ⟨ne_of e h1 fun z => (nomatch z), ne_of e h2 fun z => nomatch z⟩
/-! ### lists of words compared -/
theorem strs_lay : ∀ {zs : List Str}, (∀ z ∈ zs, Lets z) → PyData.canLayAll0 (zs.map PyData.str) = true ∧ PyData.depthAll (zs.map PyData.str) = 0
  | [], _ => ⟨rfl, rfl⟩
  | z :: zs, h => by
    obtain ⟨a, b⟩ := strs_lay (zs := zs) fun y m => h y (List.mem_cons_of_mem _ m)
    have hz := h z List.mem_cons_self
    constructor
    · show (PyData.strOk z && PyData.canLayAll0 (zs.map PyData.str)) = true
      rw [a, Bool.and_true]
      show z.cps.all (· < 0x110000) = true
      rw [← Array.all_toList, List.all_eq_true]
      intro c m
      have := hz c m
      exact decide_eq_true (by omega)
    · show max 0 (PyData.depthAll (zs.map PyData.str)) = 0
      rw [b]
      rfl
theorem strs_dp {K : PySem.W.Frag} {H : Hp} : ∀ {zs : List Str}, DpAll K H (zs.map V.str) (zs.map PyData.str)
  | [] => .nil
  | z :: zs => .cons (.str z) strs_dp
theorem neS {K : PySem.W.Frag} {H : Hp} {p q : Addr} {zs : List Str} {Q : VK} (hp : H p = some (.lst (zs.map V.str))) (hq : H q = some (.lst (zs.map V.str))) (h : ∀ z ∈ zs, Lets z) (k : Q (.bl false) H) : rNeD K (.ref p) (.ref q) H Q := by
  obtain ⟨a, b⟩ := strs_lay h
  have c : (PyData.list (zs.map .str)).canLay0 = true := a
  have s : SeqAt.shaped (PyData.list (zs.map .str)) = true := by
    unfold SeqAt.shaped
    rw [c, Bool.true_and]
    refine decide_eq_true ?_
    show PyData.depthAll (zs.map .str) + 1 ≤ 64
    rw [b]
    decide
  refine ⟨_, _, .lst (SqL.of hp) strs_dp, .lst (SqL.of hq) strs_dp, s, s, ?_⟩
  rw [SeqAt.eqv_refl _ c]
  exact k
theorem eqS {K : PySem.W.Frag} {H : Hp} {p q : Addr} {zs : List Str} {Q : VK} (hp : H p = some (.lst (zs.map V.str))) (hq : H q = some (.lst (zs.map V.str))) (h : ∀ z ∈ zs, Lets z) (k : Q (.bl true) H) : rEqD K (.ref p) (.ref q) H Q := by
  obtain ⟨a, b⟩ := strs_lay h
  have c : (PyData.list (zs.map .str)).canLay0 = true := a
  have s : SeqAt.shaped (PyData.list (zs.map .str)) = true := by
    unfold SeqAt.shaped
    rw [c, Bool.true_and]
    refine decide_eq_true ?_
    show PyData.depthAll (zs.map .str) + 1 ≤ 64
    rw [b]
    decide
  refine ⟨_, _, .lst (SqL.of hp) strs_dp, .lst (SqL.of hq) strs_dp, s, s, ?_⟩
  rw [SeqAt.eqv_refl _ c]
  exact k
theorem pw_uniq {l m : List Str} (h : l.Pairwise fun a b => ¬ tl b < tl a) (k : m.Pairwise fun a b => ¬ tl b < tl a) (a : l.Nodup) (b : m.Nodup) (s : ∀ z, z ∈ l ↔ z ∈ m) : l = m :=
  List.Perm.eq_of_pairwise (fun a b _ _ h1 h2 => tl_inj (List.le_antisymm (List.not_lt.mp h1) (List.not_lt.mp h2))) h k (nodup_perm a b s)
/-! ### tables added and multiplied -/
def sumF (s : Int) (f g : Fm) : Fm := fun z => nrm ((f z).1 * (g z).2 + s * (g z).1 * (f z).2) ((f z).2 * (g z).2)
def timesF (f : Fm) (c d : Int) : Fm := fun z => mulP (f z) (c, d)
theorem keys_str {kvs : List (Key × V)} {ks : List Str} (e : kvs.map (·.1) = ks.map Sum.inr) : (kvs.map fun kv => kV kv.1) = ks.map V.str := by
  have := congrArg (List.map kV) e
  rw [List.map_map, List.map_map] at this
  exact this
def doneF (L : List Str) (h : Fm) : Fm := fun z => if z ∈ L then h z else (0, 1)
theorem doneF_red {L : List Str} {h : Fm} (r : RedF h) : RedF (doneF L h) := fun z => by
  unfold doneF
  split
  · exact r z
  · exact red01
theorem doneF_snoc {L : List Str} {h : Fm} {y : Str} : doneF (L ++ [y]) h = setF (doneF L h) y (h y) := by
  funext z
  unfold doneF setF
  by_cases c : z = y
  · subst c
    simp
  · simp [c]
theorem sumF_red {s : Int} {f g : Fm} (rf : RedF f) (rg : RedF g) : RedF (sumF s f g) := fun z => nrm_red (Int.mul_ne_zero (by have := (rf z).pos; omega) (by have := (rg z).pos; omega))
theorem sumF_add {f g : Fm} : sumF 1 f g = fun z => addP (f z) (g z) := by
  funext z
  unfold sumF addP
  rw [Int.one_mul]
theorem sumF_sub {f g : Fm} (r : RedF g) : sumF (-1) f g = fun z => addP (f z) (mulP (g z) (-1, 1)) := by
  funext z
  rw [mulP_neg (r z)]
  unfold sumF addP
  show nrm ((f z).1 * (g z).2 + -1 * (g z).1 * (f z).2) _ = nrm ((f z).1 * (g z).2 + -(g z).1 * (f z).2) _
  rw [Int.neg_mul 1, Int.one_mul]
theorem sumF_off {s : Int} {f g : Fm} {z : Str} (a : f z = (0, 1)) (b : g z = (0, 1)) : sumF s f g z = (0, 1) := by
  unfold sumF
  rw [a, b]
  show nrm (0 * 1 + s * 0 * 1) (1 * 1) = (0, 1)
  rw [Int.mul_zero]
  exact nrm_0 (by decide)
theorem rd_lock {H : Hp} {a b : Addr} {u v : HO} {od : Obj} (h1 : H a = some u) (h2 : H b = some v) : Rd (upd H b (.frz od v)) a u := by
  by_cases c : a = b
  · subst c
    rw [h1] at h2
    cases h2
    exact .inr ⟨od, upd_same⟩
  · exact .inl (by rw [upd_ne c]; exact h1)
theorem rd_same {H H' : Hp} {a : Addr} {u : HO} (s : Same H H') (h : Rd H a u) : Rd H' a u := h.imp (fun e => s _ _ e) fun ⟨o, e⟩ => ⟨o, s _ _ e⟩
theorem dget_at {H : Hp} {d : Addr} {kvs : List (Key × V)} {z : Str} (e : Rd H d (.dK kvs)) : DGet H d (.str z) (valV kvs (.inr z)) := .inl ⟨kvs, .inr z, e, rfl, rfl⟩
theorem get_tup {H : Hp} {N : List Str} {f : Fm} {kvs : List (Key × V)} {z : Str} {p : Addr} (t : Tab N (TupF f H) (ShZ f) kvs) (hp : H p = some (.tup [.int 0, .int 1])) : ∃ u, (valV kvs (.inr z)).getD (.ref p) = .ref u ∧ H u = some (.tup [.int (f z).1, .int (f z).2]) := by
  cases q : valV kvs (.inr z) with
  | none => exact ⟨p, rfl, by rw [show f z = (0, 1) from t.z z q]; exact hp⟩
  | some v =>
    obtain ⟨u, rfl, h⟩ := t.r z v q
    exact ⟨u, rfl, h⟩
theorem fsame {ca : Nat → Addr} {H H' : Hp} {p : Addr} {N : List Str} {f : Fm} (s : Same H H') (h : FormAt ca H p N f) : FormAt ca H' p N f := h.same s
theorem tsame {H H' : Hp} {d : Addr} {N : List Str} {f : Fm} (s : Same H H') (h : TabAt H d N f) : TabAt H' d N f := h.same s
theorem addP_sz {n m : Nat} {x y : Int × Int} (hx : Sz n x.1 ∧ Sz n x.2) (hy : Sz m y.1 ∧ Sz m y.2) (nx : x.2 ≠ 0) (ny : y.2 ≠ 0) : Sz (n + m + 1) (addP x y).1 ∧ Sz (n + m + 1) (addP x y).2 := by
  have n0 := Int.mul_ne_zero nx ny
  unfold addP
  exact ⟨((hx.1.mul hy.2).add' ((hy.1.mul hx.2).mono (by omega))).le (nrm_le1 n0), ((hx.2.mul hy.2).mono (by omega)).le (nrm_le2 n0)⟩
theorem mulP_sz {n m : Nat} {x y : Int × Int} (hx : Sz n x.1 ∧ Sz n x.2) (hy : Sz m y.1 ∧ Sz m y.2) (nx : x.2 ≠ 0) (ny : y.2 ≠ 0) : Sz (n + m) (mulP x y).1 ∧ Sz (n + m) (mulP x y).2 := by
  have n0 := Int.mul_ne_zero nx ny
  unfold mulP
  exact ⟨(hx.1.mul hy.1).le (nrm_le1 n0), (hx.2.mul hy.2).le (nrm_le2 n0)⟩
theorem RedF.ne {f : Fm} (h : RedF f) (z : Str) : (f z).2 ≠ 0 := by have := (h z).pos; omega
theorem addF_sz {n m k : Nat} {f g : Fm} (hf : SzF n f) (hg : SzF m g) (rf : RedF f) (rg : RedF g) (l : n + m + 1 ≤ k := by decide) : SzF k fun z => addP (f z) (g z) := fun z =>
  let ⟨a, b⟩ := addP_sz (hf z) (hg z) (rf.ne z) (rg.ne z); ⟨a.mono l, b.mono l⟩
theorem mulF_sz {n m k : Nat} {f : Fm} {c d : Int} (hf : SzF n f) (rf : RedF f) (hc : Sz m c) (hd : Sz m d) (nd : d ≠ 0) (l : n + m ≤ k := by decide) : SzF k fun z => mulP (f z) (c, d) := fun z =>
  let ⟨a, b⟩ := mulP_sz (y := (c, d)) (hf z) ⟨hc, hd⟩ (rf.ne z) nd; ⟨a.mono l, b.mono l⟩
theorem neg_sub {x y : Int × Int} (h : Red x.1 x.2) (k : Red y.1 y.2) : mulP (addP x (mulP y (-1, 1))) (-1, 1) = addP y (mulP x (-1, 1)) := by
  have n1 : x.2 ≠ 0 := by have := h.pos; omega
  have n2 : y.2 ≠ 0 := by have := k.pos; omega
  rw [mulP_neg k, mulP_neg h]
  have r : Red (addP x (-y.1, y.2)).1 (addP x (-y.1, y.2)).2 := nrm_red (Int.mul_ne_zero n1 n2)
  rw [mulP_neg r]
  unfold addP
  show (-(nrm (x.1 * y.2 + -y.1 * x.2) (x.2 * y.2)).1, (nrm (x.1 * y.2 + -y.1 * x.2) (x.2 * y.2)).2) = nrm (y.1 * x.2 + -x.1 * y.2) (y.2 * x.2)
  rw [← nrm_neg (Int.mul_ne_zero n1 n2), Int.mul_comm y.2 x.2]
  congr 1
  rw [Int.neg_mul, Int.neg_mul]
  omega
/-! ### a dict and its copy -/
def Plain1 (v : V) : Prop := flatB v = true ∨ ∃ a, v = .ref a
theorem hits_copy {A : Around} {s : Shared} {all : List (Key × V)} {other : List (Key × Value)} (r : KV all other) : ∀ {part : List (Key × V)} {mine : List (Key × Value)}, KV part mine → (∀ e ∈ part, valV all e.1 = some e.2) → (∀ e ∈ part, Plain1 e.2) → PySem.W.KeqHits A s other mine true
  | _, _, .nil, _, _ => .nil
  | e :: part, (k, v) :: mine, .cons ⟨same, rv⟩ rest, hall, hplain => by
    obtain ⟨y, hy, ry⟩ := RelO.some_of (v := e.2) (o := valueAt other e.1) (by rw [← hall e List.mem_cons_self]; exact r.val e.1)
    have same : e.1 = k := same
    rw [same] at hy
    have tail := hits_copy (A := A) (s := s) r rest (fun x m => hall x (List.mem_cons_of_mem _ m)) fun x m => hplain x (List.mem_cons_of_mem _ m)
    have both : PySem.W.KeqHits A s other ((k, v) :: mine) (true && true) := by
      refine .hit hy ?_ tail
      rcases hplain e List.mem_cons_self with h | ⟨a, h⟩
      · exact eqAt_same rv ry h
      · rw [h] at rv ry
        cases rv
        cases ry
        exact SeqAt.EqAt.same (.ref a)
    exact both
def rNeCopy : R2 := fun x y H Q => ∃ (a b : Addr) (kvs : List (Key × V)), x = .ref a ∧ y = .ref b ∧ H a = some (.dK kvs) ∧ H b = some (.dK kvs) ∧ (kvs.map (·.1)).Nodup ∧ (∀ e ∈ kvs, Plain1 e.2) ∧ Q (.bl false) H
theorem op_ne_copy {X : Cx} (hu : X.A.units < cLine) : OpR X (compareOp .NotEq) rNeCopy := by
  intro pins s σ H x y v u Q I rx ry ⟨a, b, kvs, ex, ey, ea, eb, hnd, hpl, q⟩
  subst ex ey
  cases (show v = Value.ref a from rx)
  cases (show u = Value.ref b from ry)
  obtain ⟨_, la, va, ka, da⟩ := (show ObjOk X.prog X.w H s.heap a (.dK kvs) from I.hok a _ ea)
  obtain ⟨_, lb, vb, kb, db⟩ := (show ObjOk X.prog X.w H s.heap b (.dK kvs) from I.hok b _ eb)
  have len : va.length = vb.length := by rw [← ka.length, ← kb.length]
  refine PySem.W.keq_ne (knd := mixKind X.prog X.w) (r := true) la lb da db hu (fun _ => hits_copy kb ka (fun e m => valV_of hnd m) hpl) (fin_bl I q (by simp [len]))
def nameB (z : Str) : Bool := decide (z.length ≤ 12) && (decide (0 < z.length) && z.cps.toList.all fun c => decide (97 ≤ c) && decide (c ≤ 122))
theorem nameB_ok {z : Str} (h : nameB z = true) : NameOk z := by
  obtain ⟨h1, h⟩ := Bool.and_eq_true_iff.mp h
  obtain ⟨h2, h3⟩ := Bool.and_eq_true_iff.mp h
  refine ⟨of_decide_eq_true h1, of_decide_eq_true h2, fun c m => ?_⟩
  obtain ⟨a, b⟩ := Bool.and_eq_true_iff.mp (List.all_eq_true.mp h3 c m)
  exact ⟨of_decide_eq_true a, of_decide_eq_true b⟩
theorem namesB_ok {ws : List Str} (h : ws.all nameB = true) : ∀ z ∈ ws, NameOk z := fun z m => nameB_ok (List.all_eq_true.mp h z m)
theorem FormSh.putD {ca : Nat → Addr} {H H' : Hp} {d c : Addr} {N : List Str} {f : Fm} {kvs : List (Key × V)} (h : FormSh ca H d N f) (e : H c = some (.dK kvs)) (n : d ≠ c) (k : Keep c H H') : FormSh ca H' d N f :=
  let ⟨ks, e1, t⟩ := h; ⟨ks, k _ _ e1 n, t.mono (fun _ _ => ShR.keep e nd k) fun _ z => z⟩
theorem TabAt.putD {H H' : Hp} {d c : Addr} {N : List Str} {f : Fm} {kvs : List (Key × V)} (h : TabAt H d N f) (e : H c = some (.dK kvs)) (n : d ≠ c) (k : Keep c H H') : TabAt H' d N f :=
  let ⟨ks, e1, t⟩ := h; ⟨ks, k _ _ e1 n, t.mono (fun _ _ => TupF.keep e ndt k) fun _ z => z⟩
theorem TabAt.ne {H : Hp} {d c : Addr} {N : List Str} {f : Fm} (h : TabAt H d N f) (n : H c = none) : d ≠ c := let ⟨_, e, _⟩ := h; ne_of_none e n
theorem numR_plain {ca : Nat → Addr} {H : Hp} {N : List Str} {f : Fm} {kvs : List (Key × V)} (t : Tab N (NumR ca f H) (ShZ f) kvs) : ∀ e ∈ kvs, Plain1 e.2 := fun e m => by
  obtain ⟨k, v⟩ := e
  obtain ⟨z, _, ek⟩ := t.k.mem _ m
  have ek : k = .inr z := ek
  subst ek
  rcases t.r z v (valV_of t.k.nd m) with ⟨h, _⟩ | ⟨p, h, _⟩
  · exact .inl (by show flatB v = true; rw [h]; rfl)
  · exact .inr ⟨p, h⟩
theorem FormSh.putL {ca : Nat → Addr} {H H' : Hp} {d c : Addr} {N : List Str} {f : Fm} {xs : List V} (h : FormSh ca H d N f) (e : H c = some (.lst xs)) (k : Keep c H H') : FormSh ca H' d N f :=
  let ⟨ks, e1, t⟩ := h; ⟨ks, k _ _ e1 (ne_of e1 e fun z => nomatch z), t.mono (fun _ _ => ShR.keep e (fun _ _ _ z => nomatch z) k) fun _ z => z⟩
theorem oneT {H : Hp} {d t : Addr} {N : List Str} {z : Str} (hz : z ∈ N) (ht : H t = some (.tup [.int 1, .int 1])) (n : t ≠ d) : TabAt (upd H d (.dK (mergeK [] [(.inr z, .ref t)]))) d N (oneF z) := by
  refine ⟨_, upd_same, Tab.set (R := fun _ _ => False) (Z := fun _ => True) (.nil fun _ => True.intro) hz ?_ (fun _ _ _ h => h.elim) fun y c _ => oneF_ne c⟩
  refine ⟨t, rfl, ?_⟩
  rw [oneF_self, upd_ne n]
  exact ht
end Lo

set_option Elab.async false
set_option linter.all false
set_option maxRecDepth 100000
set_option maxHeartbeats 4000000
namespace Lo
open PySem PySem.Spec PyProof.Rows L2
/-! ### own errors with fields -/
/-- __init__ of an error stores its parameters under the names fs -/
def spErr (C : Addr) (fs : List Str) : Sp := fun vs H Q _ => ∃ (a : Addr) (us : List V), vs = .ref a :: us ∧ us.length = fs.length ∧ H a = some (exo a C none) ∧
  ∀ (dx : Addr) (H2 : Hp), H dx = none → dx ≠ a → H2 a = some (exo a C (some dx)) → H2 dx = some (exd dx (fs.zip us).reverse) → (∀ b o, H b = some o → b ≠ a → H2 b = some o) → Q .non H2
structure OwnE (P : Program) (w : World) (K : PySem.W.Frag) (mg : Str → Option Value) (base : Heap) (x : Str) (C : Addr) (fs : List Str) : Prop where
  cl : OexC K C
  ex : ∃ f fd ps, FnOk P w K mg base (L2N.CX P w) 1 f fd ps (spErr C fs) ∧ PySem.W.findIn K (.ref C) "__init__" = some (some (.ref f)) ∧ PySem.W.typeIn K (.ref f) = some (.type "function") ∧ mg x = some (.ref C) ∧ Binds K fd ps []
theorem pmk_err {X : Cx} {x : Str} {C : Addr} {fs : List Str} {e : Expr} {es : List Expr} {ta : TA} {p pos : Pos} (O : OwnE X.prog X.w X.K X.mg X.base x C fs) (hr : Room 2 X.A) (hg : Gl X x) (ha : PA X (e :: es) ta)
    (hdb : (x == ("__debug__" : Str)) = false := by decide) (he : starEach (e :: es) X.env = (false, eval e X.env) :: starEach es X.env := by rfl) (hpl : (backTo pos (starEach es X.env)).any (·.1) = false := by rfl) :
    L2N.PMk X (.Call (.Name x p) (e :: es) [] pos) (tMkO C (spErr C fs) [] ta) := by
  obtain ⟨f, fd, ps, G, hi, ht, hm, hb⟩ := O.ex
  obtain ⟨nm, q, N, bs, bm, sn, sub, ab, col, dd, k0, k1, k2, k3, k5, hC, hbm⟩ := O.cl.cls
  intro pins s σ H Q I h
  apply wpAny_Call_Name_kw (ld_glob I hg hm ?_ hdb)
  apply PySem.W.callWith_K (h₀ := X.base) I.ok.mod.kin O.cl.kC ?_ he hpl
  apply thn (ha.run pos pins s σ H _ I h)
  rintro us ⟨hp, g, dr, tk, os⟩ ⟨vs, H1, I1, r1, l1000, q1⟩
  refine ⟨I1.kIn, ?_⟩
  have sz : hp.objs.size ≤ hp.objs.size + 1 := Nat.le_succ _
  have hn : H1 (hp.objs.size + 1) = none := I1.hok.fresh sz
  have old : ∀ b o, hp.get? b = some o → ((hp.push (PySem.W.kdv_tup us)).push (PySem.HandSPX.excO C hp.objs.size)).get? b = some o := fun b o e =>
    Heap.get?_push_of_some _ (Heap.get?_push_of_some _ e)
  have new : ((hp.push (PySem.W.kdv_tup us)).push (PySem.HandSPX.excO C hp.objs.size)).get? (hp.objs.size + 1) =
      some (PySem.HandSPX.excO C hp.objs.size) := by heap_get
  have I2 := I1.laid (t' := tk) old sz (exo_ok (P := X.prog) (w := X.w) (H := upd H1 (hp.objs.size + 1) (exo (hp.objs.size + 1) C none)) new)
  have hsp := q1 _ hn
  have r2 : Vals (V.ref (hp.objs.size + 1) :: (vs ++ [])) (Value.ref (hp.objs.size + 1) :: (us ++ [])) := .cons rfl (r1.append .nil)
  have lps : (Value.ref (hp.objs.size + 1) :: us ++ []).length = ps.length := by
    have e := r2.length
    rw [G.len _ _ _ _ hsp] at e
    exact e.symm
  have lus : us.length ≤ sizeLine := by rw [← Paired.length r1, sizeLine_eq]; omega
  have run := G.run _ X.stack _ _ ⟨Value.ref (hp.objs.size + 1) :: us, []⟩ _ _ _ (fun _ _ _ => False) (hr.make C us []) (I2.env0.make C us []) (hb _ (Value.ref (hp.objs.size + 1) :: us) I2.kIn lps) r2 hsp
  refine wpAny_call (PySem.HandSPX.call_own F.excBase_ValueError (fun Y => PySem.HandSPX.refsVE_contains Y bm hbm) (I1.kIn _ _ hC) (PySem.W.looks_findIn I1.kIn hi) (fun self => PySem.W.bind_fn I1.kIn self ht) lus (codeAny_mono run ?_))
  rintro (er | fl) s' hq'
  · exact pas0 σ pins _ _ er s' I2 hq'
  · cases fl with
    | ret u =>
      obtain ⟨v, G2, hos, ab, un, ok2, rv, ev, d, gs, ga, gd, fresh, q3⟩ := hq'
      subst ev
      obtain ⟨z2, y2, x2, w2, u2⟩ := s'
      obtain ⟨t0, GG, J, kept, gone, at2, na⟩ := mk_end0 (d2 := x2) (t2 := w2) I1 sz old un ok2 hos ab ga gd fresh
      have hz : L2N.Zn (.ref C) (some d) ({ cls := .ref C, dict := some d, data := .fields #[.ref t0, .none, .none, .none, .bool false, .none] } : Obj) := ⟨rfl, rfl, fun vs e => by cases e; rfl⟩
      exact ⟨rv, ⟨_, _, _, ⟨GG, y2, x2, w2, u2⟩, _, _, _, rfl, J, kept, gone, at2, hz, rfl, rfl, na, rfl, ab, raises_own O.cl.exC O.cl.tyC, q3⟩⟩
    | next => exact hq'.elim
    | brk => exact hq'.elim
    | cont => exact hq'.elim
/-- raise X(e, ..) -/
def tRaiseE (C : Addr) (fs : List Str) (W : WX) (ta : TA) : TS := fun _ σ H => tMkO C (spErr C fs) [] ta σ H fun cls d H' => W cls d σ H'
theorem ps_raiseE {X : Cx} {x : Str} {C : Addr} {fs : List Str} {e : Expr} {es : List Expr} {ta : TA} {W : WX} {p pos pos2 : Pos} (hc : X.calm = true) (O : OwnE X.prog X.w X.K X.mg X.base x C fs) (hr : Room 2 X.A) (tk : L2N.Takes X W) (hg : Gl X x) (ha : PA X (e :: es) ta)
    (hdb : (x == ("__debug__" : Str)) = false := by decide) (he : starEach (e :: es) X.env = (false, eval e X.env) :: starEach es X.env := by rfl) (hpl : (backTo pos (starEach es X.env)).any (·.1) = false := by rfl) :
    PS X (.Raise (some (.Call (.Name x p) (e :: es) [] pos)) none pos2) (tRaiseE C fs W ta) := L2N.ps_raise hc tk (pmk_err O hr hg ha hdb he hpl)
/-- behind the arguments' reading -/
theorem err_in {C : Addr} {fs : List Str} {us : List V} {H1 : Hp} {Q : XK} (hl : us.length = fs.length) (h100 : fs.length ≤ 100) (k : ∀ (d : Addr) (H2 : Hp), H1 d = none → Same H1 H2 → H2 d = some (.xd (fs.zip us).reverse) → Q (.ref C) (some d) H2) :
    us.length ≤ 1000 ∧ ∀ a, H1 a = none → spErr C fs (.ref a :: (us ++ [])) (upd H1 a (exo a C none))
      (fun v H2 => v = .non ∧ ∃ (d : Addr) (fs' : List (Str × V)), H2 a = some (exo a C (some d)) ∧ H2 d = some (exd d fs') ∧ H1 d = none ∧ Q (.ref C) (some d) (upd (L2.del H2 a) d (.xd fs'))) (fun _ _ _ => False) := by
  refine ⟨by omega, fun a na => ⟨a, us, by rw [List.append_nil], hl, upd_same, fun dx H2 nd ne ea ed sm => ⟨rfl, dx, _, ea, ed, ?_, ?_⟩⟩⟩
  · rw [upd_ne ne] at nd
    exact nd
  · rw [upd_ne ne] at nd
    refine k dx _ nd (fun b o e => ?_) upd_same
    have hb := ne_of_none e na
    rw [upd_ne (ne_of_none e nd), del_ne hb]
    exact sm b o (by rw [upd_ne hb]; exact e) hb
/-- the stores of __init__ -/
theorem err_1 {K : PySem.W.Frag} {C a : Addr} {f : Str} {y : V} {H : Hp} {R : Hp → Prop} (T : OexC K C) (hno : PySem.W.findIn K (.ref C) f = some none) (h : H a = some (exo a C none)) (k : ∀ dx H2, H dx = none → dx ≠ a → H2 a = some (exo a C (some dx)) → H2 dx = some (exd dx [(f, y)]) → (∀ b o, H b = some o → b ≠ a → H2 b = some o) → R H2) :
    ∃ a' C' : Addr, V.ref a = .ref a' ∧ OexC K C' ∧ PySem.W.findIn K (.ref C') f = some none ∧
      ((H a' = some (exo a' C' none) ∧ ∀ dx, H dx = none → dx ≠ a' → R (upd (upd H dx (exd dx [(f, y)])) a' (exo a' C' (some dx)))) ∨
        ∃ (dx : Addr) (fs : List (Str × V)), H a' = some (exo a' C' (some dx)) ∧ H dx = some (exd dx fs) ∧ fs.length ≤ 900 ∧ R (upd H dx (exd dx ((f, y) :: fs)))) :=
  ⟨a, C, rfl, T, hno, .inl ⟨h, fun dx n ne => k dx _ n ne upd_same (by rw [upd_ne ne]; exact upd_same) fun b o e m => by rw [upd_ne m, upd_ne (ne_of_none e n)]; exact e⟩⟩
theorem err_2 {K : PySem.W.Frag} {C a dx : Addr} {f : Str} {y : V} {H : Hp} {R : Hp → Prop} {fs : List (Str × V)} (T : OexC K C) (hno : PySem.W.findIn K (.ref C) f = some none) (h : H a = some (exo a C (some dx))) (h2 : H dx = some (exd dx fs)) (hl : fs.length ≤ 900) (hne : dx ≠ a)
    (k : ∀ H2, H2 a = some (exo a C (some dx)) → H2 dx = some (exd dx ((f, y) :: fs)) → (∀ b o, H b = some o → b ≠ dx → H2 b = some o) → R H2) :
    ∃ a' C' : Addr, V.ref a = .ref a' ∧ OexC K C' ∧ PySem.W.findIn K (.ref C') f = some none ∧
      ((H a' = some (exo a' C' none) ∧ ∀ dx, H dx = none → dx ≠ a' → R (upd (upd H dx (exd dx [(f, y)])) a' (exo a' C' (some dx)))) ∨
        ∃ (dx : Addr) (fs : List (Str × V)), H a' = some (exo a' C' (some dx)) ∧ H dx = some (exd dx fs) ∧ fs.length ≤ 900 ∧ R (upd H dx (exd dx ((f, y) :: fs)))) :=
  ⟨a, C, rfl, T, hno, .inr ⟨dx, fs, h, h2, hl, k _ (by rw [upd_ne hne.symm]; exact h) upd_same fun b o e m => by rw [upd_ne m]; exact e⟩⟩
end Lo

set_option Elab.async false
set_option linter.all false
set_option maxRecDepth 100000
set_option maxHeartbeats 4000000
namespace Lo
open PySem L2
/-! ### sets of words: set(list), sorted(set) -/
section
variable {P : Program} {w : World} {K : Type} [DecidableEq K]
def SetQ (knd : KeyKind P w K) (h : Heap) (a : Addr) (S : K → Bool) (n : Nat) : Prop :=
  ∃ o es ep t, h.get? a = some o ∧ o.ExactSet ∧ o.data = Data.set es ep t ∧ ElemsOf knd es.toList ∧ (es.toList.Pairwise fun x y => ∀ k, knd.is k x.2 = true → knd.is k y.2 = false) ∧
    (∀ k, S k = true ↔ ∃ e, e ∈ es.toList ∧ knd.is k e.2 = true) ∧ es.size < scanBound ∧ t.fits es.size = true ∧ es.size = n ∧ Ris t.place.toList ∧ (w.params.followText "set-order" = true ∨ t.led = true)
theorem gate {M : Model} {A : Around} {E : Value → Shared → Prop} {s : Shared} {α : Type} {g : Bool → Sem Unit} {b : Bool} {rest : Unit → Sem α} {R : α → Shared → Prop} (hg : ∀ (b : Bool) (s₁ : Shared) (Q' : Unit → Shared → Prop), Q' () s₁ → wpAny M A (g b) Q' E s₁)
    (k : (∀ (b : Bool) (s₁ : Shared) (Q' : Unit → Shared → Prop), Q' () s₁ → wpAny M A (g b) Q' E s₁) → wpAny M A (rest ()) R E s) : wpAny M A (g b >>= rest) R E s := wpAny_bind (hg _ _ _ (k hg))
theorem pw_sym {knd : KeyKind P w K} {es es' : List (Int × Value)} (h : es.Perm es') (k : es'.Pairwise fun x y => ∀ k, knd.is k x.2 = true → knd.is k y.2 = false) : es.Pairwise fun x y => ∀ k, knd.is k x.2 = true → knd.is k y.2 = false :=
  (h.pairwise_iff (fun {x y} hxy k hy => by
    cases e : knd.is k x.2 with
    | false => rfl
    | true => rw [hxy k e] at hy; exact hy.symm)).mpr k
theorem setQ_tail {knd : KeyKind P w K} {A : Around} {E : Value → Shared → Prop} {s : Shared} {a : Addr} {g : Bool → Sem Unit} (hg : ∀ (b : Bool) (s₁ : Shared) (Q' : Unit → Shared → Prop), Q' () s₁ → wpAny (model P w) A (g b) Q' E s₁)
    {o : Obj} {es : Array (Int × Value)} {ep : Nat} {t : SetTable} (ho : s.heap.get? a = some o) (hex : o.ExactSet) (hd : o.data = Data.set es ep t) {es1 : Array (Int × Value)} {t2 : SetTable} {S' : K → Bool}
    (hel : ElemsOf knd es1.toList) (hnd : es1.toList.Pairwise fun x y => ∀ k, knd.is k x.2 = true → knd.is k y.2 = false) (hm : ∀ k, S' k = true ↔ ∃ e, e ∈ es1.toList ∧ knd.is k e.2 = true) (hsb : es1.size < scanBound)
    (hf : t2.fits es1.size = true) (hr : Ris t2.place.toList) (hl : w.params.followText "set-order" = true ∨ t2.led = true) {wasDummy : Bool} {R : Option Bool → Shared → Prop}
    (h : ∀ h', Heap.SameBut a s.heap h' → SetQ knd h' a S' es1.size → R (some true) { s with heap := h' }) :
    wpAny (model P w) A (do
      storeSet a es1 t2
      if (!wasDummy && t2.tooFull) = true then do
        g (relayAll t2 es1 (SetTable.grown es1.size)).snd.snd
        storeSet a (relayAll t2 es1 (SetTable.grown es1.size)).fst (relayAll t2 es1 (SetTable.grown es1.size)).snd.fst
        pure (some true)
      else pure (some true)) R E s := by
  have e1 := store_at (es' := es1) (t' := t2) ho hd
  refine wpAny_bind (wpAny_storeSet_of ho hd ?_ (fits_of_scanBound hsb))
  have sb := Heap.SameBut.update s.heap a (Obj.putSet es1 t2)
  generalize s.heap.update a (Obj.putSet es1 t2) = h1 at *
  by_cases c : (!wasDummy && t2.tooFull) = true
  · rw [if_pos c]
    refine wpAny_bind (hg _ _ _ ?_)
    have hp := relayAll_perm t2 es1 (SetTable.grown es1.size)
    have hz : (relayAll t2 es1 (SetTable.grown es1.size)).fst.size = es1.size := by simpa using hp.length_eq
    refine wpAny_bind (wpAny_storeSet_of e1 rfl ?_ (fits_of_scanBound (by rw [hz]; exact hsb)))
    have e2 := store_at (es' := (relayAll t2 es1 (SetTable.grown es1.size)).fst) (t' := (relayAll t2 es1 (SetTable.grown es1.size)).snd.fst) e1 rfl
    have sb2 := sb.trans (Heap.SameBut.update h1 a (Obj.putSet (relayAll t2 es1 (SetTable.grown es1.size)).fst (relayAll t2 es1 (SetTable.grown es1.size)).snd.fst))
    refine wpAny_pure (h _ sb2 ⟨_, _, _, _, e2, ⟨hex.1, hex.2.1, hex.2.2⟩, rfl, fun e m => hel e (hp.mem_iff.mp m), pw_sym hp hnd, fun k => ?_, by rw [hz]; exact hsb, relayAll_fits _ _ _, hz, relayAll_ris _ _ _, ?_⟩)
    · rw [hm]
      exact ⟨fun ⟨e, m, q⟩ => ⟨e, hp.mem_iff.mpr m, q⟩, fun ⟨e, m, q⟩ => ⟨e, hp.mem_iff.mp m, q⟩⟩
    · rw [relayAll_led]
      exact hl
  · rw [if_neg c]
    exact wpAny_pure (h _ sb ⟨_, _, _, _, e1, ⟨hex.1, hex.2.1, hex.2.2⟩, rfl, hel, hnd, hm, hsb, hf, rfl, hr, hl⟩)
theorem setQ_add {knd : KeyKind P w K} {A : Around} {E : Value → Shared → Prop} {s : Shared} {a : Addr} {S : K → Bool} {n : Nat} {k : K} {x : Value} {Q : Bool → Shared → Prop}
    (hS : SetQ knd s.heap a S n) (hn : n + 1 < scanBound) (hx : knd.is k x = true) (hsc : x.scannable = true)
    (h : ∀ h', Heap.SameBut a s.heap h' → SetQ knd h' a (fun j => S j || decide (j = k)) (if S k = true then n else n + 1) → Q (!S k) { s with heap := h' }) :
    wpAny (model P w) A (setAddHashed a x (knd.hash k)) Q E s := by
  obtain ⟨o, es, ep, t, ho, hex, hd, hel, hnd, hm, hsb, hf, hsz, hr, hl⟩ := hS
  unfold setAddHashed
  refine wpAny_holding ?_
  unfold setAddHashedIn
  refine wpAny_bind (wpAny_setState_of ho hd hf ?_)
  simp only
  rw [byScan_of hsc hsb hel]
  rw [if_pos rfl]
  refine wpAny_bind ?_
  unfold setAddByScan
  refine wpAny_bind (wpAny_rule ?_)
  refine wpAny_bind (wpAny_setScan_of hx ho hd hf hel ?_)
  have hk : S k = true ↔ (es.toList.findIdx? fun e => knd.is k e.2).isSome = true := by
    rw [hm, List.findIdx?_isSome, List.any_eq_true]
  cases q : es.toList.findIdx? fun e => knd.is k e.2 with
  | some j =>
    rw [q] at hk
    have hk : S k = true := hk.mpr rfl
    refine wpAny_pure (wpAny_pure ?_)
    have e : (fun j => S j || decide (j = k)) = S := by
      funext j
      by_cases c : j = k
      · rw [c, hk]; rfl
      · rw [decide_eq_false c, Bool.or_false]
    have := h s.heap ⟨rfl, fun _ _ => rfl⟩ (by rw [e, if_pos hk]; exact ⟨o, es, ep, t, ho, hex, hd, hel, hnd, hm, hsb, hf, hsz, hr, hl⟩)
    rw [hk] at this
    exact this
  | none =>
    rw [q] at hk
    have hk : S k = false := by
      cases e : S k with
      | false => rfl
      | true => exact nomatch hk.mp e
    rw [hk, if_neg (fun z => nomatch z)] at h
    simp only
    have hp := layNew_perm t es (knd.hash k) x
    have hf1 := layNew_fits t es (knd.hash k) x
    have hr1 := layNew_ris t es (knd.hash k) x hr
    have hl1 := layNew_led t es (knd.hash k) x
    have hz : (layNew t es (knd.hash k) x).1.size = n + 1 := by
      have := hp.length_eq
      simp at this
      omega
    have hmem : ∀ e, e ∈ (layNew t es (knd.hash k) x).1.toList ↔ e ∈ es.toList ∨ e = (knd.hash k, x) := fun e => by
      rw [hp.mem_iff, Array.toList_push, List.mem_append, List.mem_singleton]
    have tl : ∀ (g : Bool → Sem Unit) (hg : ∀ (b : Bool) (s₁ : Shared) (Q' : Unit → Shared → Prop), Q' () s₁ → wpAny (model P w) A (g b) Q' E s₁) (t2 : SetTable), t2.fits (layNew t es (knd.hash k) x).1.size = true → Ris t2.place.toList → t2.led = t.led → wpAny (model P w) A (do
        storeSet a (layNew t es (knd.hash k) x).1 t2
        if (!(layNew t es (knd.hash k) x).2.2.1 && t2.tooFull) = true then do
          g (relayAll t2 (layNew t es (knd.hash k) x).1 (SetTable.grown (layNew t es (knd.hash k) x).1.size)).snd.snd
          storeSet a (relayAll t2 (layNew t es (knd.hash k) x).1 (SetTable.grown (layNew t es (knd.hash k) x).1.size)).fst (relayAll t2 (layNew t es (knd.hash k) x).1 (SetTable.grown (layNew t es (knd.hash k) x).1.size)).snd.fst
          pure (some true)
        else pure (some true)) (fun a_1 s' => wpAny (model P w) A (match a_1 with | some added => pure added | none => setAddHashedIn a x (knd.hash k) 99999) Q E s') E s := by
      intro g hg t2 f2 r2 l2
      refine setQ_tail (knd := knd) (S' := fun j => S j || decide (j = k)) hg ho hex hd ?_ ?_ ?_ (by rw [hz]; exact hn) f2 r2 (by rw [l2]; exact hl) fun h' sb hq => wpAny_pure (h h' sb (by rw [← hz]; exact hq))
      · intro e m
        rcases (hmem e).mp m with m | rfl
        · exact hel e m
        · exact ⟨⟨k, hx, rfl⟩, hsc⟩
      · refine pw_sym hp ?_
        rw [Array.toList_push, List.pairwise_append]
        refine ⟨hnd, List.pairwise_singleton _ _, fun e m y my j hj => ?_⟩
        rw [List.mem_singleton] at my
        subst my
        cases ex : knd.is j x with
        | false => rfl
        | true =>
          have ej := knd.inj x j k ex hx
          subst ej
          rw [(hm j).mpr ⟨e, m, hj⟩] at hk
          cases hk
      · intro j
        rw [Bool.or_eq_true, decide_eq_true_iff, hm]
        constructor
        · rintro (⟨e, m, q⟩ | rfl)
          · exact ⟨e, (hmem e).mpr (.inl m), q⟩
          · exact ⟨_, (hmem _).mpr (.inr rfl), hx⟩
        · rintro ⟨e, m, q⟩
          rcases (hmem e).mp m with m | rfl
          · exact .inl ⟨e, m, q⟩
          · exact .inr (knd.inj x j k q hx)
    refine gate (fun b s₁ Q' q => ?_) fun hg => ?_
    · cases b
      · exact wpAny_pure q
      · exact wpAny_rule q
    by_cases c : (layNew t es (knd.hash k) x).2.1.plain = true
    · rw [if_pos c, hashByValue_scannable 8 hsc]
      refine wpAny_bind (wpAny_pure ?_)
      refine tl _ hg _ ?_ ?_ ?_
      · split
        · exact hf1
        · exact hf1
      · split
        · exact hr1
        · exact hr1
      · split
        · exact hl1
        · exact hl1
    · rw [if_neg c]
      refine wpAny_bind (wpAny_pure ?_)
      exact tl _ hg _ hf1 hr1 hl1
theorem SetQ.at {knd : KeyKind P w K} {h h' : Heap} {a : Addr} {S : K → Bool} {n : Nat} (q : SetQ knd h a S n) (k : ∀ o, h.get? a = some o → h'.get? a = some o) : SetQ knd h' a S n :=
  let ⟨o, es, ep, t, ho, r⟩ := q
  ⟨o, es, ep, t, k o ho, r⟩
theorem SetQ.congr {knd : KeyKind P w K} {h : Heap} {a : Addr} {S S' : K → Bool} {n : Nat} (q : SetQ knd h a S n) (k : S' = S) : SetQ knd h a S' n := k ▸ q
theorem setQ_update {knd : KeyKind P w K} {A : Around} {I : Addr} {fp wr : List Addr} {G : Array GenState → Array GenState → Prop} {n : Nat} {Pv : Nat → Value → Prop} {St : Nat → Shared → Prop} {R : Result → Shared → Prop}
    (hW : WalksS P w A.in1 I fp wr G n Pv St) (S : Addr) (hS : ¬ S ∈ fp) (ks : List K) (hn : n = ks.length) (hb : ks.length + 1 < scanBound) (hv : ∀ i v, Pv i v → ∃ k, ks[i]? = some k ∧ knd.is k v = true ∧ v.scannable = true) :
    ∀ (k i : Nat) (s : Shared), n - i = k → i ≤ n → St i s → (∃ c, c ≤ i ∧ SetQ knd s.heap S (fun j => decide (j ∈ ks.take i)) c) →
      (∀ (s' : Shared) (c : Nat), Moved (S :: wr) G s s' → c ≤ n → SetQ knd s'.heap S (fun j => decide (j ∈ ks)) c → R (Except.ok (Flow.ret Value.none)) s') →
      codeAny (model P w) A (Code.builtin "set.update.loop" { pos := [Value.ref S, Value.ref I] }) R s
  | k, i, s, hk, hi, hst, ⟨c, hc, hq⟩, h => by
    refine codeAny_builtin PyProof.Rows.F.entry_set_update_loop ?_
    unfold Builtin.«set.update.loop»
    simp only
    show wpAny _ A.in1 _ _ _ s
    have hSw : ¬ S ∈ wr := fun m => hS (hW.sub _ m)
    by_cases e : i = n
    · subst e
      refine wpAny_bind (hW.done s _ _ hst fun s' m => wpAny_pure (h s' c ⟨fun b o nb => m.heap b o fun z => nb (List.mem_cons_of_mem _ z), m.gens, m.drawn, m.os, m.toks⟩ hc ?_))
      refine (hq.at fun o => m.heap S o hSw).congr ?_
      rw [hn, List.take_length]
    · refine wpAny_bind (hW.item i s _ _ (by omega) hst fun v s' hp hst' m => ?_)
      obtain ⟨z, hz, hzv, hsc⟩ := hv i v hp
      simp only
      refine wpAny_bind (wpAny_holding ?_)
      unfold setAdd
      refine wpAny_holding (wpAny_bind (knd.pyHash hzv ?_))
      have hq1 := hq.at fun o => m.heap S o hSw
      refine setQ_add (s := { s' with toks := s'.toks + 1 }) (n := c) hq1 (by omega) hzv hsc fun h' sb q2 => wpAny_pure ⟨plainId_quiet PyProof.Rows.F.plain_set_update_loop _, ?_⟩
      have hst2 := hW.frame (i + 1) s' h' (s'.toks + 1) hst' (Nat.le_succ _) fun b mb o ho => by rw [sb.2 b (fun z => hS (z ▸ mb))]; exact ho
      refine setQ_update hW S hS ks hn hb hv (n - (i + 1)) (i + 1) _ rfl (by omega) hst2 ⟨_, ?_, q2.congr ?_⟩ fun s3 c3 m3 => h s3 c3 ⟨fun b o nb ho => ?_, ?_, ?_, ?_, ?_⟩
      · split <;> omega
      · funext j
        have e : ks.take (i + 1) = ks.take i ++ [z] := by rw [List.take_add_one, hz]; rfl
        rw [e]
        by_cases c1 : j ∈ ks.take i
        · rw [decide_eq_true c1, decide_eq_true (List.mem_append_left _ c1)]; rfl
        · rw [decide_eq_false c1, Bool.false_or]
          by_cases c2 : j = z
          · rw [decide_eq_true c2, decide_eq_true (List.mem_append_right _ (by rw [c2]; simp))]
          · rw [decide_eq_false c2, decide_eq_false fun q => (List.mem_append.mp q).elim c1 fun q => c2 (by simpa using q)]
      · refine m3.heap b o nb ?_
        show h'.get? b = some o
        rw [sb.2 b (fun z => nb (by rw [z]; exact List.mem_cons_self))]
        exact m.heap b o (fun z => nb (List.mem_cons_of_mem _ z)) ho
      · exact hW.gtrans _ _ _ m.gens m3.gens
      · exact m3.drawn.trans m.drawn
      · exact m3.os.trans m.os
      · exact Nat.le_trans m.toks (Nat.le_trans (Nat.le_succ _) m3.toks)
  termination_by k => k
  decreasing_by omega
theorem tc_quiet (a : Args) : (Code.builtin "type.__call__" a).quiet = true := by
  unfold Code.quiet Thread.loud
  simp [L2.call_set_tups._proof_1, Thread.atCollectorCode, Thread.yieldsInsideHandler, Thread.atExit]
theorem call_setQ {knd : KeyKind P w K} {A : Around} {E : Value → Shared → Prop} {s : Shared} {l : Addr} {items : Array Value} (ks : List K) {Q : Value → Shared → Prop} (hA : A.handled = none) (hl : s.heap.IsList l items)
    (hlen : items.size = ks.length) (hb : ks.length + 1 < scanBound) (hv : ∀ (i : Nat) (v : Value), items[i]? = some v → ∃ k, ks[i]? = some k ∧ knd.is k v = true ∧ v.scannable = true)
    (h : ∀ (h' : Heap) (tk c : Nat), c ≤ ks.length → SetQ knd h' s.heap.objs.size (fun j => decide (j ∈ ks)) c → (∀ (b : Addr) (o : Obj), s.heap.get? b = some o → h'.get? b = some o) → Q (Value.ref s.heap.objs.size) { s with heap := h', toks := tk }) :
    wpAny (model P w) A (call (Value.type "set") [Value.ref l]) Q E s := by
  refine wpAny_call (codeAny_of_tree ?_)
  show wpAny _ (A.under _) (pure (Fin.again (Code.builtin "type.__call__" { pos := [Value.type "set", Value.ref l] }))) _ _ s
  refine wpAny_pure ⟨tc_quiet _, ?_⟩
  refine codeAny_builtin F.entry_type_call ?_
  show wpAny _ A.in1 _ _ _ s
  unfold Builtin.«type.__call__»
  simp only
  refine wpAny_ite_false (by decide) ?_
  refine wpAny_ite_false (by decide +kernel) ?_
  rw [F.typeCall_set_1]
  refine wpAny_bind (wpAny_pure ?_)
  have hs := F.called_set
  obtain ⟨c0, tl, hm⟩ := hs.mro
  rw [hm]
  refine wpAny_bind (wpAny_pure ?_)
  refine wpAny_ite_false rfl ?_
  rw [hs.made]
  refine wpAny_bind (wpAny_pure ?_)
  simp only
  refine wpAny_bind (wpAny_pure ?_)
  refine wpAny_bind (wpAny_holding (wpAny_call ?_))
  refine codeAny_mono (code_set_led1 (E := fun _ _ => False) (Q₁ := fun v s' => v = Value.ref s.heap.objs.size ∧ s' = { s with heap := s.heap.push { cls := Value.type "set", data := Data.set #[] 0 (SetTable.fresh 0 0 !w.params.followText "set-order") } }) _ ⟨rfl, rfl⟩) fun r s1 hr => ?_
  obtain ⟨v, rfl, e1, e2⟩ : ∃ v, r = .ok (.ret v) ∧ v = Value.ref s.heap.objs.size ∧ s1 = { s with heap := s.heap.push { cls := Value.type "set", data := Data.set #[] 0 (SetTable.fresh 0 0 !w.params.followText "set-order") } } := by
    match r with
    | .ok (.ret v) => exact ⟨v, rfl, hr.1, hr.2⟩
    | .error _ => exact hr.elim
    | .ok (.next) => exact hr.elim
    | .ok (.brk) => exact hr.elim
  subst e1
  subst e2
  simp only
  have ho := Heap.get?_push_size (h := s.heap) (o := { cls := Value.type "set", data := Data.set #[] 0 (SetTable.fresh 0 0 !w.params.followText "set-order") }) rfl
  refine wpAny_bind (wpAny_isInstance (T := "set") ⟨_, ho, rfl⟩ hs.sub ?_)
  refine wpAny_ite_false rfl ?_
  refine wpAny_bind (wpAny_holding ?_)
  unfold callSpecial?
  refine wpAny_bind (wpAny_specialOf (T := "set") ⟨_, ho, rfl⟩ hs.init.lookup ?_)
  simp only
  refine wpAny_holding ?_
  rw [hs.init.bind]
  refine wpAny_bind (wpAny_pure ?_)
  simp only
  refine wpAny_bind (wpAny_call ?_)
  refine codeAny_call_builtin hs.init.plain F.entry_set_init (check_set_init_1 ⟨_, ho, rfl⟩ ?_)
  unfold Builtin.«set.__init__»
  simp only [List.cons_append, List.nil_append]
  refine wpAny_bind (wpAny_pure ?_)
  refine wpAny_bind ?_
  unfold typeNameOfCut
  refine wpAny_bind (?_ : wpAny _ _ (shownTypeOf _) _ _ _)
  unfold shownTypeOf
  refine wpAny_bind (wpAny_typeOf (T := "set") ⟨_, ho, rfl⟩ ?_)
  refine wpAny_ite_false (by decide) (wpAny_pure ?_)
  unfold typeNameCut typeName
  refine wpAny_pure ?_
  refine wpAny_bind ?_
  unfold checkCount
  refine wpAny_ite_false rfl ?_
  refine wpAny_ite_false rfl ?_
  refine wpAny_ite_false rfl (wpAny_pure ?_)
  refine wpAny_bind (wpAny_pure ?_)
  unfold setUsed
  refine wpAny_bind (wpAny_bind (wpAny_setState_of ho rfl rfl (wpAny_pure ?_)))
  refine wpAny_ite_false rfl ?_
  unfold Builtin.Frozenset.updateFrom
  refine wpAny_bind (wpAny_bind ?_)
  unfold Builtin.Frozenset.isAnySet
  obtain ⟨ol, hol, hcls, cap, hdat⟩ := hl
  have hol1 := Heap.get?_push_of_some (o := { cls := Value.type "set", data := Data.set #[] 0 (SetTable.fresh 0 0 !w.params.followText "set-order") }) hol
  refine wpAny_bind (wpAny_isInstance (T := "list") ⟨_, hol1, hcls⟩ F.sub_list_set ?_)
  refine wpAny_isInstance (T := "list") ⟨_, hol1, hcls⟩ F.sub_list_frozenset ?_
  refine wpAny_ite_false rfl ?_
  refine wpAny_bind (wpAny_typeOf (T := "list") ⟨_, hol1, hcls⟩ ?_)
  refine wpAny_ite_false (by decide) ?_
  refine wpAny_bind (wpAny_pyIter_list ⟨_, hol1, hcls, cap, hdat⟩ ?_)
  refine wpAny_bind (wpAny_runValue ?_)
  have hlt : l ≠ s.heap.objs.size + 1 := Nat.ne_of_lt (Nat.lt_succ_of_lt (Heap.lt_size hol))
  have hlt2 : l ≠ s.heap.objs.size := Nat.ne_of_lt (Heap.lt_size hol)
  have hI := Heap.get?_push_size (s.heap.push { cls := Value.type "set", data := Data.set #[] 0 (SetTable.fresh 0 0 !w.params.followText "set-order") }) (o := { cls := Value.type "list_iterator", data := Data.fields #[Value.ref l, Value.int 0 0] }) rfl
  have hol2 := Heap.get?_push_of_some { cls := Value.type "list_iterator", data := Data.fields #[Value.ref l, Value.int 0 0] } hol1
  have ho2 := Heap.get?_push_of_some { cls := Value.type "list_iterator", data := Data.fields #[Value.ref l, Value.int 0 0] } ho
  have hsz : (s.heap.push { cls := Value.type "set", data := Data.set #[] 0 (SetTable.fresh 0 0 !w.params.followText "set-order") }).objs.size = s.heap.objs.size + 1 := Heap.size_push _ _
  rw [hsz] at hI ⊢
  refine setQ_update (knd := knd) (Walks.toS (Walks.list (A := A.in1.in1.in1) hA (s.heap.objs.size + 1) l hlt items)) s.heap.objs.size ?_ ks hlen hb hv items.size 0 _ rfl (Nat.zero_le _) ⟨?_, ?_⟩ ⟨0, Nat.le_refl _, ?_⟩ fun s3 c3 m3 hc3 q3 => ?_
  · intro m
    simp only [List.mem_cons, List.not_mem_nil, or_false] at m
    rcases m with m | m
    · exact absurd m (Nat.ne_of_lt (Nat.lt_succ_self _))
    · exact hlt2 m.symm
  · exact ⟨_, hI, rfl, rfl⟩
  · exact ⟨_, hol2, hcls, cap, hdat⟩
  · refine ⟨_, _, _, _, ho2, ⟨rfl, rfl, rfl⟩, rfl, fun e m => ?_, ?_, fun j => ?_, ?_, rfl, rfl, ?_, ?_⟩
    · exact absurd m (by simp)
    · exact List.Pairwise.nil
    · simp
    · show 0 < scanBound
      omega
    · exact List.Pairwise.nil
    · show w.params.followText "set-order" = true ∨ (!w.params.followText "set-order") = true
      cases w.params.followText "set-order"
      · exact .inr rfl
      · exact .inl rfl
  · refine wpAny_pure (wpAny_pure (wpAny_pure ?_))
    refine wpAny_ite_false (by decide) (wpAny_pure ?_)
    have eg : s3.gens = s.gens := m3.gens
    have ed : s3.drawn = s.drawn := m3.drawn
    have eo : s3.os = s.os := m3.os
    have := h s3.heap s3.toks c3 (by omega) q3 fun b o hb => m3.heap b o (fun m => ?_) (Heap.get?_push_of_some _ (Heap.get?_push_of_some _ hb))
    · rw [← eg, ← ed, ← eo] at this
      exact this
    · have hb1 := Heap.lt_size hb
      rcases List.mem_cons.mp m with m | m
      · exact absurd m (Nat.ne_of_lt hb1)
      · exact absurd (List.mem_singleton.mp m) (Nat.ne_of_lt (Nat.lt_succ_of_lt hb1))
/-! ### sorted of a set of texts -/
def toS : Value → Str
  | .str z _ => z
  | _ => Str.empty
theorem strs_are : ∀ {vs : List Value}, (∀ v ∈ vs, ∃ z t, v = Value.str z t) → PyProof.Rows.StrsAre vs (vs.map toS)
  | [], _ => .nil
  | v :: vs, h => by
    obtain ⟨z, t, rfl⟩ := h v List.mem_cons_self
    exact .cons z t (strs_are fun u m => h u (List.mem_cons_of_mem _ m))
theorem isStrOf_of {z : Str} {v : Value} (h : Value.isStrOf z v = true) : ∃ t, v = Value.str z t := by
  cases v <;> simp [Value.isStrOf, Value.isStr] at h
  subst h
  exact ⟨_, rfl⟩
theorem sorted_setQ {A : Around} {E : Value → Shared → Prop} {s : Shared} {a : Addr} {S : Str → Bool} {n : Nat} {Q : Value → Shared → Prop} (hq : SetQ (strKind P w) s.heap a S n) (hA : A.handled = none) (hn : n < 64)
    (h : ∀ (s' : Shared) (p : Nat) (out : Array Value) (c : Nat) (ys : List Str), (∀ (b : Addr) (o : Obj), s.heap.get? b = some o → s'.heap.get? b = some o) → s'.gens = s.gens → s'.os = s.os → s.heap.objs.size ≤ p →
      s'.heap.get? p = some (PyProof.Rows.seqObj "list" out c) → PyProof.Rows.StrsAre out.toList ys → PyProof.Rows.sortedS ys = true → ys.Nodup → (∀ z, z ∈ ys ↔ S z = true) → ys.length = n → Q (Value.ref p) s') :
    wpAny (model P w) A (call (Value.builtin "sorted") [Value.ref a]) Q E s := by
  obtain ⟨o, es, ep, t, ho, hex, hd, hel, hnd, hm, hsb, hf, hsz, hr, hl⟩ := hq
  refine Calls.call_function_entry PyProof.Rows.kind_sorted PyProof.Rows.plain_sorted PyProof.Rows.entry_sorted (PyProof.Rows.args_sorted1 _) ?_
  unfold Builtin.sorted
  refine wpAny_bind ?_
  unfold checkCount
  refine wpAny_ite_false rfl ?_
  refine wpAny_ite_false rfl ?_
  refine wpAny_ite_false rfl (wpAny_pure ?_)
  refine wpAny_bind (collect_set (A := A.in1) hA ⟨o, ho, hex.1, hd⟩ hf hsb hr hl fun s1 out k1 z1 g1 o1 pm => ?_)
  have hlen : out.length = n := by
    have e := pm.length_eq
    rw [List.length_map] at e
    rw [e, ← hsz]
    exact Array.length_toList
  have ha : ∀ e ∈ es.toList, ∃ t, e.2 = Value.str (toS e.2) t := fun e m => by
    obtain ⟨⟨k, hk, _⟩, _⟩ := hel e m
    obtain ⟨t, ht⟩ := isStrOf_of hk
    rw [ht]
    exact ⟨t, rfl⟩
  have hs := strs_are (vs := out) fun v m => by
    obtain ⟨e, me, rfl⟩ := List.mem_map.mp (pm.mem_iff.mp m)
    obtain ⟨t, ht⟩ := ha e me
    exact ⟨_, t, ht⟩
  have nd : (out.map toS).Nodup := by
    have n1 : ((es.toList.map (·.2)).map toS).Nodup := by
      rw [List.map_map, List.Nodup, List.pairwise_map]
      refine (List.Pairwise.and_mem.mp hnd).imp fun {x y} ⟨mx, my, hxy⟩ e => ?_
      obtain ⟨t1, h1⟩ := ha x mx
      obtain ⟨t2, h2⟩ := ha y my
      have i1 : (strKind P w).is (toS x.2) x.2 = true := by rw [h1]; exact beq_self_eq_true _
      have i2 : (strKind P w).is (toS x.2) y.2 = true := by
        have e : toS x.2 = toS y.2 := e
        rw [e, h2]
        exact beq_self_eq_true _
      rw [hxy _ i1] at i2
      cases i2
    exact (pm.map toS).nodup_iff.mpr n1
  have mem : ∀ z, z ∈ out.map toS ↔ S z = true := fun z => by
    rw [hm]
    constructor
    · intro m
      obtain ⟨v, mv, rfl⟩ := List.mem_map.mp m
      obtain ⟨e, me, rfl⟩ := List.mem_map.mp (pm.mem_iff.mp mv)
      obtain ⟨t, ht⟩ := ha e me
      exact ⟨e, me, by rw [ht]; exact beq_self_eq_true _⟩
    · rintro ⟨e, me, hz⟩
      obtain ⟨t, ht⟩ := isStrOf_of hz
      exact List.mem_map.mpr ⟨e.2, pm.mem_iff.mpr (List.mem_map.mpr ⟨e, me, rfl⟩), by rw [ht]; rfl⟩
  refine wpAny_bind (wpAny_newList ?_ (by rw [hlen]; exact small64 hn))
  have hp := Heap.get?_push_size s1.heap (o := { cls := Value.type "list", data := Data.seq out.toArray }) rfl
  have old : ∀ (b : Addr) (o : Obj), s.heap.get? b = some o → (s1.heap.push { cls := Value.type "list", data := Data.seq out.toArray }).get? b = some o ∧ b < s1.heap.objs.size := fun b o hb => ⟨Heap.get?_push_of_some _ (k1 b o hb), Heap.lt_size (k1 b o hb)⟩
  refine wpAny_bind (wpAny_holding (wpAny_call_entry PyProof.Rows.slot_list_sort ⟨_, hp, rfl⟩ PyProof.Rows.entry_list_sort ?_ (PyProof.Rows.args_list_sort _)))
  refine PyProof.Rows.list_sort_treeK PyProof.Rows.strKind_oneLt hp (PyProof.Rows.StrsAre.keysOf hs) (fun v1 v2 rest e => ?_) (by rw [hlen]; exact hn) fun st' pm2 so => ?_
  · exact PyProof.Rows.keyKind_strs (e ▸ hs)
  · obtain ⟨ss, h1, h2, h3⟩ := PyProof.Rows.sorted_out_str hs pm2 so
    obtain ⟨c, hc⟩ := PyProof.Rows.sortedHeap_at (out := Array.map (fun x => x.2) (PyProof.Rows.arrOf st')) hp
    generalize hO : Array.map (fun x => x.2) (PyProof.Rows.arrOf st') = O at *
    have old2 : ∀ (b : Addr) (o : Obj), s.heap.get? b = some o → (PyProof.Rows.sortedHeap (s1.heap.push { cls := Value.type "list", data := Data.seq out.toArray }) s1.heap.objs.size out O).get? b = some o := fun b o hb => by
      obtain ⟨e1, e2⟩ := old b o hb
      have e3 : b < (s1.heap.push { cls := Value.type "list", data := Data.seq out.toArray }).objs.size := by
        rw [Heap.size_push]
        exact Nat.lt_succ_of_lt e2
      rw [PyProof.Rows.sortedHeap_old (Nat.ne_of_lt e2) e3]
      exact e1
    generalize PyProof.Rows.sortedHeap (s1.heap.push { cls := Value.type "list", data := Data.seq out.toArray }) s1.heap.objs.size out O = HF at *
    have key := h { heap := HF, gens := s1.gens, drawn := s1.drawn, toks := s1.toks, os := s1.os } s1.heap.objs.size _ c ss old2 g1 o1 z1 hc h1 h3 (h2.nodup_iff.mpr nd) (fun z => by rw [h2.mem_iff, mem]) (by rw [h2.length_eq, List.length_map, hlen])
    refine ⟨Value.none, rfl, ?_⟩
    exact wpAny_pure ⟨_, rfl, key⟩
theorem strs_at : ∀ {vs : List Value} {zs : List Str} {i : Nat} {v : Value}, PyProof.Rows.StrsAre vs zs → vs[i]? = some v → ∃ z t, zs[i]? = some z ∧ v = Value.str z t
  | _, _, 0, _, .cons y t _, e => by
    have e : some (Value.str y t) = some _ := e
    cases e
    exact ⟨y, t, rfl, rfl⟩
  | _, _, i + 1, _, .cons y t h, e => strs_at (i := i) h e
/-- the set that set(words) makes -/
def SetQO (P : Program) (w : World) (a : Addr) (zs : List Str) : HO := .ext fun h => ∃ c, c ≤ zs.length ∧ SetQ (strKind P w) h a (fun j => decide (j ∈ zs)) c
theorem setQO_ok {H : Hp} {h : Heap} {a : Addr} {zs : List Str} {c : Nat} (hc : c ≤ zs.length) (q : SetQ (strKind P w) h a (fun j => decide (j ∈ zs)) c) : ObjOk P w H h a (SetQO P w a zs) := by
  unfold SetQO
  rw [ObjOk.eq_13]
  exact ⟨⟨c, hc, q⟩, ⟨q.choose, q.choose_spec.choose_spec.choose_spec.choose_spec.1⟩, fun h1 h2 ⟨c, hc, q⟩ k => ⟨c, hc, q.at k⟩⟩
def rSetOfS (K : W.Frag) (P : Program) (w : World) : List V → Hp → VK → Prop := fun xs H Q => ∃ (l : Addr) (zs : List Str), xs = [V.ref l] ∧ SqL K H l (zs.map V.str) ∧ zs.length < 1000 ∧ ∀ a, H a = none → Q (.ref a) (upd H a (SetQO P w a zs))
theorem cr_setOfS {X : Cx} (hc : X.calm = true) : CallR X (Value.type "set") (rSetOfS X.K X.prog X.w) := by
  intro pins s σ H xs us Q I rx hr
  obtain ⟨l, zs, rfl, hl, hlen, k⟩ := hr
  cases Vals.ref1 rx
  obtain ⟨its, hv, ⟨o, n, ho, hcl, hdi, hda⟩, _⟩ := I.list hl
  have hs := Vals.strs hv
  have e : its.length = zs.length := by
    have := Vals.length hv
    rw [List.length_map] at this
    exact this.symm
  refine call_setQ (knd := strKind X.prog X.w) (items := its.toArray) zs (I.ok.hd hc) ⟨o, ho, hcl, n, hda⟩ (by rw [List.size_toArray]; exact e) ?_ (fun i v hi => ?_) fun h' tk c hc' q old => ?_
  · have : (1000 : Nat) < scanBound := by decide
    omega
  · rw [List.getElem?_toArray] at hi
    obtain ⟨z, t, hz, rfl⟩ := strs_at hs hi
    exact ⟨z, hz, beq_self_eq_true _, rfl⟩
  · exact ⟨.ref s.heap.objs.size, _, I.laid old (Nat.le_refl _) (setQO_ok hc' q), rfl, k _ (HOk.fresh I.hok (Nat.le_refl _))⟩
def rSortedQ (P : Program) (w : World) : List V → Hp → VK → Prop := fun vs H Q => ∃ (a : Addr) (zs : List Str), vs = [V.ref a] ∧ H a = some (SetQO P w a zs) ∧ zs.length < 64 ∧
  ∀ (ys : List Str) (p : Addr), PyProof.Rows.sortedS ys = true → ys.Nodup → (∀ z, z ∈ ys ↔ z ∈ zs) → H p = none → Q (.ref p) (upd H p (.lst (ys.map V.str)))
theorem cr_sortedQ {X : Cx} (hc : X.calm = true) : CallR X (Value.builtin "sorted") (rSortedQ X.prog X.w) := by
  intro pins s σ H xs us Q I rx hr
  obtain ⟨a, zs, rfl, ha, hlen, k⟩ := hr
  cases Vals.ref1 rx
  have q := I.hok a _ ha
  unfold SetQO at q
  rw [ObjOk.eq_13] at q
  obtain ⟨c, hc', q⟩ := q.1
  refine sorted_setQ q (I.ok.hd hc) (by omega) fun s' p out e ys old hg hos hle hp hs so nd mem len => ?_
  have hn := HOk.fresh I.hok hle
  refine ⟨.ref p, _, ?_, rfl, k ys p so nd (fun z => by rw [mem, decide_eq_true_iff]) hn⟩
  obtain ⟨h', g', d', t', o'⟩ := s'
  cases hos
  have hg : g' = s.gens := hg
  refine I.call (ch := []) (Un.laid old hle hn) (HOk.laid I.hok old hle ?_) (hg ▸ I.bare) (fun b m => nomatch m)
  rw [ObjOk.eq_1]
  refine ⟨?_, out.toList, e, vals_of_strs hs, by rw [Array.toArray_toList]; exact hp⟩
  rw [List.length_map, len]
  exact small64 (by omega)
end
end Lo

set_option Elab.async false
set_option linter.all false
set_option maxRecDepth 100000
set_option maxHeartbeats 4000000
namespace Lo
open PySem PySem.Spec PyProof.Rows L2
/-! ### errors with fields, caught -/
/-- isinstance(e, c), e the error that the suite holds, of the class at D, with a dict or without -/
def rIsD (K : PySem.W.Frag) (D a : Addr) (cls : Value) (d : Option Addr) : List V → Hp → VK → Prop := fun xs H Q => ∃ (c : V) (cv : Value) (b : Bool), xs = [.ref a, c] ∧ cls = .ref D ∧ (∀ x, d = some x → ∃ fs, H x = some (.xd fs)) ∧ (∀ u, RelV c u → u = cv) ∧ PySem.W.kitOne K (.ref D) cv = some b ∧ Q (.bl b) H
theorem call_isD {X : Cx} {a D : Addr} {oe : Obj} {cls : Value} {d : Option Addr} {pn : List (Addr × Obj)} (C : ExcC X.K D) (hz : Zc cls d oe) (hf : ∃ vs, oe.data = .fields vs) : CallR (X.suite a ((a, oe) :: pn)) (.builtin "isinstance") (rIsD X.K D a cls d) := by
  intro pins s σ H xs us Q I r h
  obtain ⟨c, cv, b, rfl, hcl, hd, hcv, e, q⟩ := h
  subst hcl
  match us, r with
  | _, .cons rx (.cons rt .nil) =>
    obtain rfl := hcv _ rt
    cases rx
    have hp := (I.pin (a, oe) (List.mem_append.mpr (.inl List.mem_cons_self))).1
    obtain ⟨vs, hv⟩ := hf
    obtain ⟨od, J⟩ : ∃ od, PySem.W.InstAt s.heap a oe D od := by
      cases d with
      | none => exact ⟨none, hp, hz.1, by unfold PySem.W.notCls; rw [hv] <;> rfl, by rw [hz.2]; exact True.intro⟩
      | some x =>
        obtain ⟨fs, ex⟩ := hd x rfl
        obtain ⟨mA, hns, _⟩ := (show ObjOk X.prog X.w H s.heap x (.xd fs) from I.hok x _ ex)
        obtain ⟨o, ho, _⟩ := lookIn_ns hns
        exact ⟨some o, hp, hz.1, by unfold PySem.W.notCls; rw [hv] <;> rfl, by rw [hz.2]; exact ho⟩
    obtain ⟨cd, hcd, _⟩ := PySem.W.any_some C.hd
    exact PySem.W.kia_one (PySem.W.kitx_exc (by rw [hcd]; rfl) C.hg C.hk C.hs C.ha C.hn C.ht C.hm) I.kIn J e (fun z => nomatch z) fun tk => ⟨.bl b, H, I.kept (t' := tk) fun _ _ z => z, rfl, q⟩
theorem list_1 {α : Type} {us : List α} {a : Str} (h : us.length = [a].length) : ∃ x, us = [x] := match us, h with | [x], _ => ⟨x, rfl⟩
theorem list_2 {α : Type} {us : List α} {a b : Str} (h : us.length = [a, b].length) : ∃ x y, us = [x, y] := match us, h with | [x, y], _ => ⟨x, y, rfl⟩
theorem list_3 {α : Type} {us : List α} {a b c : Str} (h : us.length = [a, b, c].length) : ∃ x y z, us = [x, y, z] := match us, h with | [x, y, z], _ => ⟨x, y, z, rfl⟩
/-! ### C(e, .., k = v, ..) -/
structure OwnK (P : Program) (w : World) (K : PySem.W.Frag) (mg : Str → Option Value) (base : Heap) (k : Nat) (x : Str) (C : Addr) (ps : List Str) (n : Nat) (ks : List Str) (gV : List V → List V → List V) (sp : Sp) : Prop where
  ex : ∃ f fd g, FnOk P w K mg base (L2N.CX P w) k f fd ps sp ∧ Mk K C f ∧ mg x = some (.ref C) ∧ KBn K fd ps (n + 1) ks g gV
def tOwnK (C : Addr) (n m : Nat) (sp : Sp) (gV : List V → List V → List V) (E : L2.St → XK) (t tk : TA) : TE := fun σ H Q => t σ H fun vs H1 => tk σ H1 fun zs H2 => vs.length = n ∧ zs.length = m ∧ ∀ x dx, H2 x = none → H2 dx = none → dx ≠ x →
  sp (gV (.ref x :: vs) zs) (upd (upd H2 dx (.own x)) x (.ins C dx [])) (fun v H3 => v = .non ∧ Q (.ref x) H3) (E σ)
theorem pe_ownk {X : Cx} {k n : Nat} {C : Addr} {ps ks : List Str} {sp : Sp} {E : L2.St → XK} {x : Str} {p pos : Pos} {e : Expr} {es : List Expr} {kws : List Keyword} {t tk : TA} {gV : List V → List V → List V} (O : OwnK X.prog X.w X.K X.mg X.base k x C ps n ks gV sp) (hr : Room (k + 1) X.A) (hg : Gl X x)
    (hx : ∀ σ, PassesAt (L2N.CX X.prog X.w) X σ (E σ)) (ha : PA X (e :: es) t) (hkw : PK X kws tk)
    (hall : (backToKw pos (keywordEach kws X.env)).all (·.1.isSome) = true := by rfl) (hks : (backToKw pos (keywordEach kws X.env)).filterMap (·.1) = ks := by rfl) (hdb : (x == ("__debug__" : Str)) = false := by decide)
    (he : starEach (e :: es) X.env = (false, eval e X.env) :: starEach es X.env := by rfl) (hpl : ((backTo pos (starEach (e :: es) X.env)).any (·.1) || (backToKw pos (keywordEach kws X.env)).any (·.1.isNone)) = false := by rfl) :
    PE X (.Call (.Name x p) (e :: es) kws pos) (tOwnK C n ks.length sp gV E t tk) := by
  obtain ⟨f, fd, g, F, M, hm, hb⟩ := O.ex
  constructor
  intro pins s σ H Q I h
  apply wpAny_Call_Name_kw (ld_glob I hg hm ?_ hdb)
  apply PySem.W.callWith_KW (h₀ := X.base) I.ok.mod.kin M.kp hall ?_ hpl he
  apply thn (ha.run pos pins s σ H _ I h)
  rintro us s1 ⟨vs, H1, I1, r, q⟩
  apply thn (hkw.run pos pins s1 σ H1 _ I1 q)
  rintro ws s2 ⟨zs, H2, I2, rz, l1, l2, q2⟩
  refine ⟨I2.kIn, ?_⟩
  rw [hks]
  have hq := q2 (s2.heap.objs.size + 1) s2.heap.objs.size (I2.hok.fresh (Nat.le_succ _)) (I2.hok.fresh (Nat.le_refl _)) (Nat.ne_of_lt (Nat.lt_succ_self _))
  have I3 := Inv.made (C := C) I2
  have r1 : Vals (V.ref (s2.heap.objs.size + 1) :: vs) (Value.ref (s2.heap.objs.size + 1) :: us) := .cons rfl r
  have n1 : (Value.ref (s2.heap.objs.size + 1) :: us).length = n + 1 := by rw [List.length_cons, ← r.length, l1]
  have run := F.run _ X.stack _ _ ⟨Value.ref (s2.heap.objs.size + 1) :: us, ks.zip ws⟩ _ _ _ (E σ) (hr.make C us (ks.zip ws)) (I3.env0.make C us (ks.zip ws)) (hb.to _ (Value.ref (s2.heap.objs.size + 1) :: us) ws I3.kIn n1 (rz.length.symm.trans l2)) (hb.rel r1 rz) hq
  refine wpAny_call (make_map (f := f) I2.kIn M.makes M.init (beq_iff_eq.mp M.fn) (codeAny_mono run ?_))
  rintro (e | fl) s' hq'
  · exact hx σ pins _ _ e s' I3 hq'
  · cases fl with
    | ret u =>
      obtain ⟨v, H', I4, rv, ev, q3⟩ := I3.after hq'
      subst ev
      exact ⟨rv, ⟨V.ref (s2.heap.objs.size + 1), H', I4, rfl, q3⟩⟩
    | next => exact hq'.elim
    | brk => exact hq'.elim
    | cont => exact hq'.elim
theorem vals_rev {vs : List V} {us : List Value} (h : Vals vs us) : Vals vs.reverse us.reverse := by
  induction h with
  | nil => exact .nil
  | cons r _ ih =>
    rw [List.reverse_cons, List.reverse_cons]
    exact ih.append (.cons r .nil)
theorem hq_nil {F : Str × V → Prop} : ∀ q ∈ ([] : List (Str × V)), F q := fun _ h => by cases h
theorem hq_cons {F : Str × V → Prop} {p : Str × V} {l : List (Str × V)} (h : F p) (k : ∀ q ∈ l, F q) : ∀ q ∈ p :: l, F q := fun q m => by
  rcases List.mem_cons.mp m with rfl | m
  · exact h
  · exact k q m
end Lo
namespace Lo
open PySem PySem.Spec PyProof.Rows L2
theorem iteBT {b : Bool} {A B : Prop} (h : b = true) (k : A) : if b = true then A else B := by rw [if_pos h]; exact k
theorem iteBF {b : Bool} {A B : Prop} (h : b = false) (k : B) : if b = true then A else B := by rw [if_neg (by rw [h]; decide)]; exact k
/-- a whole number from l to 1000000 -/
def wholeB (v : V) (l : Int) : Bool := match v with
  | .int i => decide (l ≤ i) && decide (i ≤ 1000000)
  | _ => false
/-! ### flat values compared -/
def dat : V → PyData
  | .non => .none | .bl b => .bool b | .int i => .int i | .str z => .str z
  | _ => .none
/-- None, a bool, an int, a text of sound signs -/
def fdB : V → Bool
  | .non => true | .bl _ => true | .int _ => true | .str z => PyData.strOk z
  | _ => false
theorem fd_flat {v : V} (h : fdB v = true) : flatV v = true := by
  cases v <;> first | rfl | cases h
theorem fd_all {K : PySem.W.Frag} {H : Hp} : ∀ {vs : List V}, vs.all fdB = true → DpAll K H vs (vs.map dat) ∧ PyData.canLayAll0 (vs.map dat) = true ∧ PyData.depthAll (vs.map dat) = 0
  | [], _ => ⟨.nil, rfl, rfl⟩
  | v :: vs, h => by
    obtain ⟨h1, h2⟩ := Bool.and_eq_true_iff.mp (show (fdB v && vs.all fdB) = true from h)
    obtain ⟨a, b, c⟩ := fd_all (K := K) (H := H) h2
    have one : Dp K H v (dat v) ∧ (dat v).canLay0 = true ∧ (dat v).depth = 0 := by
      cases v with
      | non => exact ⟨.non, rfl, rfl⟩
      | bl b => exact ⟨.bl b, rfl, rfl⟩
      | int i => exact ⟨.int i, rfl, rfl⟩
      | str z => exact ⟨.str z, h1, rfl⟩
      | _ => cases h1
    refine ⟨.cons one.1 a, ?_, ?_⟩
    · show ((dat v).canLay0 && PyData.canLayAll0 (vs.map dat)) = true
      rw [one.2.1, b]
      rfl
    · show max (dat v).depth (PyData.depthAll (vs.map dat)) = 0
      rw [one.2.2, c]
      rfl
theorem fd_tup {vs : List V} {K : PySem.W.Frag} {H : Hp} (h : vs.all fdB = true) : (PyData.tuple (vs.map dat)).canLay0 = true ∧ SeqAt.shaped (PyData.tuple (vs.map dat)) = true := by
  obtain ⟨_, b, c⟩ := fd_all (K := K) (H := H) h
  refine ⟨b, ?_⟩
  unfold SeqAt.shaped
  rw [show (PyData.tuple (vs.map dat)).canLay0 = true from b, Bool.true_and]
  refine decide_eq_true ?_
  show PyData.depthAll (vs.map dat) + 1 ≤ 64
  rw [c]
  decide
/-- t != u, tuples of the same flat values -/
theorem neTF {K : PySem.W.Frag} {H : Hp} {p q : Addr} {vs : List V} {Q : VK} (hp : H p = some (.tup vs)) (hq : H q = some (.tup vs)) (h : vs.all fdB = true) (k : Q (.bl false) H) : rNeD K (.ref p) (.ref q) H Q := by
  obtain ⟨c, s⟩ := fd_tup (K := K) (H := H) h
  have d := (fd_all (K := K) (H := H) h).1
  refine ⟨_, _, .tup (SqT.of hp) d, .tup (SqT.of hq) d, s, s, ?_⟩
  rw [SeqAt.eqv_refl _ c]
  exact k
theorem eqTF {K : PySem.W.Frag} {H : Hp} {p q : Addr} {vs : List V} {Q : VK} (hp : H p = some (.tup vs)) (hq : H q = some (.tup vs)) (h : vs.all fdB = true) (k : Q (.bl true) H) : rEqD K (.ref p) (.ref q) H Q := by
  obtain ⟨c, s⟩ := fd_tup (K := K) (H := H) h
  have d := (fd_all (K := K) (H := H) h).1
  refine ⟨_, _, .tup (SqT.of hp) d, .tup (SqT.of hq) d, s, s, ?_⟩
  rw [SeqAt.eqv_refl _ c]
  exact k
/-- one of a list at a place that was drawn -/
theorem at_mem {xs : List V} {d : Int} (h0 : 0 ≤ d) (h1 : d < (xs.length : Nat)) : ∃ v, atI xs d = some v ∧ v ∈ xs := by
  obtain ⟨D, rfl⟩ := Int.eq_ofNat_of_zero_le h0
  have hD : D < xs.length := by omega
  exact ⟨xs[D], atI_nat (by simp [hD]), List.getElem_mem hD⟩
end Lo

set_option Elab.async false
set_option linter.all false
set_option maxRecDepth 100000
set_option maxHeartbeats 4000000
namespace Lo
open PySem PySem.Spec PyProof.Rows L2
/-! ### own errors as values -/
def tExV (C : Addr) (fs : List Str) (ta : TA) : TE := fun σ H Q => ta σ H fun us H1 => us.length = fs.length ∧ fs.length ≤ 100 ∧
  ∀ (a d : Addr) (H2 : Hp), H1 a = none → H1 d = none → d ≠ a → Same H1 H2 → H2 a = some (exo a C (some d)) → H2 d = some (exd d (fs.zip us).reverse) → Q (.ref a) H2
theorem pe_exv {X : Cx} {x : Str} {C : Addr} {fs : List Str} {e : Expr} {es : List Expr} {ta : TA} {p pos : Pos} (O : OwnE X.prog X.w X.K X.mg X.base x C fs) (hr : Room 2 X.A) (hg : Gl X x) (ha : PA X (e :: es) ta)
    (hdb : (x == ("__debug__" : Str)) = false := by decide) (he : starEach (e :: es) X.env = (false, eval e X.env) :: starEach es X.env := by rfl) (hpl : (backTo pos (starEach es X.env)).any (·.1) = false := by rfl) :
    PE X (.Call (.Name x p) (e :: es) [] pos) (tExV C fs ta) := by
  obtain ⟨f, fd, ps, G, hi, ht, hm, hb⟩ := O.ex
  obtain ⟨nm, q, N, bs, bm, sn, sub, ab, col, dd, k0, k1, k2, k3, k5, hC, hbm⟩ := O.cl.cls
  constructor
  intro pins s σ H Q I h
  apply wpAny_Call_Name_kw (ld_glob I hg hm ?_ hdb)
  apply PySem.W.callWith_K (h₀ := X.base) I.ok.mod.kin O.cl.kC ?_ he hpl
  apply thn (ha.run pos pins s σ H _ I h)
  rintro us ⟨hp, g, dr, tk, os⟩ ⟨vs, H1, I1, r1, hl, h100, q1⟩
  refine ⟨I1.kIn, ?_⟩
  have sz : hp.objs.size ≤ hp.objs.size + 1 := Nat.le_succ _
  have hn : H1 (hp.objs.size + 1) = none := I1.hok.fresh sz
  have old : ∀ b o, hp.get? b = some o → ((hp.push (PySem.W.kdv_tup us)).push (PySem.HandSPX.excO C hp.objs.size)).get? b = some o := fun b o e =>
    Heap.get?_push_of_some _ (Heap.get?_push_of_some _ e)
  have new : ((hp.push (PySem.W.kdv_tup us)).push (PySem.HandSPX.excO C hp.objs.size)).get? (hp.objs.size + 1) =
      some (PySem.HandSPX.excO C hp.objs.size) := by heap_get
  have I2 := I1.laid (t' := tk) old sz (exo_ok (P := X.prog) (w := X.w) (H := upd H1 (hp.objs.size + 1) (exo (hp.objs.size + 1) C none)) new)
  have hsp : spErr C fs (.ref (hp.objs.size + 1) :: (vs ++ [])) (upd H1 (hp.objs.size + 1) (exo (hp.objs.size + 1) C none)) (fun v H2 => v = .non ∧ Q (.ref (hp.objs.size + 1)) H2) (fun _ _ _ => False) :=
    ⟨_, vs, by rw [List.append_nil], hl, upd_same, fun dx H2 nd ne ea ed sm => ⟨rfl, q1 _ dx H2 hn (by rw [upd_ne ne] at nd; exact nd) ne
      (fun b o e => sm b o (by rw [upd_ne (ne_of_none e hn)]; exact e) (ne_of_none e hn)) ea ed⟩⟩
  have r2 : Vals (V.ref (hp.objs.size + 1) :: (vs ++ [])) (Value.ref (hp.objs.size + 1) :: (us ++ [])) := .cons rfl (r1.append .nil)
  have lps : (Value.ref (hp.objs.size + 1) :: us ++ []).length = ps.length := by
    have e := r2.length
    rw [G.len _ _ _ _ hsp] at e
    exact e.symm
  have lus : us.length ≤ sizeLine := by rw [← Paired.length r1, sizeLine_eq]; omega
  have run := G.run _ X.stack _ _ ⟨Value.ref (hp.objs.size + 1) :: us, []⟩ _ _ _ (fun _ _ _ => False) (hr.make C us []) (I2.env0.make C us []) (hb _ (Value.ref (hp.objs.size + 1) :: us) I2.kIn lps) r2 hsp
  refine wpAny_call (PySem.HandSPX.call_own F.excBase_ValueError (fun Y => PySem.HandSPX.refsVE_contains Y bm hbm) (I1.kIn _ _ hC) (PySem.W.looks_findIn I1.kIn hi) (fun self => PySem.W.bind_fn I1.kIn self ht) lus (codeAny_mono run ?_))
  rintro (er | fl) s' hq'
  · exact pas0 σ pins _ _ er s' I2 hq'
  · cases fl with
    | ret u =>
      obtain ⟨v, H', I3, rv, ev, q3⟩ := I2.after hq'
      subst ev
      exact ⟨rv, ⟨.ref (hp.objs.size + 1), H', I3, rfl, q3⟩⟩
    | next => exact hq'.elim
    | brk => exact hq'.elim
    | cont => exact hq'.elim
/-- C(), C without own __init__ -/
def tExV0 (C : Addr) : TE := fun _ H Q => ∀ a : Addr, H a = none → Q (.ref a) (upd H a (exo a C none))
theorem pe_exv0 {X : Cx} {C : Addr} {bmB : List Value} {B newId initId : String} {x : Str} {p pos : Pos} (F : ExcBaseFacts B newId initId bmB) (q : PySem.W.excIn X.K C bmB newId = true) (gC : X.mg x = some (.ref C))
    (kC : PySem.W.keepIn X.K (.ref C) = true) (hg : Gl X x) (hdb : (x == ("__debug__" : Str)) = false := by decide) : PE X (.Call (.Name x p) [] [] pos) (tExV0 C) := by
  constructor
  intro pins s σ H Q I h
  apply wpAny_Call_Name_kw (ld_glob I hg gC ?_ hdb)
  apply PySem.W.callWith_K0 I.kIn kC
  obtain ⟨bm, N, nm, qn, bs, hdct, sn, sub, ab, col, dd, k0, k1, k2, k3, k5, mN, hC, hN, hni, T⟩ := exc_obj I.kIn q
  refine wpAny_call_exc_subT F T hC hN hni (fun h' e hm => ?_) (Nat.zero_le _)
  obtain ⟨t, he, _, _⟩ := hm.there
  have hn := I.hok.gone hm.new
  exact ⟨.ref e, _, I.laidN (t' := s.toks) hm.keeps hm.new hn (exo_ok he), rfl, h e hn⟩
/-- x.f, x an own error -/
def tExF (K : PySem.W.Frag) (f : Str) (te : TE) : TE := fun σ H Q => te σ H fun x H1 => ∃ (a C d : Addr) (fs : List (Str × V)) (v : V), x = .ref a ∧ XfC K C ∧ PySem.W.findIn K (.ref C) f = some none ∧ H1 a = some (exo a C (some d)) ∧ H1 d = some (exd d fs) ∧ fs.lookup f = some v ∧ Q v H1
theorem pe_exf {X : Cx} {K : PySem.W.Frag} {e : Expr} {te : TE} {pos : Pos} {f : Str} (he : PE X e te) (hK : X.K = K) (hb : attributeBase e f X.env (eval e X.env) = eval e X.env := by rfl) : PE X (.Attribute e f pos) (tExF K f te) := by
  subst hK
  constructor
  intro pins s σ H Q I h
  apply attr_of hb
  apply thn (he.run pins s σ H _ I h)
  rintro u s1 ⟨x, H1, I1, rx, a, C, d, fs, v, ex, T, hno, ea, ed, l, q⟩
  subst ex
  obtain rfl : u = Value.ref a := rx
  obtain ⟨t1, ho⟩ := exo_at I1.hok ea
  obtain ⟨mA, hns, hr⟩ := exd_at I1.hok ed
  obtain ⟨od, hod, hl⟩ := lookIn_ns hns
  obtain ⟨u, hu, ru⟩ := RelO.some_of (v := v) (o := mA f) (by rw [← l]; exact hr f)
  exact HandSPX.exc_get I1.kIn ⟨ho, rfl, rfl, hod⟩ T.ga T.gg T.exC (PySem.W.findObj_own T.hdC hno rfl (by rw [hl, hu])) (handed_of ru) ⟨v, H1, I1.tok _, ru, q⟩
/-- isinstance(x, c), x an own error -/
def rIsX (K : PySem.W.Frag) : List V → Hp → VK → Prop := fun xs H Q => ∃ (a C : Addr) (od : Option Addr) (c : V) (cv : Value) (b : Bool), xs = [.ref a, c] ∧ H a = some (exo a C od) ∧ (∀ d, od = some d → ∃ fs, H d = some (exd d fs)) ∧ ExcC K C ∧
  (∀ u, RelV c u → u = cv) ∧ PySem.W.kitOne K (.ref C) cv = some b ∧ Q (.bl b) H
theorem call_isX {X : Cx} : CallR X (.builtin "isinstance") (rIsX X.K) := by
  intro pins s σ H xs us Q I r h
  obtain ⟨a, C, od, c, cv, b, rfl, ea, hd, T, hcv, e, q⟩ := h
  match us, r with
  | _, .cons rx (.cons rt .nil) =>
    obtain rfl := hcv _ rt
    cases rx
    obtain ⟨t1, ho⟩ := exo_at I.hok ea
    obtain ⟨oo, J⟩ : ∃ oo, PySem.W.InstAt s.heap a { cls := .ref C, dict := od, data := .fields #[.ref t1, .none, .none, .none, .bool false, .none] } C oo := by
      cases od with
      | none => exact ⟨none, ho, rfl, rfl, True.intro⟩
      | some x =>
        obtain ⟨fs, ed⟩ := hd x rfl
        obtain ⟨mA, hns, _⟩ := exd_at I.hok ed
        obtain ⟨o, h1, _⟩ := lookIn_ns hns
        exact ⟨some o, ho, rfl, rfl, h1⟩
    obtain ⟨cd, hcd, _⟩ := PySem.W.any_some T.hd
    exact PySem.W.kia_one (PySem.W.kitx_exc (by rw [hcd]; rfl) T.hg T.hk T.hs T.ha T.hn T.ht T.hm) I.kIn J e (fun z => nomatch z) fun tk => ⟨.bl b, H, I.kept (t' := tk) fun _ _ z => z, rfl, q⟩
/-! ### sum of a list of bools -/
section
variable {P : Program} {w : World} {A : Around} {R : Result → Shared → Prop} {I : Addr} {fp wr : List Addr} {n : Nat} {Pv : Nat → Value → Prop} {St : Nat → Heap → Prop}
theorem sumB_loop (W : Walks P w A.in1 I fp wr n Pv St) (bv : Nat → Bool) (hv : ∀ i v, Pv i v → v = .bool (bv i)) (S : Addr) (hS : S ∉ fp) :
    ∀ (k i : Nat) (s : Shared) (tA : Tok) (c : Nat) (z : Int), (z = 0 ∨ z = 2) → n - i = k → i ≤ n → St i s.heap → s.heap.get? S = some { cls := .type "list", dict := none, data := .seq #[.int (preSum (fun j => if bv j = true then 1 else 0) i) tA] c, slots := #[] } →
    (∀ h' tk t', (∀ b o, b ∉ wr → b ≠ S → s.heap.get? b = some o → h'.get? b = some o) → R (.ok (.ret (.int (preSum (fun j => if bv j = true then 1 else 0) n) t'))) { s with heap := h', toks := tk }) →
    codeAny (model P w) A (.builtin "sum.loop" ⟨[.ref I, .ref S, rawInt z, rawInt 0], []⟩) R s := by
  have nS : S ∉ wr := fun h => hS (W.sub _ h)
  intro k
  induction k with
  | zero =>
    intro i s tA c z hz hk hi hst e hR
    obtain rfl : i = n := by omega
    apply codeAny_builtin F.entry_sum_loop
    rw [Around.under_plainId F.plain_sum_loop _]
    show wpAny _ A.in1 (seqItems? (.ref S) >>= _) _ _ s
    apply wpAny_bind
    apply wpAny_seqItems e rfl
    show wpAny _ A.in1 (tryCatch (pyNext (.ref I)) _ >>= _) _ _ s
    apply wpAny_bind
    apply wpAny_tryCatch
    refine W.done s _ _ hst fun h' tk hk' => ?_
    exact wpAny_pure (hR h' tk tA fun b o hb _ e => hk' b o hb e)
  | succ k ih =>
    intro i s tA c z hz hk hi hst e hR
    have lt : i < n := by omega
    apply codeAny_builtin F.entry_sum_loop
    rw [Around.under_plainId F.plain_sum_loop _]
    show wpAny _ A.in1 (seqItems? (.ref S) >>= _) _ _ s
    apply wpAny_bind
    apply wpAny_seqItems e rfl
    show wpAny _ A.in1 (tryCatch (pyNext (.ref I)) _ >>= _) _ _ s
    apply wpAny_bind
    apply wpAny_tryCatch
    refine W.item i s _ _ lt hst fun v h' tk hP hst' hk' => ?_
    obtain rfl := hv i v hP
    have e' := hk' S _ nS e
    have off : ∀ {b : Addr}, b ∈ fp → S ≠ b := fun hb q => hS (q ▸ hb)
    obtain ⟨y, hy⟩ : ∃ y : Int, (if bv i = true then (1 : Int) else 0) = y := ⟨_, rfl⟩
    obtain ⟨T, hT⟩ : ∃ T : Int, preSum (fun j => if bv j = true then 1 else 0) i = T := ⟨_, rfl⟩
    have e3 : preSum (fun j => if bv j = true then 1 else 0) (i + 1) = T + y := by
      show preSum (fun j => if bv j = true then 1 else 0) i + (if bv i = true then (1 : Int) else 0) = _
      rw [hy, hT]
    rw [hT] at e'
    have fin : ∀ (h2 : Heap) (z : Int) (tk2 tA2 : Tok) (c2 : Nat), (z = 0 ∨ z = 2) → (∀ b, b ≠ S → h2.get? b = h'.get? b) → h2.get? S = some { cls := .type "list", dict := none, data := .seq #[.int (T + y) tA2] c2, slots := #[] } →
        codeAny (model P w) A (.builtin "sum.loop" ⟨[.ref I, .ref S, rawInt z, rawInt 0], []⟩) R { s with heap := h2, toks := tk2 } := fun h2 z tk2 tA2 c2 hz k2 e2 =>
      ih (i + 1) _ tA2 c2 z hz (by omega) lt (W.frame _ _ _ hst' fun b hb o q => (k2 b (Ne.symm (off hb))).trans q) (by rw [e3]; exact e2) fun h3 tk3 t3 k3 => hR h3 tk3 t3 fun b o hb hs q => k3 b o hb hs ((k2 b hs).trans (hk' b o hb q))
    have slow : ∀ tk2 : Nat, wpAny (model P w) A.in1 (do
        updateSeq S fun _ => #[.int (T + y) tk2]
        letGo [Value.int T tA, Value.bool (bv i)]
        updateSeq S fun _ => #[.int (T + y) tk2]
        again (Code.builtin "sum.loop" ⟨[.ref I, .ref S, rawInt 2, rawInt 0], []⟩)) (fun x s' => match x with
          | .done f => R (.ok f) s'
          | .again c' => c'.quiet = true ∧ codeAny (model P w) A c' R s') (fun e s' => R (.error e) s') { s with heap := h', toks := tk + 1 } := fun tk2 => by
      apply wpAny_bind
      apply wpAny_updateSeq e' rfl
      have e2 := Heap.get?_update_self (Obj.mapSeq fun _ => #[Value.int (T + y) tk2]) e' rfl
      apply wpAny_bind
      apply wpAny_letGo
      apply wpAny_bind
      exact wpAny_updateSeq e2 rfl (wpAny_pure ⟨plainId_quiet F.plain_sum_loop _, fin _ 2 _ tk2 _ (.inr rfl) (fun b hb => (Heap.get?_update_other _ _ (Ne.symm hb)).trans (Heap.get?_update_other _ _ (Ne.symm hb))) (Heap.get?_update_self _ e2 rfl)⟩)
    rcases hz with rfl | rfl
    · show wpAny _ A.in1 (if (_ : Bool) = true then (mkInt (preSum (fun j => if bv j = true then 1 else 0) i + (if bv i = true then 1 else 0)) >>= _) else _) _ _ _
      rw [hy, hT]
      split
      · apply wpAny_bind
        apply wpAny_mkInt
        show wpAny _ A.in1 (updateSeq S (fun _ => #[.int (T + y) tk]) >>= _) _ _ _
        apply wpAny_bind
        exact wpAny_updateSeq e' rfl (wpAny_pure ⟨plainId_quiet F.plain_sum_loop _, fin _ 0 _ tk _ (.inl rfl) (fun b hb => Heap.get?_update_other _ _ (Ne.symm hb)) (Heap.get?_update_self _ e' rfl)⟩)
      · apply wpAny_bind
        apply wpAny_rule
        apply wpAny_bind
        refine wpAny_attempt (wpAny_holding (add_int_bool ?_))
        rw [hy]
        exact slow tk
    · show wpAny _ A.in1 ((holding [Value.bool (bv i)] (binaryOp .Add (.int (preSum (fun j => if bv j = true then 1 else 0) i) tA) (.bool (bv i)))).attempt >>= _) _ _ _
      rw [hT]
      apply wpAny_bind
      refine wpAny_attempt (wpAny_holding (add_int_bool ?_))
      rw [hy]
      exact slow tk
variable {E : Value → Shared → Prop} {s : Shared}
theorem sumB_raw {l : Addr} {bs : List Bool} {Q : Value → Shared → Prop} (hh : A.handled = none) (hl : s.heap.IsList l (bs.map Value.bool).toArray)
    (h : ∀ h' tk t', (∀ b o, s.heap.get? b = some o → h'.get? b = some o) → Q (.int (preSum (fun j => if bs.getD j false = true then 1 else 0) bs.length) t') { s with heap := h', toks := tk }) : wpAny (model P w) A (call (.builtin "sum") [.ref l]) Q E s := by
  have hlt : l < s.heap.objs.size := by obtain ⟨_, e, _⟩ := hl; exact Heap.lt_size e
  apply call_function_tree F.kind_sum F.plain_sum F.entry_sum (F.args_sum1 _)
  unfold Builtin.«sum»
  simp only [List.length_cons, List.length_nil]
  rw [if_neg (by decide)]
  apply wpAny_bind
  refine wpAny_of_eq (show Builtin.Builtins.bindParams "sum" ["start"] 0 { } = pure [none] from rfl) ?_
  apply wpAny_bind
  apply wpAny_pyIter_list hl
  have hn : l ≠ s.heap.objs.size := Nat.ne_of_lt hlt
  apply wpAny_bind
  apply wpAny_mkInt
  apply wpAny_bind
  apply wpAny_pure
  simp only [List.forIn_cons, List.forIn_nil]
  refine wpAny_bind (wpAny_bind (wpAny_bind (wpAny_isInstance (T := "int") (b := false) (typeIs_int _ _ _) PySem.sub_int_str ?_)))
  rw [if_neg Bool.false_ne_true]
  refine wpAny_pure (wpAny_bind (wpAny_bind (wpAny_isInstance (T := "int") (b := false) (typeIs_int _ _ _) PySem.sub_int_bytes ?_)))
  rw [if_neg Bool.false_ne_true]
  refine wpAny_pure (wpAny_bind (wpAny_bind (wpAny_isInstance (T := "int") (b := false) (typeIs_int _ _ _) PySem.sub_int_bytearray ?_)))
  rw [if_neg Bool.false_ne_true]
  apply wpAny_pure
  apply wpAny_pure
  refine wpAny_bind (wpAny_newObj_type ?_)
  have W := Walks.list (prog := P) (w := w) (A := A.in1) hh s.heap.objs.size l hn (bs.map Value.bool).toArray
  have hv : ∀ (i : Nat) (v : Value), (bs.map Value.bool).toArray[i]? = some v → v = .bool (bs.getD i false) := fun i v e => by
    rw [List.getElem?_toArray, List.getElem?_map] at e
    cases q : bs[i]? with
    | none => rw [q] at e; cases e
    | some b =>
      rw [q] at e
      cases e
      rw [List.getD_eq_getElem?_getD, q]
      rfl
  have size1 : ∀ o, (s.heap.push o).objs.size = s.heap.objs.size + 1 := fun o => Heap.size_push _ _
  have hn2 : (bs.map Value.bool).toArray.size = bs.length := by rw [List.size_toArray, List.length_map]
  refine wpAny_pure ⟨plainId_quiet F.plain_sum_loop _, sumB_loop W (fun j => bs.getD j false) hv _ ?_ _ 0 _ s.toks 0 0 (.inl rfl) rfl (Nat.zero_le _) ?_ (Heap.get?_push_size _ rfl) fun h' tk t' hk => ?_⟩
  · intro m
    rcases List.mem_cons.mp m with e | m
    · exact absurd ((size1 _).symm.trans e) (by omega)
    · rcases List.mem_cons.mp m with e | m
      · have q : s.heap.objs.size + 1 = l := (size1 _).symm.trans e
        have q2 : l < s.heap.objs.size := hlt
        rw [← q] at q2
        exact absurd (Nat.lt_of_succ_lt q2) (Nat.lt_irrefl _)
      · cases m
  · exact ⟨⟨_, Heap.get?_push_of_some _ (Heap.get?_push_size _ rfl), rfl, rfl⟩, (hl.push _).push _⟩
  · rw [hn2]
    refine h h' tk t' fun b o e => hk b o (fun m => ?_) (fun z => ?_) (Heap.get?_push_of_some _ (Heap.get?_push_of_some _ e))
    · rcases List.mem_cons.mp m with z | m
      · exact absurd (Heap.lt_size e) (by rw [z]; exact Nat.lt_irrefl _)
      · cases m
    · have lt := Heap.lt_size e
      rw [z] at lt
      have := size1 { cls := .type "list_iterator", data := .fields #[.ref l, .int 0 0] }
      exact absurd (show (s.heap.push { cls := .type "list_iterator", data := .fields #[.ref l, .int 0 0] }).objs.size < s.heap.objs.size from lt) (by omega)
end
def cntB (bs : List Bool) : Int := preSum (fun j => if bs.getD j false = true then 1 else 0) bs.length
def rSumB (K : PySem.W.Frag) : List V → Hp → VK → Prop := fun vs H Q => ∃ (a : Addr) (bs : List Bool), vs = [V.ref a] ∧ SqL K H a (bs.map V.bl) ∧ Q (.int (cntB bs)) H
theorem cr_sumB {X : Cx} (hc : X.calm = true) : CallR X (.builtin "sum") (rSumB X.K) := by
  intro pins s σ H vs us Q I r h
  obtain ⟨a, bs, rfl, hs, q⟩ := h
  obtain ⟨its, rv, hl, _⟩ := I.list hs
  rw [Vals.ref1 r]
  have e := rv.bls
  subst e
  exact sumB_raw (I.ok.hd hc) hl.isList fun h' tk t' hk => ⟨.int _, H, I.kept hk, ⟨_, rfl⟩, q⟩
/-! ### isinstance of the own errors among each other -/
structure ErrC (K : PySem.W.Frag) (C0 C : Addr) : Prop where
  ex : ∃ cd, PySem.W.clsIn K C = some cd ∧ cd.mro = [.ref C, .ref C0, .type "ValueError", .type "Exception", .type "BaseException", .type "object"] ∧ PySem.W.typeIn K (.ref C) = some (.type "type") ∧ ExcC K C
structure KitTab (K : PySem.W.Frag) (ca : Nat → Addr) (ns : List Nat) : Prop where
  ec : ∀ c ∈ ns, ExcC K (ca c)
  each : ∀ c ∈ ns, ∀ d ∈ ns, PySem.W.kitOne K (.ref (ca c)) (.ref (ca d)) = some (decide (c = d))
  base : ∀ c ∈ ns, PySem.W.kitOne K (.ref (ca c)) (.ref (ca 0)) = some true
  val : ∀ c ∈ ns, PySem.W.kitOne K (.ref (ca c)) (.type "ValueError") = some true
theorem ct_nil {F : Nat → Prop} : ∀ c ∈ ([] : List Nat), F c := fun _ h => by cases h
theorem ct_cons {K : PySem.W.Frag} {ca : Nat → Addr} {n : Nat} {l : List Nat} (h : ErrC K (ca 0) (ca n)) (k : ∀ c ∈ l, ErrC K (ca 0) (ca c)) : ∀ c ∈ n :: l, ErrC K (ca 0) (ca c) := fun c m => by
  rcases List.mem_cons.mp m with rfl | m
  · exact h
  · exact k c m
theorem inj_of {α β : Type} {f : α → β} : ∀ {l : List α}, (l.map f).Nodup → ∀ a ∈ l, ∀ b ∈ l, f a = f b → a = b
  | [], _, _, h, _, _, _ => by cases h
  | x :: l, h, a, ha, b, hb, e => by
    obtain ⟨h1, h2⟩ := List.nodup_cons.mp (show (f x :: l.map f).Nodup from h)
    rcases List.mem_cons.mp ha with e1 | ha2 <;> rcases List.mem_cons.mp hb with e2 | hb2
    · rw [e1, e2]
    · exact absurd (List.mem_map.mpr ⟨b, hb2, by rw [← e, e1]⟩) h1
    · exact absurd (List.mem_map.mpr ⟨a, ha2, by rw [e, e2]⟩) h1
    · exact inj_of h2 a ha2 b hb2 e
theorem kit_tab {K : PySem.W.Frag} {ca : Nat → Addr} {ns : List Nat} (nd : ((0 :: ns).map ca).Nodup) (h0 : ∃ cd, PySem.W.clsIn K (ca 0) = some cd ∧ PySem.W.typeIn K (.ref (ca 0)) = some (.type "type")) (h : ∀ c ∈ ns, ErrC K (ca 0) (ca c)) : KitTab K ca ns := by
  have sub : ∀ (c : Nat) (D : Value), c ∈ ns → PySem.W.subIn K (.ref (ca c)) D = some ([.ref (ca c), .ref (ca 0), .type "ValueError", .type "Exception", .type "BaseException", .type "object"].contains D) := fun c D hc => by
    obtain ⟨⟨cd, h1, h2, h3, _⟩⟩ := h c hc
    show PySem.W.mroIn K (ca c) D = _
    unfold PySem.W.mroIn
    rw [h1, Option.bind_some, h2]
    rfl
  have kc : ∀ (c d : Nat), c ∈ ns → (∃ cd, PySem.W.clsIn K (ca d) = some cd ∧ PySem.W.typeIn K (.ref (ca d)) = some (.type "type")) →
      PySem.W.kitOne K (.ref (ca c)) (.ref (ca d)) = some ([Value.ref (ca c), .ref (ca 0), .type "ValueError", .type "Exception", .type "BaseException", .type "object"].contains (.ref (ca d))) := fun c d hc ⟨cd, h1, h2⟩ => by
    unfold PySem.W.kitOne
    by_cases e : ca c = ca d
    · rw [if_pos (by rw [e]; exact beq_self_eq_true _), e]
      simp
    · rw [if_neg (by simpa using e)]
      show (if ((PySem.W.clsIn K (ca d)).isSome && PySem.W.typeIn K (.ref (ca d)) == some (.type "type")) = true then PySem.W.subIn K (.ref (ca c)) (.ref (ca d)) else none) = _
      rw [h1, h2]
      rw [if_pos (by simp), sub c _ hc]
  refine ⟨fun c hc => ?_, fun c hc d hd => ?_, fun c hc => ?_, fun c hc => ?_⟩
  · obtain ⟨⟨_, _, _, _, e⟩⟩ := h c hc
    exact e
  · obtain ⟨⟨cd, h1, _, h3, _⟩⟩ := h d hd
    rw [kc c d hc ⟨cd, h1, h3⟩]
    have n0 : ca d ≠ ca 0 := fun e => by
      obtain ⟨a, _⟩ := List.nodup_cons.mp (show (ca 0 :: ns.map ca).Nodup from nd)
      exact a (List.mem_map.mpr ⟨d, hd, e⟩)
    congr 1
    by_cases e : c = d
    · subst e
      simp
    · have e2 : ca d ≠ ca c := fun q => e (inj_of (List.nodup_cons.mp (show (ca 0 :: ns.map ca).Nodup from nd)).2 c hc d hd q.symm)
      simp [e, n0, e2]
  · rw [kc c 0 hc h0]
    simp
  · unfold PySem.W.kitOne
    rw [if_neg (by simp)]
    show (if PySem.W.kitMeta "ValueError" = true then PySem.W.subIn K (.ref (ca c)) (.type "ValueError") else none) = _
    rw [if_pos (by decide +kernel), sub c _ hc]
    simp
/-- the numbers of the own errors but their base -/
abbrev ERRS : List Nat := [1, 4, 5, 6, 7, 8, 9, 10, 11, 12, 13, 14, 15, 16, 17, 18, 19, 20, 21]
def ErrO (ca : Nat → Addr) (H : Hp) (a : Addr) : Prop := ∃ c ∈ ERRS, ∃ od, H a = some (exo a (ca c) od) ∧ ∀ d, od = some d → ∃ fs, H d = some (exd d fs)
def ErrT (ca : Nat → Addr) (H : Hp) (t : V) : Prop := ∃ q a, t = .ref q ∧ H q = some (.tup [.ref a, .bl true]) ∧ ErrO ca H a
theorem exo_lst {e C : Addr} {d : Option Addr} {xs : List V} : exo e C d ≠ .lst xs := fun z => by
  have y : HO.ext _ = HO.lst xs := z
  cases y
theorem exd_lst {e : Addr} {fs : List (Str × V)} {xs : List V} : exd e fs ≠ .lst xs := fun z => by
  have y : HO.ext _ = HO.lst xs := z
  cases y
theorem ErrO.same {ca : Nat → Addr} {H H' : Hp} {a : Addr} (h : ErrO ca H a) (s : Same H H') : ErrO ca H' a :=
  let ⟨c, m, od, e, k⟩ := h; ⟨c, m, od, s _ _ e, fun d q => let ⟨fs, z⟩ := k d q; ⟨fs, s _ _ z⟩⟩
theorem ErrO.put {ca : Nat → Addr} {H H' : Hp} {a D : Addr} {xs : List V} (h : ErrO ca H a) (e : H D = some (.lst xs)) (s : Keep D H H') : ErrO ca H' a :=
  let ⟨c, m, od, q, k⟩ := h; ⟨c, m, od, s _ _ q (ne_of q e exo_lst), fun d y => let ⟨fs, z⟩ := k d y; ⟨fs, s _ _ z (ne_of z e exd_lst)⟩⟩
theorem ErrT.same {ca : Nat → Addr} {H H' : Hp} {t : V} (h : ErrT ca H t) (s : Same H H') : ErrT ca H' t :=
  let ⟨q, a, e, h1, h2⟩ := h; ⟨q, a, e, s _ _ h1, h2.same s⟩
theorem ErrT.put {ca : Nat → Addr} {H H' : Hp} {t : V} {D : Addr} {xs : List V} (h : ErrT ca H t) (e : H D = some (.lst xs)) (s : Keep D H H') : ErrT ca H' t :=
  let ⟨q, a, y, h1, h2⟩ := h; ⟨q, a, y, s _ _ h1 (ne_of h1 e fun z => nomatch z), h2.put e s⟩
/-- an error of class c with these fields -/
structure ErrF (ca : Nat → Addr) (H : Hp) (a : Addr) (c : Nat) (d : Addr) (fs : List (Str × V)) : Prop where
  at_ : H a = some (exo a (ca c) (some d))
  dd : H d = some (exd d fs)
theorem ErrF.same {ca : Nat → Addr} {H H' : Hp} {a d : Addr} {c : Nat} {fs : List (Str × V)} (h : ErrF ca H a c d fs) (s : Same H H') : ErrF ca H' a c d fs := ⟨s _ _ h.at_, s _ _ h.dd⟩
theorem ErrF.put {ca : Nat → Addr} {H H' : Hp} {a d D : Addr} {c : Nat} {fs : List (Str × V)} {xs : List V} (h : ErrF ca H a c d fs) (e : H D = some (.lst xs)) (s : Keep D H H') : ErrF ca H' a c d fs := ⟨s _ _ h.at_ (ne_of h.at_ e exo_lst), s _ _ h.dd (ne_of h.dd e exd_lst)⟩
theorem ErrF.o {ca : Nat → Addr} {H : Hp} {a d : Addr} {c : Nat} {fs : List (Str × V)} (h : ErrF ca H a c d fs) (m : c ∈ ERRS := by decide) : ErrO ca H a := ⟨c, m, some d, h.at_, fun _ q => by cases q; exact ⟨fs, h.dd⟩⟩
theorem eqLF {K : PySem.W.Frag} {H : Hp} {p q : Addr} {vs : List V} {Q : VK} (hp : H p = some (.lst vs)) (hq : H q = some (.lst vs)) (h : vs.all fdB = true) (k : Q (.bl true) H) : rEqD K (.ref p) (.ref q) H Q := by
  obtain ⟨c, s⟩ := fd_tup (K := K) (H := H) h
  have d := (fd_all (K := K) (H := H) h).1
  have c' : (PyData.list (vs.map dat)).canLay0 = true := c
  have s' : SeqAt.shaped (PyData.list (vs.map dat)) = true := s
  refine ⟨_, _, .lst (SqL.of hp) d, .lst (SqL.of hq) d, s', s', ?_⟩
  rw [SeqAt.eqv_refl _ c']
  exact k
end Lo

set_option Elab.async false
set_option linter.all false
set_option maxRecDepth 100000
set_option maxHeartbeats 4000000
namespace Lo
open PySem PySem.Spec PyProof.Rows L2
/-! ### several clauses, each with a name -/
def wAll (K : PySem.W.Frag) (out : WX) (D : Ends) : List (Value × Nat × (Addr → Value → Option Addr → TS)) → WX
  | [] => out
  | (c, i, ts) :: r => fun cls d τ G => ∃ b, PySem.W.exmOne K cls c = some b ∧
      (b = true → ∀ a, G a = none → ts a cls d { nx := fun τ' G' => D.nx (τ'.set i none) G', rt := D.rt, bk := fun τ' G' => D.bk (τ'.set i none) G', ct := fun τ' G' => D.ct (τ'.set i none) G' } (τ.set i (some (.ref a))) G) ∧
      (b = false → wAll K out D r cls d τ G)
inductive Clauses (X : Cx) : List ExceptHandler → List (Value × Nat × (Addr → Value → Option Addr → TS)) → Prop
  | nil : Clauses X [] []
  | cons {x n : Str} {c : Value} {i : Nat} {ts : Addr → Value → Option Addr → TS} {b₀ : Stmt} {suite : List Stmt} {np pp : Pos} {hds : List ExceptHandler} {l : List (Value × Nat × (Addr → Value → Option Addr → TS))} (hi : X.N[i]? = some n) (hl : X.env.kindOf n = some .local) (hc : Names X x c)
      (su : ∀ (a : Addr) (oe : Obj) (cls : Value) (d : Option Addr) (pn : List (Addr × Obj)), L2N.Zn cls d oe → (∃ vs, oe.data = .fields vs) → PSs (X.suite a ((a, oe) :: pn)) (b₀ :: suite) (ts a cls d)) (r : Clauses X hds l) :
      Clauses X (.ExceptHandler (some (.Name x np)) (some n) (b₀ :: suite) pp :: hds) ((c, i, ts) :: l)
theorem ps_try_all {X : Cx} {body : List Stmt} {h₀ : ExceptHandler} {hds : List ExceptHandler} {l : List (Value × Nat × (Addr → Value → Option Addr → TS))} {pos : Pos} {tb : WX → TS} {out : WX} (hs : X.stack = X.env :: X.outer) (hf : X.env.frame = some X.env.locals) (hN : X.N.Nodup) (tk : L2N.Takes X out)
    (hb : ∀ (W : WX) (pn : List (Addr × Obj)) (xe : Value → Shared → Prop), L2N.Takes (X.tr pn xe) W → PassesOwn (model X.prog X.w) X.A X.env xe → PSs (X.tr pn xe) body (tb W)) (hh : Clauses X (h₀ :: hds) l) :
    PS X (.Try body (h₀ :: hds) [] [] pos) (fun D σ H => tb (wAll X.K out D l) D σ H) := by
  constructor
  intro pins s σ H D I h
  have ok := I.ok
  have frs' : X.A.frames = some (X.env :: X.outer) := by rw [ok.frames, hs]
  apply wpAny_Try_except
  have run := (hb (wAll X.K out D l) (X.pn ++ pins) (fun e t1 => wpAny (model X.prog X.w) X.A (noteFrame e X.env) (fun _ t2 => wpAny (model X.prog X.w) X.A (setFlight e none)
    (fun _ t3 => wpAny (model X.prog X.w) X.A (handleBy e X.env (h₀ :: hds)) (SP X pins D) X.xe t3) X.xe t2) X.xe t1) ?_ PassesOwn.looking).run [] s σ H D (I.toTry _) h
  · refine wpAny_mono run (fun f t hsp => ?_) (fun e t he => he)
    cases f with
    | next =>
      obtain ⟨τ, G, J, q⟩ := hsp
      exact wpAny_execs_nil ⟨τ, G, J.ofTry ok, q⟩
    | brk =>
      obtain ⟨τ, G, J, q⟩ := hsp
      exact ⟨τ, G, J.ofTry ok, q⟩
    | cont =>
      obtain ⟨τ, G, J, q⟩ := hsp
      exact ⟨τ, G, J.ofTry ok, q⟩
    | ret u =>
      obtain ⟨v, τ, G, J, r, q⟩ := hsp
      exact ⟨v, τ, G, J.ofTry ok, r, q⟩
  · intro u t xx
    obtain ⟨a, B, sI, pins2, τ, G, cls, d, rfl, J0, nb, up, sky, na, os, ag, w⟩ := xx
    have J : Inv X pins τ G sI := J0.ofTry ok
    rw [← show X.stack = X.env :: X.outer from hs] at frs'
    have sky2 : Sky B X.stack a (L2N.Zn cls d) X.env.locals t.heap := sky
    rw [hs] at frs' sky2
    show wpAny (model X.prog X.w) X.A (noteFrame (.ref a) X.env) _ _ _
    refine L2N.Sky.land L2N.Zn.steady frs' hf sky2 fun h3 fl up3 => ?_
    have J3 : Inv X pins τ G { t with heap := h3 } := J.landed nb fl.1 (up.trans up3) os ag
    obtain ⟨oe3, vs3, at3, z3, d3⟩ := fl.there
    have off : a ∉ frs (X.env :: X.outer) := fun m => by
      obtain ⟨_, o, e, no⟩ := fl.2.2.1.mem m
      rw [at3] at e
      cases e
      exact no _ d3
    have offL : a ≠ X.env.locals := fun z => off (List.mem_filterMap.mpr ⟨X.env, List.mem_cons_self, by rw [hf, z]⟩)
    have offF : a ∉ X.fs := fun m => by
      obtain ⟨e, he, q⟩ := List.mem_filterMap.mp m
      exact off (List.mem_filterMap.mpr ⟨e, List.mem_cons_of_mem _ he, q⟩)
    have S3 := J3.suite at3 d3 na offL offF
    have go : ∀ {hs2 : List ExceptHandler} {l2 : List (Value × Nat × (Addr → Value → Option Addr → TS))}, Clauses X hs2 l2 → wAll X.K out D l2 cls d τ G →
        wpAny (model X.prog X.w) X.A (handleBy (.ref a) X.env hs2) (SP X pins D) X.xe { t with heap := h3 } := by
      intro hs2 l2 cl
      induction cl with
      | nil =>
        intro w
        apply wpAny_handleBy_nil
        obtain ⟨k1, k2, k3, oe, vs, T, oT, ts2, he, hz, hd, h1, hr⟩ := id fl
        unfold PySem.passOn
        apply wpAny_bind
        apply wpAny_field he hd h1
        rw [if_neg (show ¬ ((Value.ref T == Value.none) = true) by simp)]
        have fin : wpAny (model X.prog X.w) X.A (setFlight (.ref a) X.env.frame) (fun _ t4 => wpAny (model X.prog X.w) X.A (throw (.ref a) : Sem Flow) (SP X pins D) X.xe t4) X.xe { t with heap := h3 } := by
          rw [hf]
          exact HandSPX.setFlight_upZ fl fun h4 hh4 up4 => wpAny_throw (tk _ _ ⟨a, B, sI, pins, τ, G, cls, d, rfl, J, nb, (up.trans up3).trans up4, .inr (.inr (by rw [hs]; exact hh4)), na, os, ag, w⟩)
        first
          | exact wpAny_bind (wpAny_pure (wpAny_bind fin))
          | exact wpAny_bind fin
      | @cons x n c i ts b₀ suite np pp hds2 l3 hi hl hc su r ih =>
        intro w
        obtain ⟨b, eb, yes, no⟩ := w
        apply wpAny_handleBy_cons (codeAny_handlers_test ?_) (by intro q; cases q)
        have look : PySem.W.Looks (model X.prog X.w) h3 (typeOf (.ref a)) cls := fun A Q E s k q => wpAny_typeOf_ref (k _ _ at3) (by rw [z3.1]; exact q)
        have test : ∀ {Q : Value → Shared → Prop} {E : Value → Shared → Prop}, Q c { t with heap := h3 } → wpAny (model X.prog X.w) (X.A.mark (some (.ref a))) (eval (.Name x np) X.env) Q E { t with heap := h3 } := fun {Q E} q => by
          rcases hc with ⟨hg, hdbg, hm | ⟨hm, hv, hnn⟩⟩
          · exact ld_glob (X := X.suite a ((a, oe3) :: (X.pn ++ pins))) S3 hg hm q hdbg
          · exact ld_blt (X := X.suite a ((a, oe3) :: (X.pn ++ pins))) S3 hg hm hv q hnn hdbg
        apply test
        apply (PySem.W.exm_one (M := model X.prog X.w) J3.kIn look eb).here
        cases b with
        | true =>
          apply codeAny_handlers_suite_as
          refine HandSPX.lands_againZ fl fun h4 fl4 up4 => ?_
          have J4 : Inv X pins τ G { t with heap := h4 } := J.landed nb fl4.1 ((up.trans up3).trans up4) os ag
          obtain ⟨oe4, vs4, at4, z4, d4⟩ := fl4.there
          refine store_ok (X := X.suite a ((a, oe4) :: (X.pn ++ pins))) (v := .ref a) (J4.suite at4 d4 na offL offF) hN hi (.inl hl) rfl (fun t5 S5 => ?_) (.inr hl)
          refine wpAny_mono ((su a oe4 cls d (X.pn ++ pins) z4 ⟨_, d4⟩).run [] t5 _ G _ S5 (yes rfl a na)) (fun f t6 hsp => ?_) (fun _ _ z => z.elim)
          cases f with
          | next =>
            obtain ⟨τ6, G6, S6, q6⟩ := hsp
            exact gone_ok (S6.unsuite ok) hN hi hl fun t7 J7 => ⟨_, _, J7, q6⟩
          | brk =>
            obtain ⟨τ6, G6, S6, q6⟩ := hsp
            exact gone_ok (S6.unsuite ok) hN hi hl fun t7 J7 => ⟨_, _, J7, q6⟩
          | cont =>
            obtain ⟨τ6, G6, S6, q6⟩ := hsp
            exact gone_ok (S6.unsuite ok) hN hi hl fun t7 J7 => ⟨_, _, J7, q6⟩
          | ret u =>
            obtain ⟨v6, τ6, G6, S6, r6, q6⟩ := hsp
            exact gone_ok (S6.unsuite ok) hN hi hl fun t7 J7 => ⟨_, _, _, J7, r6, q6⟩
        | false => exact ih (no rfl)
    exact go hh w
/-! ### min of a list of texts -/
theorem best_min (f : Nat → Str) : ∀ k, argBest (fun i j => decide ((f i).cps.toList < (f j).cps.toList)) k ≤ k ∧ ∀ j, j ≤ k → ¬ (f j).cps.toList < (f (argBest (fun i j => decide ((f i).cps.toList < (f j).cps.toList)) k)).cps.toList
  | 0 => ⟨Nat.le_refl _, fun j hj => by
    obtain rfl : j = 0 := by omega
    exact List.lt_irrefl _⟩
  | k + 1 => by
    obtain ⟨h1, h2⟩ := best_min f k
    unfold argBest
    by_cases c : (f (k + 1)).cps.toList < (f (argBest (fun i j => decide ((f i).cps.toList < (f j).cps.toList)) k)).cps.toList
    · rw [if_pos (decide_eq_true c)]
      refine ⟨Nat.le_refl _, fun j hj z => ?_⟩
      rcases Nat.lt_or_ge k j with q | q
      · obtain rfl : j = k + 1 := by omega
        exact List.lt_irrefl _ z
      · exact h2 j q (List.lt_trans z c)
    · rw [if_neg (by simpa using c)]
      refine ⟨Nat.le_succ_of_le h1, fun j hj => ?_⟩
      rcases Nat.lt_or_ge k j with q | q
      · obtain rfl : j = k + 1 := by omega
        exact c
      · exact h2 j q
def rMinS (K : PySem.W.Frag) : List V → Hp → VK → Prop := fun vs H Q => ∃ (a : Addr) (zs : List Str), vs = [V.ref a] ∧ SqL K H a (zs.map V.str) ∧ zs ≠ [] ∧ ∀ z, z ∈ zs → (∀ y ∈ zs, ¬ y.cps.toList < z.cps.toList) → Q (.str z) H
theorem strs_at2 : ∀ {us : List Value} {zs : List Str} {i : Nat} {v : Value}, PyProof.Rows.StrsAre us zs → us[i]? = some v → ∃ t, v = Value.str (zs.getD i Str.empty) t
  | _, _, 0, v, .cons x k t, h => by
    simp at h
    exact ⟨k, by rw [← h]; rfl⟩
  | _, _, i + 1, v, .cons x k t, h => by
    obtain ⟨q, e⟩ := strs_at2 (i := i) t (by simpa using h)
    exact ⟨q, by rw [e]; rfl⟩
theorem cr_minS {X : Cx} (hc : X.calm = true) : CallR X (.builtin "min") (rMinS X.K) := by
  intro pins s σ H vs us Q I r h
  obtain ⟨a, zs, rfl, hs, hne, q⟩ := h
  obtain ⟨its, rv, hl, _⟩ := I.list hs
  rw [Vals.ref1 r]
  have hst := rv.strs
  have hh := I.ok.hd hc
  have len : its.length = zs.length := by have := rv.length; rw [List.length_map] at this; exact this.symm
  have pos : 0 < zs.length := List.length_pos_iff.mpr hne
  have hl := hl.isList
  have hlt : a < s.heap.objs.size := by obtain ⟨_, e, _⟩ := hl; exact Heap.lt_size e
  have hn : a ≠ s.heap.objs.size := Nat.ne_of_lt hlt
  apply call_min_walk
  apply wpAny_pyIter_list hl
  refine ⟨_, _, _, _, _, _, fun i j => decide ((zs.getD i Str.empty).cps.toList < (zs.getD j Str.empty).cps.toList), rfl, Walks.list (A := X.A.in1) hh s.heap.objs.size a hn its.toArray, ⟨⟨_, Heap.get?_push_size _ rfl, rfl, rfl⟩, hl.push _⟩, fun b hb => ?_, by simp [len]; exact pos, ?_, fun v h' tk hP hk => ?_⟩
  · show b < (s.heap.push _).objs.size
    rw [Heap.size_push]
    simp only [List.mem_cons, List.not_mem_nil, or_false] at hb
    rcases hb with rfl | rfl
    · exact Nat.lt_succ_self _
    · exact Nat.lt_succ_of_lt hlt
  · intro i j vi vj s2 Q2 E2 hi hj hQ
    obtain ⟨t, rfl⟩ := strs_at2 hst (by simpa using hi)
    obtain ⟨u, rfl⟩ := strs_at2 hst (by simpa using hj)
    exact PyProof.Rows.lt_str hQ
  · obtain ⟨b1, b2⟩ := best_min (fun i => zs.getD i Str.empty) (zs.length - 1)
    rw [show its.toArray.size - 1 = zs.length - 1 by rw [List.size_toArray, len]] at hP
    generalize argBest (fun i j => decide ((zs.getD i Str.empty).cps.toList < (zs.getD j Str.empty).cps.toList)) (zs.length - 1) = m at *
    obtain ⟨t, rfl⟩ := strs_at2 hst (by simpa using hP)
    have hm : m < zs.length := by omega
    have e : zs.getD m Str.empty = zs[m] := by simp [List.getD_eq_getElem?_getD, hm]
    refine ⟨.str (zs.getD m Str.empty), H, I.kept (t' := tk) fun b o ho => hk b o (fun z => ?_) (Heap.get?_push_of_some _ ho), ⟨t, rfl⟩, q _ (by rw [e]; exact List.getElem_mem hm) fun y my => ?_⟩
    · simp only [List.mem_cons, List.not_mem_nil, or_false] at z
      exact absurd (Heap.lt_size ho) (by rw [z]; exact Nat.lt_irrefl _)
    · obtain ⟨j, hj, rfl⟩ := List.mem_iff_getElem.mp my
      have := b2 j (by omega)
      simpa [List.getD_eq_getElem?_getD, hj] using this
/-! ### a class method called within a try -/
def tClsS (C : Addr) (sp : Sp) (E : L2.St → XK) (ta : TE) (t : TA) : TE := fun σ H Q => ta σ H fun x H1 => x = .ref C ∧ t σ H1 fun vs H2 => sp (.ref C :: vs) H2 Q (E σ)
theorem pe_owncS {X : Cx} {k : Nat} {C : Addr} {m : Str} {ps : List Str} {sp : Sp} {E : L2.St → XK} {pos apos : Pos} {e o : Expr} {es : List Expr} {ta : TE} {t : TA} {pl : Sem Bool} (O : OwnC X.prog X.w X.K X.mg X.base k C m ps sp) (he : PE X o ta) (hr : Room k X.A)
    (hx : ∀ σ, PassesAt (L2N.CX X.prog X.w) X σ (E σ)) (ha : PA X (e :: es) t)
    (hst : starEach (e :: es) X.env = (false, eval e X.env) :: starEach es X.env := by rfl) (hpl : (backTo pos (starEach es X.env)).any (·.1) = false := by rfl)
    (ht : eval (.Call (.Attribute o m apos) (e :: es) [] pos) X.env = (do
        let ov ← eval o X.env
        standAt apos.atName
        let (g, first) ← holding [ov] (getMethod ov m pl)
        callWith pos g first (backTo pos (starEach (e :: es) X.env)) (backToKw pos (keywordEach [] X.env))) := by rfl) :
    PE X (.Call (.Attribute o m apos) (e :: es) [] pos) (tClsS C sp E ta t) := by
  obtain ⟨f, fd, q, mc, F, r, c, hb⟩ := O.ex
  constructor
  intro pins s σ H Q I h
  apply PySem.W.methodCall_KW (pl := pl) ?_ ht
  apply thn (he.run pins s σ H _ I h)
  rintro u s1 ⟨x, H1, I1, rx, ex, q1⟩
  subst ex
  obtain rfl : u = Value.ref C := rx
  refine ClX.getmethcm_ok I1 r c fun s2 I2 => ?_
  refine ClX.callwith_cm I2 (ClX.base_none I1 (Nat.le_refl _)) c.fi (thn (ha.run pos _ s2 σ H1 _ I2 q1) ?_) hst hpl
  rintro us s3 ⟨vs, H2, I3, rv, q2⟩
  refine ⟨⟨ClX.pin_at I3, I3.kIn⟩, ?_⟩
  have r2 : Vals (V.ref C :: vs) (Value.ref C :: us) := .cons rfl rv
  have len : (Value.ref C :: us ++ []).length = ps.length := by
    have e := r2.length
    rw [F.len _ _ _ _ q2] at e
    rw [List.append_nil]
    exact e.symm
  have bt := hb s3 (Value.ref C :: us) I3.kIn len
  rw [List.append_nil] at bt
  have run := F.run X.A X.stack s3 H2 ⟨Value.ref C :: us, []⟩ (Value.ref C :: us) (V.ref C :: vs) Q (E σ) hr I3.env0 bt r2 q2
  refine thn (Q := EP X ((s1.heap.objs.size, PySem.W.methodObj (.ref f) (.ref C)) :: pins) σ Q) (wpAny_call (PySem.W.method_call (ClX.pin_at I3) (codeAny_mono run ?_))) fun _ _ y => ClX.unpinE y
  rintro (e | fl) s' hq
  · exact hx σ _ _ _ e s' I3 hq
  · cases fl with
    | ret u => exact I3.after hq
    | next => exact hq.elim
    | brk => exact hq.elim
    | cont => exact hq.elim
theorem neLF {K : PySem.W.Frag} {H : Hp} {p q : Addr} {vs : List V} {Q : VK} (hp : H p = some (.lst vs)) (hq : H q = some (.lst vs)) (h : vs.all fdB = true) (k : Q (.bl false) H) : rNeD K (.ref p) (.ref q) H Q := by
  obtain ⟨c, s⟩ := fd_tup (K := K) (H := H) h
  have d := (fd_all (K := K) (H := H) h).1
  have c' : (PyData.list (vs.map dat)).canLay0 = true := c
  have s' : SeqAt.shaped (PyData.list (vs.map dat)) = true := s
  refine ⟨_, _, .lst (SqL.of hp) d, .lst (SqL.of hq) d, s', s', ?_⟩
  rw [SeqAt.eqv_refl _ c']
  exact k
end Lo

set_option Elab.async false
set_option linter.all false
set_option maxRecDepth 100000
set_option maxHeartbeats 4000000
namespace Lo
open PySem PySem.Spec PyProof.Rows L2
/-! ### slices -/
theorem cut_from {xs : List V} {k : Nat} : cutV xs (some (k : Int)) none = xs.drop k := by
  unfold cutV
  rw [HT.sIx_nat, HT.sIx_none]
  by_cases h : k ≤ xs.length
  · rw [Nat.min_eq_left h, ← List.length_drop, List.take_length]
  · rw [Nat.min_eq_right (by omega), Nat.sub_self, List.take_zero, List.drop_eq_nil_of_le (by omega)]
theorem cut_to {xs : List V} {k : Nat} : cutV xs none (some (k : Int)) = xs.take k := by
  unfold cutV
  rw [HT.sIx_nat, HT.sIx_none, List.drop_zero, Nat.sub_zero]
  by_cases h : k ≤ xs.length
  · rw [Nat.min_eq_left h]
  · rw [Nat.min_eq_right (by omega), List.take_length, List.take_of_length_le (by omega)]
/-! ### dicts -/
theorem valV_drop {κ : Type} [DecidableEq κ] : ∀ {kvs : List (κ × V)} {k j : κ}, valV (dropK kvs k) j = if j = k then none else valV kvs j
  | [], k, j => by
    show valV ([] : List (κ × V)) j = _
    rw [valV_nil]
    split <;> rfl
  | (i, v) :: r, k, j => by
    have ih := valV_drop (kvs := r) (k := k) (j := j)
    by_cases c : i = k
    · rw [dropK_pos c, ih]
      by_cases q : j = k
      · rw [if_pos q, if_pos q]
      · rw [if_neg q, if_neg q]
        have n : ¬ i = j := fun e => q (by rw [← e, c])
        unfold valV
        simp [n]
    · rw [dropK_neg c]
      by_cases e : i = j
      · subst e
        rw [if_neg c]
        unfold valV
        simp
      · have a : valV ((i, v) :: dropK r k) j = valV (dropK r k) j := by unfold valV; simp [e]
        have b : valV ((i, v) :: r) j = valV r j := by unfold valV; simp [e]
        rw [a, b, ih]
/-- texts == [] -/
theorem eq_nilS {K : PySem.W.Frag} {H : Hp} {p q : Addr} {zs : List Str} {Q : VK} (hp : H p = some (.lst (zs.map V.str))) (hq : H q = some (.lst [])) (h : ∀ z ∈ zs, Lets z) (k : Q (.bl (decide (zs = []))) H) : rEqD K (.ref p) (.ref q) H Q := by
  obtain ⟨a, b⟩ := strs_lay h
  have c : (PyData.list (zs.map .str)).canLay0 = true := a
  have s : SeqAt.shaped (PyData.list (zs.map .str)) = true := by
    unfold SeqAt.shaped
    rw [c, Bool.true_and]
    refine decide_eq_true ?_
    show PyData.depthAll (zs.map .str) + 1 ≤ 64
    rw [b]
    decide
  refine ⟨_, _, .lst (SqL.of hp) strs_dp, .lst (SqL.of hq) .nil, s, by rfl, ?_⟩
  have e : PyData.eqv (.list (zs.map .str)) (.list []) = decide (zs = []) := by
    cases zs with
    | nil => rfl
    | cons z r => rfl
  rw [e]
  exact k
/-! ### fractions in order -/
def leQ (x y : Int × Int) : Prop := x.1 * y.2 ≤ y.1 * x.2
theorem nrm_lt {a b : Int} (h : 0 < b) : (nrm a b).1 < 0 ↔ a < 0 := by
  have c := nrm_cross (a := a) (b := b)
  have r := (nrm_red (a := a) (b := b) (by omega)).pos
  constructor
  · intro n
    have : (nrm a b).1 * b < 0 := Int.mul_neg_of_neg_of_pos n h
    rw [c] at this
    exact Int.not_le.mp fun q => absurd (Int.mul_nonneg q (Int.le_of_lt r)) (by omega)
  · intro n
    have : a * (nrm a b).2 < 0 := Int.mul_neg_of_neg_of_pos n r
    rw [← c] at this
    exact Int.not_le.mp fun q => absurd (Int.mul_nonneg q (Int.le_of_lt h)) (by omega)
theorem sub_lt {x y : Int × Int} (h : Red x.1 x.2) (k : Red y.1 y.2) : (addP x (mulP y (-1, 1))).1 < 0 ↔ ¬ leQ y x := by
  rw [mulP_neg k]
  unfold addP leQ
  rw [nrm_lt (Int.mul_pos h.pos k.pos)]
  show x.1 * y.2 + -y.1 * x.2 < 0 ↔ _
  rw [Int.neg_mul]
  omega
/-! ### a text in a list of texts -/
theorem inV_strs {z : Str} {ys : List Str} : inV (.str z) (ys.map V.str) = decide (z ∈ ys) := by
  unfold inV
  rw [List.any_map]
  rw [Bool.eq_iff_iff, List.any_eq_true, decide_eq_true_iff]
  constructor
  · rintro ⟨y, m, e⟩
    have e : (y == z) = true := e
    rw [beq_iff_eq] at e
    rw [← e]
    exact m
  · intro m
    exact ⟨z, m, show (z == z) = true from beq_self_eq_true z⟩
theorem flat_strs {ys : List Str} : (ys.map V.str).all flatV = true := by
  rw [List.all_map]
  exact List.all_eq_true.mpr fun _ _ => rfl
end Lo

set_option Elab.async false
set_option linter.all false
set_option maxRecDepth 100000
set_option maxHeartbeats 4000000
namespace Lo
open PySem PySem.Spec PyProof.Rows L2 L2H
/-! ### within an except suite: a list's iterator comes to its end -/
theorem list_end_hot {prog : Program} {w : World} {A : Around} {E : Value → Shared → Prop} {s : Shared} {it l x1 : Addr} {i : Nat} {items : Array Value} {Q : Option Value → Shared → Prop} (hot : HotX.HotAt A x1 s.heap) (ne : x1 ≠ it)
    (hit : s.heap.IsListIter it l i) (hl : s.heap.IsList l items) (over : items[i]? = none) (q : ∀ h', Heap.ExtBut it s.heap h' → Q none { s with heap := h' }) : wpAny (model prog w) A (pyNext (.ref it)) Q E s := by
  have ⟨handled, o1, vs1, e1, d1, c1⟩ := hot
  have ⟨o, ho, _, hd⟩ := hit
  have ⟨ol, hol, _, _, hdl⟩ := hl
  unfold pyNext
  apply wpAny_bind
  apply wpAny_attempt
  apply wpAny_callSpecial?_slot (name := Str.ofString "__next__") hit.typeIs slot_listiter_next
  apply wpAny_call_entry slot_listiter_next hit.typeIs entry_listiter_next ?_ (args_listiter_next _)
  show wpAny _ _ (field (.ref it) 0 >>= _) _ _ s
  apply wpAny_bind
  apply wpAny_field ho hd (x := .ref l) rfl
  show wpAny _ _ (if (Value.ref l == Value.none) = true then _ else _) _ _ s
  rw [if_neg (show ¬ ((Value.ref l == Value.none) = true) by exact Bool.false_ne_true)]
  show wpAny _ _ (field (.ref it) 1 >>= _) _ _ s
  apply wpAny_bind
  apply wpAny_field ho hd (x := .int i 0) rfl
  show wpAny _ _ (seqItems? (.ref l) >>= _) _ _ s
  apply wpAny_bind
  apply wpAny_seqItems hol hdl
  simp only [Int.toNat_natCast, over]
  apply wpAny_bind
  apply wpAny_rule
  apply wpAny_bind
  apply wpAny_setField ho hd (by simp)
  show wpAny _ _ (newExc (.type "StopIteration") [] >>= _) _ _ _
  apply wpAny_bind
  simp only [newExc, newTuple]
  apply wpAny_bind
  refine wpAny_newObj_type ?_ (by size_fits)
  refine wpAny_bind (m := firstArgMember _ _) (wpAny_of_eq (a := Value.none) (by first | rfl | (simp only [firstArgMember]; rfl)) ?_)
  refine wpAny_newObj_type ?_ (by size_fits)
  have e2 := (Heap.get?_update_other s.heap (Obj.mapFields (·.setIfInBounds 0 Value.none)) (Ne.symm ne)).trans e1
  refine HotX.raiseNew_hot ⟨handled, o1, vs1, Heap.get?_push_of_some _ (Heap.get?_push_of_some _ e2), d1, c1⟩ (Nat.ne_of_lt (Heap.lt_size (Heap.get?_push_of_some _ e2))) (Heap.get?_push_size _ rfl) rfl (by first | (simp; done) | (simp; omega) | (simp only [Array.size_append]; simp; omega)) ?_
  refine wpAny_bind (wpAny_isInstance (T := "StopIteration") (b := true) ⟨_, Heap.get?_update_self _ (Heap.get?_push_size _ rfl) rfl, rfl⟩ isSubtype_stop ?_)
  refine wpAny_pure (q _ fun b o2 nb eb => ?_)
  have e3 := (Heap.get?_update_other s.heap (Obj.mapFields (·.setIfInBounds 0 Value.none)) (Ne.symm nb)).trans eb
  rw [Heap.get?_update_other _ _ (Nat.ne_of_gt (Heap.lt_size (Heap.get?_push_of_some _ e3)))]
  exact Heap.get?_push_of_some _ (Heap.get?_push_of_some _ e3)
/-- the walk over a list while x1's exception is handled -/
theorem walk_hot {prog : Program} {w : World} {A : Around} {x1 : Addr} (handled : A.handled = some (.ref x1)) (I l : Addr) (nl : l ≠ I) (nx : x1 ≠ I) (items : Array Value) :
    Walks prog w A I [I, l, x1] [I] items.size (fun i v => items[i]? = some v) (fun i h => h.IsListIter I l i ∧ h.IsList l items ∧ HotX.HotAt A x1 h) where
  sub := fun b hb => by simp at hb; simp [hb]
  frame := fun _ _ _ ⟨a, b, c, o, vs, e, d, n⟩ k => ⟨a.at fun u z => k I (by simp) u z, b.at fun u z => k l (by simp) u z, c, o, vs, k x1 (by simp) o e, d, n⟩
  item := fun i s Q E lt ⟨a, b, c, o, vs, e, d, n⟩ q => by
    refine wpAny_pyNext_list_item a b (x := items[i]) (by simp [lt]) fun h' a' sb => ?_
    exact q _ h' s.toks (by simp [lt]) ⟨a', b.extBut sb.extBut nl, c, o, vs, sb.extBut x1 o nx e, d, n⟩ fun y u ny z => sb.extBut y u (fun g => ny (by simp [g])) z
  done := fun s Q E ⟨a, b, c⟩ q => list_end_hot c nx a b (by simp) fun h' eb => q h' s.toks fun y u ny z => eb y u (fun g => ny (by simp [g])) z
  self := fun _ _ _ _ st q => wpAny_pyIter_listiter st.1 q
/-! ### min of texts within an except suite -/
theorem cr_minH {X : Cx} (hc : HotC X) : CallR X (.builtin "min") (rMinS X.K) := by
  intro pins s σ H vs us Q I r h
  obtain ⟨a, zs, rfl, hs, hne, q⟩ := h
  obtain ⟨its, rv, hl, _⟩ := I.list hs
  rw [Vals.ref1 r]
  have hst := rv.strs
  obtain ⟨x1, hot⟩ := hc.at I
  obtain ⟨handled, o1, vs1, e1, d1, c1⟩ := hot
  have len : its.length = zs.length := by have := rv.length; rw [List.length_map] at this; exact this.symm
  have pos : 0 < zs.length := List.length_pos_iff.mpr hne
  have hl := hl.isList
  have hlt : a < s.heap.objs.size := by obtain ⟨_, e, _⟩ := hl; exact Heap.lt_size e
  have x1lt : x1 < s.heap.objs.size := Heap.lt_size e1
  have hn : a ≠ s.heap.objs.size := Nat.ne_of_lt hlt
  apply call_min_walk
  apply wpAny_pyIter_list hl
  refine ⟨_, _, _, _, _, _, fun i j => decide ((zs.getD i Str.empty).cps.toList < (zs.getD j Str.empty).cps.toList), rfl, walk_hot (A := X.A.in1) handled s.heap.objs.size a hn (Nat.ne_of_lt x1lt) its.toArray,
    ⟨⟨_, Heap.get?_push_size _ rfl, rfl, rfl⟩, hl.push _, handled, o1, vs1, Heap.get?_push_of_some _ e1, d1, c1⟩, fun b hb => ?_, by simp [len]; exact pos, ?_, fun v h' tk hP hk => ?_⟩
  · show b < (s.heap.push _).objs.size
    rw [Heap.size_push]
    simp only [List.mem_cons, List.not_mem_nil, or_false] at hb
    rcases hb with rfl | rfl | rfl
    · exact Nat.lt_succ_self _
    · exact Nat.lt_succ_of_lt hlt
    · exact Nat.lt_succ_of_lt x1lt
  · intro i j vi vj s2 Q2 E2 hi hj hQ
    obtain ⟨t, rfl⟩ := strs_at2 hst (by simpa using hi)
    obtain ⟨u, rfl⟩ := strs_at2 hst (by simpa using hj)
    exact PyProof.Rows.lt_str hQ
  · obtain ⟨b1, b2⟩ := best_min (fun i => zs.getD i Str.empty) (zs.length - 1)
    rw [show its.toArray.size - 1 = zs.length - 1 by rw [List.size_toArray, len]] at hP
    generalize argBest (fun i j => decide ((zs.getD i Str.empty).cps.toList < (zs.getD j Str.empty).cps.toList)) (zs.length - 1) = m at *
    obtain ⟨t, rfl⟩ := strs_at2 hst (by simpa using hP)
    have hm : m < zs.length := by omega
    have e : zs.getD m Str.empty = zs[m] := by simp [List.getD_eq_getElem?_getD, hm]
    refine ⟨.str (zs.getD m Str.empty), H, I.kept (t' := tk) fun b o ho => hk b o (fun z => ?_) (Heap.get?_push_of_some _ ho), ⟨t, rfl⟩, q _ (by rw [e]; exact List.getElem_mem hm) fun y my => ?_⟩
    · simp only [List.mem_cons, List.not_mem_nil, or_false] at z
      exact absurd (Heap.lt_size ho) (by rw [z]; exact Nat.lt_irrefl _)
    · obtain ⟨j, hj, rfl⟩ := List.mem_iff_getElem.mp my
      have := b2 j (by omega)
      simpa [List.getD_eq_getElem?_getD, hj] using this
/-! ### [str(x) for x in a list of texts] within an except suite -/
def tStrs (K : PySem.W.Frag) (ti : TE) : TE := fun σ H Q => ti σ H fun v H1 => ∃ (a : Addr) (zs : List Str), v = .ref a ∧ SqL K H1 a (zs.map V.str) ∧ zs.length ≤ 1000 ∧ ∀ D, H1 D = none → Q (.ref D) (upd H1 D (.lst (zs.map V.str)))
theorem vals_strs : ∀ {us : List Value} {zs : List Str}, us.length = zs.length → (∀ j, j < zs.length → ∃ t, us[j]? = some (Value.str (zs.getD j Str.empty) t)) → Vals (zs.map V.str) us
  | [], [], _, _ => .nil
  | u :: us, z :: zs, l, h => by
    obtain ⟨t, e⟩ := h 0 (by simp)
    obtain rfl : u = Value.str z t := by simpa using e
    exact .cons ⟨t, rfl⟩ (vals_strs (by simpa using l) fun j hj => by
      obtain ⟨t, e⟩ := h (j + 1) (by simpa using hj)
      exact ⟨t, by simpa using e⟩)
  | [], _ :: _, l, _ => by simp at l
  | _ :: _, [], l, _ => by simp at l
theorem pair_at {F : Value → Value → Prop} : ∀ {xs ys : List Value}, Paired F xs ys → ∀ (j : Nat) (x : Value), xs[j]? = some x → ∃ y, ys[j]? = some y ∧ F x y
  | _, _, .cons h t, 0, x, e => ⟨_, rfl, by simp at e; exact e ▸ h⟩
  | _, _, .cons h t, j + 1, x, e => by
    obtain ⟨y, a, b⟩ := pair_at t j x (by simpa using e)
    exact ⟨y, by simpa using a, b⟩
theorem pe_strsH {X : Cx} {K : PySem.W.Frag} (hK : X.K = K) (hc : HotC X) {x : Str} {iter : Expr} {scope : Scope} {px p1 p2 p3 pos : Pos} {ti : TE} (free : ∀ y ∈ scope.names, y.2 ≠ .free) (cell : ∀ y ∈ scope.names, y.2 ≠ .cell) (kind : scope.kind = .function)
    (names : ∀ y ∈ scope.names, y.2 = .local → scope.names.lookup y.1 = some .local) (lx : scope.names.lookup x = some .local) (gs : ∀ C, (compEnv scope C X.env).kindOf "str" = some .globalImplicit) (ls : ∀ C, (compEnv scope C X.env).kindOf x = some .local)
    (hm : X.mg "str" = none) (he : PE X iter ti) (dbx : (x == ("__debug__" : Str)) = false := by decide) (hs : ∀ v, foldedSetIterable iter X.env v = pure v := by intro _; rfl) :
    PE X (.ListComp (.Call (.Name "str" p1) [.Name x p2] [] p3) [⟨.Name x px, iter, [], 0⟩] scope pos) (tStrs K ti) := by
  subst hK
  constructor
  intro pins s σ H Q I h
  apply wpAny_ListComp_walk (fun _ => true) (fun v y => ∃ z t, v = Value.str z t ∧ y = Value.str z t) free cell kind names lx ?_ hs
  apply thn (he.run pins s σ H _ I h)
  rintro u s1 ⟨v, H1, I1, r1, a, zs, rfl, sq, small, q⟩
  obtain rfl : u = .ref a := r1
  obtain ⟨its, rv, hl, _⟩ := I1.list sq
  have hl := hl.isList
  have hst := rv.strs
  obtain ⟨x1, handled, o1, vs1, e1, d1, c1⟩ := hc.at I1
  have len : its.length = zs.length := by have := rv.length; rw [List.length_map] at this; exact this.symm
  have hlt : a < s1.heap.objs.size := by obtain ⟨_, e, _⟩ := hl; exact Heap.lt_size e
  have x1lt : x1 < s1.heap.objs.size := Heap.lt_size e1
  have off : ∀ {b : Addr} {o : Obj}, s1.heap.get? b = some o → b ∉ [s1.heap.objs.size] := fun {b o} e m => by
    have z : b = s1.heap.objs.size := by simpa using m
    exact absurd (Heap.lt_size e) (by rw [z]; exact Nat.lt_irrefl _)
  apply wpAny_pyIter_list hl
  refine ⟨_, _, _, _, _, _, rfl, walk_hot handled s1.heap.objs.size a (Nat.ne_of_lt hlt) (Nat.ne_of_lt x1lt) its.toArray, by simp [len, sizeLine_eq]; omega,
    ⟨⟨_, Heap.get?_push_size _ rfl, rfl, rfl⟩, hl.push _, handled, o1, vs1, Heap.get?_push_of_some _ e1, d1, c1⟩, fun b hb => ?_, ⟨?_, ?_⟩, ?_⟩
  · show b < (s1.heap.push _).objs.size
    rw [Heap.size_push]
    simp only [List.mem_cons, List.not_mem_nil, or_false] at hb
    rcases hb with rfl | rfl | rfl
    · exact Nat.lt_succ_self _
    · exact Nat.lt_succ_of_lt hlt
    · exact Nat.lt_succ_of_lt x1lt
  · intro C i v s3 m3 E' _ _ _ _ _
    exact wpAny_pure ⟨rfl, ⟨s3.heap, s3.toks, rfl, fun _ _ e => e⟩⟩
  · intro C i v s3 m3 E' hP _ ns mx keep _
    obtain ⟨t, rfl⟩ := strs_at2 hst (by simpa using hP)
    have bk : X.base.StaysIn s3.heap := fun b o e => keep b o (off (I1.bk b o e)) (Heap.get?_push_of_some _ (I1.bk b o e))
    obtain ⟨mb, h1, h2⟩ := I1.ok.mod.blt
    refine wpAny_Call_Name_kw ?_
    refine Calls.Name_function_global (env := compEnv scope C X.env) kind (gs C) ?_
    apply Calls.loadGlobal_builtin (by show s3.heap.Ns X.env.globals _; rw [I1.ok.glob]; exact I1.ok.mod.glob.keeps bk) hm (by show s3.heap.Ns X.env.builtins _; rw [I1.ok.blt]; exact h1.keeps bk) ((h2 "str" (by decide)).trans PySem.Pv.boot_str)
    refine PyProof.Rows.callWith_type1 ?_
    apply Calls.spliced_cons
    apply wpAny_Name ?_ dbx
    apply wpAny_loadName_local (env := compEnv scope C X.env) kind (ls C) ns mx
    apply Calls.spliced_nil
    exact PySem.P.str_of_str ⟨⟨_, _, rfl, rfl⟩, ⟨s3.heap, s3.toks, rfl, fun _ _ e => e⟩⟩
  · intro D h' tk ys vs nD _ ⟨n, pl⟩ hlen hP hF hk
    have nD1 : s1.heap.get? D = none := by
      cases z : s1.heap.get? D with
      | none => rfl
      | some o => rw [Heap.get?_push_of_some _ z] at nD; cases nD
    have hn := I1.hok.gone nD1
    have vs' : vs.filter (fun _ => true) = vs := List.filter_eq_self.mpr fun _ _ => rfl
    rw [vs'] at hF
    have hval : Vals (zs.map V.str) ys.toList := vals_strs (by rw [← hF.length, hlen, List.size_toArray, len]) fun j hj => by
      have hjv : j < vs.length := by rw [hlen, List.size_toArray, len]; exact hj
      obtain ⟨y, ey, z, t, e1, e2⟩ := pair_at hF j vs[j] (by simp [hjv])
      obtain ⟨t2, e3⟩ := strs_at2 hst (i := j) (v := vs[j]) (by simpa using hP j vs[j] (by simp [hjv]))
      rw [e1] at e3
      cases e3
      exact ⟨t, by rw [ey, e2]⟩
    refine ⟨.ref D, _, I1.laidN (t' := tk) (o := .lst (zs.map V.str)) (fun b o e => hk b o (off e) (Heap.get?_push_of_some _ e)) nD1 hn ⟨by rw [List.length_map, sizeLine_eq]; omega, ys.toList, n, hval, pl⟩, rfl, q D hn⟩
theorem hot_suite {X : Cx} {a : Addr} {oe : Obj} {cls : Value} {d : Option Addr} (hA : X.A.handled = some (.ref a)) (hp : (a, oe) ∈ X.pn) (hz : L2N.Zn cls d oe) (hf : ∃ vs, oe.data = .fields vs) : HotC X :=
  ⟨(a, oe), ⟨hA, hf.elim fun vs e => ⟨vs, e, hz.2.2 vs e⟩⟩, hp⟩
end Lo
set_option Elab.async false
set_option linter.all false
set_option maxRecDepth 100000
set_option maxHeartbeats 4000000
local macro_rules | `(tactic| fail "lo_ne") => `(tactic| first
  | assumption
  | exact Ne.symm (by assumption))
local macro_rules | `(tactic| fail "lo_hq") => `(tactic| ((with_reducible show @Eq (Option L2.HO) _ _); first
  | (with_reducible exact L2.upd_same)
  | (with_reducible assumption)
  | exact Lo.sget (by with_reducible assumption) (by fail "lo_hq")
  | exact Lo.kget (by with_reducible assumption) (by fail "lo_ne") (by fail "lo_hq")
  | ((with_reducible show L2.upd _ _ _ _ = _); exact Lo.une (by fail "lo_ne") (by fail "lo_hq"))
  | assumption))
local macro_rules | `(tactic| fail "lo_R") => `(tactic| first
  | (with_reducible assumption)
  | exact Lo.rsame (by with_reducible assumption) (by fail "lo_R"))
local macro_rules | `(tactic| fail "lo_F") => `(tactic| first
  | (with_reducible assumption)
  | exact Lo.fsame (by with_reducible assumption) (by fail "lo_F")
  | exact Lo.tsame (by with_reducible assumption) (by fail "lo_F"))
local macro_rules | `(tactic| fail "lo_S") => `(tactic| first
  | (with_reducible assumption)
  | exact Lo.strans (by with_reducible assumption) (by fail "lo_S")
  | exact L2.Same.refl _)
local macro_rules | `(tactic| fail "lo_hp") => `(tactic| first
  | ((with_reducible show L2.SqT _ _ _ _); first | exact L2.SqT.of (by fail "lo_hq") | assumption)
  | ((with_reducible show L2.SqL _ _ _ _); first | exact L2.SqL.of (by fail "lo_hq") | assumption | exact L2.Same.seq (by assumption) (by fail "lo_hp")))
local macro_rules | `(tactic| fail "lo_mok") => `(tactic| first
  | exact Lo.mok_r (by decide)
  | exact Lo.mok_l (by decide)
  | exact Lo.mok_r (by omega)
  | exact Lo.mok_l (by omega)
  | assumption)
local macro_rules | `(tactic| fail "lo_cond") => `(tactic| first
  | (show PySem.IntMulOk _ _; fail "lo_mok")
  | (show (0 : Int) < _; first | decide | omega | assumption)
  | (show L2.CPow _ _; exact ⟨by decide, by decide, by first | decide | omega⟩)
  | (show Lo.CDivA _ _; exact ⟨by first | assumption | omega, by assumption⟩)
  | (show L2.CDivW _ _; exact ⟨by first | decide | omega, by first | decide | assumption⟩))
local macro_rules | `(tactic| fail "lo_lk") => `(tactic| ((with_reducible show @Eq (Option L2.V) _ _); first
  | exact Lo.lk0
  | exact Lo.lkn
  | exact Lo.lk1 (by decide +kernel) (by fail "lo_lk")))
/- one step of a reading that has one way only -/
local macro_rules | `(tactic| fail "lo_rd1") => `(tactic| first
  | (refine ⟨_, rfl, ?_⟩)
  | (refine ⟨_, _, rfl, rfl, (by fail "lo_cond"), ?_⟩)
  | (refine ⟨_, _, rfl, rfl, ?_⟩)
  | (refine ⟨_, _, _, _, rfl, rfl, (by fail "lo_hp"), Lo.ix_c (by rfl), ?_⟩)
  | (refine ⟨_, _, _, _, rfl, rfl, (by fail "lo_hq"), (by rfl), ?_⟩)
  | (refine ⟨_, _, _, _, _, rfl, (by fail "lo_hq"), (by fail "lo_cl"), (by fail "lo_na"), (by fail "lo_lk"), ?_⟩)
  | (refine ⟨_, _, _, _, rfl, (by fail "lo_hq"), (by fail "lo_cl"), (by fail "lo_na"), Nat.le_of_ble_eq_true rfl, ?_⟩)
  | (refine ⟨_, _, _, rfl, (by fail "lo_hq"), (by fail "lo_lk"), ?_⟩)
  | ((with_reducible show L2.rEqD _ (L2.V.ref _) (L2.V.ref _) _ _); refine Lo.eqT (by fail "lo_hq") (by fail "lo_hq") ?_)
  | ((with_reducible show L2.rNeD _ (L2.V.ref _) (L2.V.ref _) _ _); refine Lo.neT (by fail "lo_hq") (by fail "lo_hq") ?_)
  | (refine ⟨Or.inl ⟨rfl, _, (by fail "lo_hp")⟩, ?_⟩)
  | (refine Or.inl ⟨_, rfl, ?_⟩)
  | (refine Or.inr ⟨_, rfl, ?_⟩)
  | (refine ⟨rfl, ?_⟩)
  | (refine ⟨_, _, rfl, Or.inl (by fail "lo_hp"), ?_⟩)
  | (refine ⟨_, _, rfl, (by fail "lo_hp"), rfl, ?_⟩)
  | (refine ⟨_, _, rfl, ?_⟩)
  | (refine ⟨⟨_, (by fail "lo_hp")⟩, ?_⟩)
  | (refine ⟨Lo.line_le (Nat.le_of_ble_eq_true rfl), ?_⟩)
  | (refine ⟨⟨_, rfl⟩, _, rfl, rfl, True.intro, ?_⟩)
  | (with_reducible show L2.tNil _ _ _; dsimp only [L2.tNil]))
/- as many such steps as there are -/
local macro_rules | `(tactic| fail "rd") => `(tactic| repeat fail "lo_rd1")

namespace Lo
open PySem PySem.Spec PyProof.Rows L2
def top (i : Nat) : Stmt := PySem.Challenge.pw_lotcosts_k22_forms_in_order_and_at_price.main.body.getD i (.Pass ⟨0, 0, 0, 0⟩)
structure Txt (K : PySem.W.Frag) (mg : Str → Option Value) (ca : Nat → Addr) : Prop where
  b_abs : mg "abs" = none
  b_all : mg "all" = none
  b_dict : mg "dict" = none
  b_int : mg "int" = none
  b_isinstance : mg "isinstance" = none
  b_len : mg "len" = none
  b_list : mg "list" = none
  b_min : mg "min" = none
  b_range : mg "range" = none
  b_sorted : mg "sorted" = none
  b_str : mg "str" = none
  gcd : mg "gcd" = some (.builtin "math.gcd")
  c__LONGEST : ∃ t, mg "_LONGEST" = some (.int 12 t)
  g_CostError : mg "CostError" = some (.ref (ca 0))
  g_NoRatio : mg "NoRatio" = some (.ref (ca 1))
  kp_NoRatio : PySem.W.keepIn K (.ref (ca 1)) = true
  ex_NoRatio : PySem.W.excIn K (ca 1) [.type "ValueError", .type "Exception", .type "BaseException", .type "object"] "ValueError.__new__" = true
  sb_NoRatio : PySem.W.subIn K (.ref (ca 1)) (.type "BaseException") = some true
  ty_NoRatio : PySem.W.typeIn K (.ref (ca 1)) = some (.type "type")
  g_BadName : mg "BadName" = some (.ref (ca 4))
  te_BadName : PySem.W.exmOne K (.ref (ca 4)) (.ref (ca 4)) = some true
  ec_BadName : L2.ExcC K (ca 4)
  ox_BadName : L2.OexC K (ca 4)
  xf_BadName : L2.XfC K (ca 4)
  nf_BadName_name : PySem.W.findIn K (.ref (ca 4)) "name" = some none
  g_NoPrice : mg "NoPrice" = some (.ref (ca 5))
  te_NoPrice : PySem.W.exmOne K (.ref (ca 5)) (.ref (ca 5)) = some true
  ec_NoPrice : L2.ExcC K (ca 5)
  ox_NoPrice : L2.OexC K (ca 5)
  xf_NoPrice : L2.XfC K (ca 5)
  nf_NoPrice_name : PySem.W.findIn K (.ref (ca 5)) "name" = some none
  g_Negative : mg "Negative" = some (.ref (ca 6))
  te_Negative : PySem.W.exmOne K (.ref (ca 6)) (.ref (ca 6)) = some true
  ec_Negative : L2.ExcC K (ca 6)
  ox_Negative : L2.OexC K (ca 6)
  xf_Negative : L2.XfC K (ca 6)
  nf_Negative_name : PySem.W.findIn K (.ref (ca 6)) "name" = some none
  g_Ratio : mg "Ratio" = some (.ref (ca 2))
  cl_Ratio : Cls K (ca 2)
  na_Ratio_top : NoAttr K (ca 2) "top"
  na_Ratio_bottom : NoAttr K (ca 2) "bottom"
  ic_Ratio : PySem.W.findIn K (.ref (ca 2)) "__class__" = some (some (.builtin "object.__class__"))
  in_Ratio : PySem.W.specialIn K (.builtin "object.__class__") "__get__" = some (some (.builtin "getset_descriptor.__get__"))
  it_Ratio : PySem.W.takesIn K (.builtin "object.__class__") = some true
  im_Ratio : PySem.W.mroIn K (ca 2) (.type "object") = some true
  ar_Ratio : Arith K (ca 2)
  g_Form : mg "Form" = some (.ref (ca 3))
  cl_Form : Cls K (ca 3)
  na_Form__shares : NoAttr K (ca 3) "_shares"
  ar_Form : Arith K (ca 3)
  ki_BadName_CostError : PySem.W.kitOne K (.ref (ca 4)) (.ref (ca 0)) = some true
  ki_Negative_CostError : PySem.W.kitOne K (.ref (ca 6)) (.ref (ca 0)) = some true
  ki_NoPrice_CostError : PySem.W.kitOne K (.ref (ca 5)) (.ref (ca 0)) = some true
  ki_int_Ratio : PySem.W.kitOne K (.type "int") (.ref (ca 2)) = some false
  tx_Negative_NoPrice : PySem.W.exmOne K (.ref (ca 6)) (.ref (ca 5)) = some false
local macro_rules | `(tactic| fail "lo_cl") => `(tactic| ((with_reducible show L2.Cls _ _); first
  | exact (show Txt _ _ _ by assumption).cl_Ratio
  | exact (show Txt _ _ _ by assumption).cl_Form))
local macro_rules | `(tactic| fail "lo_na") => `(tactic| ((with_reducible show L2.NoAttr _ _ _); first
  | exact (show Txt _ _ _ by assumption).na_Ratio_top
  | exact (show Txt _ _ _ by assumption).na_Ratio_bottom
  | exact (show Txt _ _ _ by assumption).na_Form__shares))
section
variable {P : Program} {w : World} {K : PySem.W.Frag} {mg : Str → Option Value} {base : Heap} {ca : Nat → Addr}
abbrev s_l_bag : Stmt := top 18
theorem sc_l_bag : FnScope ["_law_script"] ["_law_script"] (defScope s_l_bag) := ⟨rfl, rfl, rfl, by decide +kernel, rfl, by decide +kernel, by decide +kernel⟩
def sp_l_bag (K : PySem.W.Frag) (_ : Nat → Addr) : Sp := fun vs H Q _ => ∃ (a : Addr) (ns : List Int), vs = [.ref a] ∧ SqL K H a (ns.map V.int) ∧ ∀ (L b : Addr) (H' : Hp), H b = none → H L = none → Same H H' → Bag H' L b → Q (.ref b) H'
theorem ok_l_bag {f : Addr} {fd : FuncData} (F : Fun K "_law_bag" "_law_bag" s_l_bag f fd) (T : Txt K mg ca)  : FnOk P w K mg base (L2N.CX P w) 1 f fd ["_law_script"] (sp_l_bag K ca) := by
  refine okN F sc_l_bag (fun vs H Q E h => ?_) (fun cdv A outer s H vs Q E hr h => ?_)
  · obtain ⟨_, _, rfl, _⟩ := h
    rfl
  · obtain ⟨a, ns, rfl, hs, k⟩ := h
    refine ⟨_, pss_one (ps_ret (pe_lst (pa_cons (pe_callTy call_list_of (by rfl) T.b_list (by decide +kernel) (pa_cons (pv 0) pa_nil)) (pa_cons pe_int (pa_cons pe_int (pa_cons pe_int (pa_cons pe_int pa_nil))))))), ?_⟩
    fail "rd"
    intro L n_L
    generalize g_H1 : upd _ L _ = H1
    obtain ⟨s_H1, e_L⟩ := gen_new n_L g_H1
    clear g_H1
    fail "rd"
    intro b n_b
    generalize g_H2 : upd _ b _ = H2
    obtain ⟨s_H2, e_b⟩ := gen_new n_b g_H2
    clear g_H2
    exact k L b H2 (s_H1.free n_b) n_L (s_H1.trans s_H2) (Bag.mk (i := 0) e_b (s_H2 _ _ e_L) (ne_of_none e_L n_b))

abbrev s_l_draw : Stmt := top 19
theorem sc_l_draw : FnScope ["_law_bag_here", "_law_size", "_law_cell", "_law_digit", "_law_mixed_here"] ["_law_bag_here", "_law_size"] (defScope s_l_draw) := ⟨rfl, rfl, rfl, by decide +kernel, rfl, by decide +kernel, by decide +kernel⟩
def sp_l_draw (_ : PySem.W.Frag) (_ : Nat → Addr) : Sp := fun vs H Q _ => ∃ (b : Addr) (n : Int), vs = [.ref b, .int n] ∧ ∃ L : Addr, Bag H L b ∧ 0 < n ∧ n.natAbs.log2 < 9000 ∧ ∀ (d : Int) (H' : Hp), 0 ≤ d → d < n → Keep b H H' → Bag H' L b → Q (.int d) H'
theorem ok_l_draw {f : Addr} {fd : FuncData} (F : Fun K "_law_draw" "_law_draw" s_l_draw f fd) (T : Txt K mg ca)  : FnOk P w K mg base (L2N.CX P w) 1 f fd ["_law_bag_here", "_law_size"] (sp_l_draw K ca) := by
  refine okN F sc_l_draw (fun vs H Q E h => ?_) (fun cdv A outer s H vs Q E hr h => ?_)
  · obtain ⟨_, _, rfl, _⟩ := h
    rfl
  · obtain ⟨b, n, rfl, L, hB, h0, hn, k⟩ := h
    refine ⟨_, pss_cons (ps_asg (pe_op op_add (pe_ix ix_list (pv 0) pe_int (fun _ _ => rfl)) pe_int) (pg_sub (pv 0) pe_int set_list)) (Evl.pss_cut (ps_if (PW.pt (pw_and (pt_cmpR op_eq (pe_ix ix_list (pv 0) pe_int (fun _ _ => rfl)) pe_int (nomark _)) (pw_and1 (pt_cmpR op_lt (pe_ix ix_list (pv 0) pe_int (fun _ _ => rfl)) (pe_callB call_len_seq (by rfl) T.b_len (by decide +kernel) (pa_cons (pe_ix ix_list (pv 0) pe_int (fun _ _ => rfl)) pa_nil)) (nomark _))))) (pss_cons (ps_set (i := 2) sc_l_draw.nd rfl (Or.inl rfl) (pe_ix ix_list (pe_ix ix_list (pv 0) pe_int (fun _ _ => rfl)) (pe_ix ix_list (pv 0) pe_int (fun _ _ => rfl)) (fun _ _ => rfl))) (pss_cons (ps_asg (pe_op op_add (pe_ix ix_list (pv 0) pe_int (fun _ _ => rfl)) pe_int) (pg_sub (pv 0) pe_int set_list)) (pss_cons (ps_asg (pe_op op_mulI (pe_op op_add (pe_op op_mulI pe_int (pe_callB call_abs (by rfl) T.b_abs (by decide +kernel) (pa_cons (pv 2) pa_nil))) (pe_callTy call_int1 (by rfl) T.b_int (by decide +kernel) (pa_cons (pe_cmpR op_lt (pv 2) pe_int (nomark _)) pa_nil))) (pe_callTy call_int1 (by rfl) T.b_int (by decide +kernel) (pa_cons (pe_cmpR op_ge (pe_callB call_abs (by rfl) T.b_abs (by decide +kernel) (pa_cons (pv 2) pa_nil)) (pe_op op_pow pe_int pe_int) (nomark _)) pa_nil))) (pg_sub (pv 0) pe_int set_list)) (pss_one (ps_asg (pe_op op_mod (pe_callTy call_int1 (by rfl) T.b_int (by decide +kernel) (pa_cons (pe_op op_add (pe_op op_add (pe_op op_mulI (pe_ix ix_list (pv 0) pe_int (fun _ _ => rfl)) pe_int) (pe_op op_mulI (pv 2) pe_int)) pe_int) pa_nil)) pe_int) (pg_sub (pv 0) pe_int set_list)))))) pss_nil) (pss_cons (ps_set (i := 3) sc_l_draw.nd rfl (Or.inl rfl) (pe_op op_mod (pe_callTy call_int1 (by rfl) T.b_int (by decide +kernel) (pa_cons (pe_ix ix_list (pv 0) pe_int (fun _ _ => rfl)) pa_nil)) (pv 1))) (pss_cons (ps_if (pt_cmpR op_gt (pe_ix ix_list (pv 0) pe_int (fun _ _ => rfl)) pe_int (nomark _)) (pss_cons (ps_asg (pe_op op_fdivW (pe_ix ix_list (pv 0) pe_int (fun _ _ => rfl)) (pv 1)) (pg_sub (pv 0) pe_int set_list)) (pss_one (ps_ret (pv 3)))) pss_nil) (pss_cons (ps_set (i := 4) sc_l_draw.nd rfl (Or.inl rfl) (pe_op op_mod (pe_callTy call_int1 (by rfl) T.b_int (by decide +kernel) (pa_cons (pe_op op_add (pe_ix ix_list (pv 0) pe_int (fun _ _ => rfl)) (pe_op op_mulI (pe_ix ix_list (pv 0) pe_int (fun _ _ => rfl)) pe_int)) pa_nil)) pe_int)) (pss_cons (ps_set (i := 4) sc_l_draw.nd rfl (Or.inl rfl) (pe_op op_mod (pe_callTy call_int1 (by rfl) T.b_int (by decide +kernel) (pa_cons (pe_op op_add (pe_op op_add (pe_op op_pow (pv 4) pe_int) (pe_op op_mulI (pe_ix ix_list (pv 0) pe_int (fun _ _ => rfl)) pe_int)) pe_int) pa_nil)) pe_int)) (pss_one (ps_ret (pe_op op_mod (pe_op op_fdivW (pe_op op_mod (pe_callTy call_int1 (by rfl) T.b_int (by decide +kernel) (pa_cons (pe_op op_pow (pv 4) pe_int) pa_nil)) pe_int) pe_int) (pv 1))))))))), ?_⟩
    obtain ⟨ns, i, big, mix, cnt, hb, hL, hne⟩ := hB
    iterate 5 fail "lo_rd1"
    generalize g_H1 : upd _ b _ = H1
    obtain ⟨k_H1, e_H1⟩ := gen_put g_H1
    clear g_H1
    refine ⟨fun σ' H' => ∃ (v : Option V) (i : Nat) (big mix cnt : Int), σ' = [some (.ref b), some (.int n), v, none, none] ∧ Keep b H H' ∧ H' b = some (.lst [.ref L, .int i, .int big, .int mix, .int cnt]), ?_, ?_⟩
    · fail "rd"
      refine iteI (fun z1 => ?_) (fun z1 => ?_)
      · fail "rd"
        refine iteD (fun z2 => ?_) (fun z2 => ?_)
        · fail "rd"
          have hi : i < ns.length := by
            have z3 : (i : Int) < ((ns.map V.int).length : Nat) := z2
            rw [List.length_map] at z3
            omega
          refine ⟨_, _, _, _, rfl, rfl, (by fail "lo_hp"), atI_nat (v := .int ns[i]) (by simp [hi]), ?_⟩
          fail "rd"
          exact ⟨_, i + 1, _, _, _, rfl, ((k_H1.trans keep_upd).trans keep_upd).trans keep_upd, upd_same⟩
        · exact ⟨_, _, _, _, _, rfl, k_H1, e_H1⟩
      · exact ⟨_, _, _, _, _, rfl, k_H1, e_H1⟩
    · rintro σ' H' ⟨v, i, big, mix, cnt, rfl, kp, hb'⟩
      have hL' : H' L = some (.lst (ns.map V.int)) := kp _ _ hL hne
      fail "rd"
      refine iteD (fun z3 => ?_) (fun z3 => ?_)
      · fail "rd"
        exact k _ _ (Int.emod_nonneg _ (by omega)) (Int.emod_lt_of_pos _ h0) (kp.trans keep_upd) (Bag.mk upd_same (une hne hL') hne)
      · fail "rd"
        exact k _ _ (Int.emod_nonneg _ (by omega)) (Int.emod_lt_of_pos _ h0) kp (Bag.mk hb' hL' hne)

abbrev s_l_names : Stmt := top 20
theorem sc_l_names : FnScope ["_law_bag_here", "_law_count", "_law_words", "_law_letters", "_law_size", "_law_k", "_law_stem", "_law_where", "_law_shift", "_law_longer", "_law_names_here", "_law_name", "_law_spot", "_law_word"] ["_law_bag_here", "_law_count", "_law_words"] (defScope s_l_names) := ⟨rfl, rfl, rfl, by decide +kernel, rfl, by decide +kernel, by decide +kernel⟩
def sp_l_names (_ : PySem.W.Frag) (_ : Nat → Addr) : Sp := fun vs H Q _ => ∃ (b lw : Addr) (n : Nat) (ws : List Str), vs = [.ref b, .int n, .ref lw] ∧ ∃ L : Addr, Bag H L b ∧ H lw = some (.lst (ws.map V.str)) ∧ lw ≠ b ∧ (∀ z ∈ ws, NameOk z) ∧ ws ≠ [] ∧ ws.length < 1000 ∧ 1 ≤ n ∧ n ≤ 60 ∧
  ∀ (N : List Str) (p : Addr) (H' : Hp), N.length = n → (∀ z ∈ N, NameOk z) → H p = none → Keep b H H' → Bag H' L b → H' p = some (.lst (N.map V.str)) → Q (.ref p) H'
theorem ok_l_names {f : Addr} {fd : FuncData} (F : Fun K "_law_names" "_law_names" s_l_names f fd) (T : Txt K mg ca) (O__law_draw : Own P w K mg base 1 "_law_draw" ["_law_bag_here", "_law_size"] (sp_l_draw K ca)) : FnOk P w K mg base (L2N.CX P w) 2 f fd ["_law_bag_here", "_law_count", "_law_words"] (sp_l_names K ca) := by
  refine okN F sc_l_names (fun vs H Q E h => ?_) (fun cdv A outer s H vs Q E hr h => ?_)
  · obtain ⟨_, _, _, _, rfl, _⟩ := h
    rfl
  · obtain ⟨b, lw, n, ws, rfl, L, hB, hw, nw, okw, w0, w1, n1, n60, k⟩ := h
    refine ⟨_, pss_cons (ps_set (i := 3) sc_l_names.nd rfl (Or.inr rfl) pe_str) (pss_cons (ps_set (i := 4) sc_l_names.nd rfl (Or.inl rfl) (pe_ix ix_list (pe_lst (pa_cons pe_int (pa_cons pe_int (pa_cons pe_int (pa_cons pe_int (pa_cons pe_int pa_nil)))))) (pe_own O__law_draw (hr.mono (by decide)) rfl pas0 (pa_cons (pv 0) (pa_cons pe_int pa_nil))) (fun _ _ => rfl))) (pss_cons (ps_set (i := 6) sc_l_names.nd rfl (Or.inl rfl) (pe_join pe_str (pe_lc (own := [("_law_k", 5)]) (g := gName 5) (tt := tYes) rfl sc_l_names.nd (pi_range1 rfl T.b_range (pa_cons (pv 4) pa_nil)) (blkOk_by (N := ["_law_bag_here", "_law_count", "_law_words", "_law_letters", "_law_size", "_law_k", "_law_stem", "_law_where", "_law_shift", "_law_longer", "_law_names_here", "_law_name", "_law_spot", "_law_word"]) (sc := defScope s_l_names) (by decide +kernel)) (fun _ _ _ _ _ => pg_name (i := 5) sc_l_names.nd rfl (Or.inl rfl)) (fun _ _ _ _ _ => pts_nil) (fun _ _ _ _ _ => pe_ix ix_str (pv 3) (pe_own O__law_draw (hr.mono (by decide)) rfl pas0 (pa_cons (pv 0) (pa_cons pe_int pa_nil))) (fun _ _ => rfl))))) (pss_cons (ps_set (i := 7) sc_l_names.nd rfl (Or.inl rfl) (pe_own O__law_draw (hr.mono (by decide)) rfl pas0 (pa_cons (pv 0) (pa_cons (pe_op op_add (pv 4) pe_int) pa_nil)))) (pss_cons (ps_set (i := 8) sc_l_names.nd rfl (Or.inl rfl) (pe_own O__law_draw (hr.mono (by decide)) rfl pas0 (pa_cons (pv 0) (pa_cons pe_int pa_nil)))) (pss_cons (ps_set (i := 9) sc_l_names.nd rfl (Or.inl rfl) (pe_own O__law_draw (hr.mono (by decide)) rfl pas0 (pa_cons (pv 0) (pa_cons pe_int pa_nil)))) (pss_cons (ps_set (i := 10) sc_l_names.nd rfl (Or.inl rfl) (pe_lst pa_nil)) (pss_cons (ps_for (passes_of rfl) rfl (pi_range1 rfl T.b_range (pa_cons (pv 1) pa_nil)) (pg_name (i := 5) sc_l_names.nd rfl (Or.inl rfl)) (pss_cons (ps_set (i := 11) sc_l_names.nd rfl (Or.inl rfl) (pe_op op_add_str (pe_op op_add_str (pe_slice sl_str (pv 6) po_none (po_some (pv 7))) (pe_ix ix_str (pv 3) (pe_op op_mod (pe_callTy call_int1 (by rfl) T.b_int (by decide +kernel) (pa_cons (pe_op op_add (pv 8) (pe_op op_mulI pe_int (pv 5))) pa_nil)) pe_int) (fun _ _ => rfl))) (pe_slice sl_str (pv 6) (po_some (pv 7)) po_none))) (pss_one (ps_expr (pe_bm PySem.F.plainAttrs_list PySem.F.slot_list_append PySem.F.type_list_append mt_append (pv 10) (pa_cons (pe_op op_add_str (pv 11) (pe_op op_mulS1 (pe_ix ix_str (pv 3) (pv 8) (fun _ _ => rfl)) (pe_callTy call_int1 (by rfl) T.b_int (by decide +kernel) (pa_cons (pe_cmpR op_eq (pe_op op_mod (pe_callTy call_int1 (by rfl) T.b_int (by decide +kernel) (pa_cons (pv 5) pa_nil)) pe_int) (pv 9) (nomark _)) pa_nil)))) pa_nil)))))) (Evl.pss_cut (ps_if (PW.pt (pw_and (pt_cmpR op_gt (pv 1) pe_int (nomark _)) (pw_and (pt_cmpR op_lt (pv 4) pe_int (nomark _)) (pw_and1 (pt_cmpR op_eq (pv 9) pe_int (nomark _)))))) (pss_one (ps_asg (pe_op op_add_str (pe_ix ix_list (pv 10) pe_int (fun _ _ => rfl)) (pe_ix ix_str (pv 3) (pe_own O__law_draw (hr.mono (by decide)) rfl pas0 (pa_cons (pv 0) (pa_cons pe_int pa_nil))) (fun _ _ => rfl))) (pg_sub (pv 10) pe_int set_list))) pss_nil) (pss_cons (ps_set (i := 12) sc_l_names.nd rfl (Or.inl rfl) (pe_own O__law_draw (hr.mono (by decide)) rfl pas0 (pa_cons (pv 0) (pa_cons (pe_op op_mulI pe_int (pv 1)) pa_nil)))) (pss_cons (ps_set (i := 13) sc_l_names.nd rfl (Or.inl rfl) (pe_ix ix_list (pv 2) (pe_own O__law_draw (hr.mono (by decide)) rfl pas0 (pa_cons (pv 0) (pa_cons (pe_callB call_len_seq (by rfl) T.b_len (by decide +kernel) (pa_cons (pv 2) pa_nil)) pa_nil))) (fun _ _ => rfl))) (pss_cons (ps_if (PW.pt (pw_and (pt_cmpR op_lt (pv 12) (pv 1) (nomark _)) (pw_and1 (pt_cmpR op_notIn_seq (pv 13) (pv 10) (by with_unfolding_all rfl))))) (pss_one (ps_asg (pv 13) (pg_sub (pv 10) (pv 12) set_list))) pss_nil) (pss_one (ps_ret (pv 10)))))))))))))), ?_⟩
    fail "rd"
    intro l n_l
    generalize g_H1 : upd _ l _ = H1
    obtain ⟨s_H1, e_l⟩ := gen_new n_l g_H1
    clear g_H1
    have B1 := hB.same s_H1
    have lb := hB.ne n_l
    fail "rd"
    refine ⟨L, B1, by decide, by decide, fun c H2 c0 c1 k2 B2 => ?_⟩
    have e_l : H2 l = some (.lst [.int 0, .int 1, .int 2, .int 3, .int 10]) := k2 _ _ e_l lb
    obtain ⟨size, hs, s0⟩ : ∃ m : Nat, atI [V.int 0, .int 1, .int 2, .int 3, .int 10] c = some (.int m) ∧ m ≤ 10 := by
      have hc : c = 0 ∨ c = 1 ∨ c = 2 ∨ c = 3 ∨ c = 4 := by omega
      rcases hc with rfl | rfl | rfl | rfl | rfl
      · exact ⟨0, ix_c rfl, by decide⟩
      · exact ⟨1, ix_c rfl, by decide⟩
      · exact ⟨2, ix_c rfl, by decide⟩
      · exact ⟨3, ix_c rfl, by decide⟩
      · exact ⟨10, ix_c rfl, by decide⟩
    refine ⟨_, _, _, _, rfl, rfl, SqL.of e_l, hs, ?_⟩
    refine ⟨⟨_, rfl⟩, ?_⟩
    fail "rd"
    have e62 : (2 : Int) ^ 62 = 4611686018427387904 := by decide
    refine ⟨by omega, by omega, fun D nD => lc_range (lo := 0) (n := size) (fun i H' => ∃ acc : List Str, H' D = some (.lst (acc.map V.str)) ∧ acc.length = i ∧ (∀ z ∈ acc, Sign z) ∧ Keep b H2 H' ∧ Bag H' L b)
      ⟨[], upd_same, rfl, fun _ m => (nomatch m), .of (same_upd nD), B2.same (same_upd nD)⟩ ?_ ?_⟩
    · rintro i H3 hi ⟨acc, hD, hl, hs, k3, B3⟩
      have nDb : D ≠ b := B2.ne nD
      have nDL : D ≠ L := B2.neL nD
      fail "rd"
      refine ⟨L, B3, by decide, by decide, fun d H4 d0 d1 k4 B4 => ?_⟩
      fail "rd"
      refine rIxS_abc d0 d1 ?_
      have hD4 := k4 _ _ hD nDb
      refine ⟨_, hD4, by rw [List.length_map]; exact size_line (by omega), acc ++ [⟨#[97 + d.toNat]⟩], by rw [strs_snoc]; exact upd_same, by rw [List.length_append, hl]; rfl, fun z m => ?_, ?_, ?_⟩
      · rcases List.mem_append.mp m with m | m
        · exact hs z m
        · cases List.mem_singleton.mp m
          exact sign_abc d1
      · exact keep_new (k3.trans k4) nD
      · exact B4.keep keep_upd nDb nDL
    · rintro H3 ⟨acc, hD, hl, hs, k3, B3⟩
      obtain ⟨stem, hst⟩ : ∃ z, Txt.join Str.empty acc = z := ⟨_, rfl⟩
      obtain ⟨j1, j2⟩ := join_signs hs
      rw [hst] at j1 j2
      refine ⟨_, D, acc, rfl, rfl, .inl (SqL.of hD), ?_, ?_⟩
      · have e : acc.map (·.length) = acc.map fun _ => 1 := List.map_congr_left fun z m => (hs z m).len
        have e2 : (Str.ofString "").length = 0 := by decide +kernel
        rw [e, e2, List.map_const', List.sum_replicate_nat]
        omega
      have e3 : Txt.join (Str.ofString "") acc = stem := by
        rw [← hst]
        congr 1
      rw [e3]
      clear e3 hst hs hD nD
      fail "rd"
      have z64 : ∀ x : Int, 0 ≤ x → x ≤ 1000 → x.natAbs.log2 < 9000 := fun x h0 h1 => lg164 (Nat.lt_of_le_of_lt (show x.natAbs ≤ 1000 by omega) (by decide))
      refine ⟨L, B3, by omega, z64 _ (by omega) (by omega), fun wh H4 _ _ k4 B4 => ?_⟩
      fail "rd"
      refine ⟨L, B4, by decide, by decide, fun sh H5 sh0 sh1 k5 B5 => ?_⟩
      fail "rd"
      refine ⟨L, B5, by decide, by decide, fun lo H6 _ _ k6 B6 => ?_⟩
      fail "rd"
      intro p n_p
      generalize g_H7 : upd _ p _ = H7
      obtain ⟨s_H7, e_p⟩ := gen_new n_p g_H7
      clear g_H7
      have B7 := B6.same s_H7
      have pb := B6.ne n_p
      have pL := B6.neL n_p
      have k06 : Keep b H H6 := (((Keep.of s_H1).trans k2).trans k3).trans ((k4.trans k5).trans k6)
      have hp0 : H p = none := keep_free k06 n_p pb
      have kA : Keep b H H7 := k06.trans (.of s_H7)
      clear k06 k6 k5 k4 k3 k2 B6 B5 B4 B3 B2 B1 s_H7 n_p e_l n_l lb
      fail "rd"
      refine ⟨by omega, by omega, for_range (n := n) (fun i σ' H' => ∃ (N : List Str) (v1 v2 : Option V), σ' = [some (.ref b), some (.int n), some (.ref lw), some (.str (Str.ofString "abcdefghijklmnopqrstuvwxyz")), some (.int size), v1, some (.str stem), some (.int wh), some (.int sh), some (.int lo), some (.ref p), v2, none, none] ∧
          H' p = some (.lst (N.map V.str)) ∧ N.length = i ∧ (∀ z ∈ N, Lets z ∧ 0 < z.length ∧ z.length ≤ size + 2) ∧ Keep b H H' ∧ Bag H' L b) ⟨[], _, _, rfl, e_p, rfl, fun _ m => (nomatch m), kA, B7⟩ ?_ ?_⟩
      · rintro i σ' H' hi ⟨N, v1, v2, rfl, hp, hN, hz, kp, B⟩
        fail "rd"
        refine ⟨size_le (by omega), ?_⟩
        fail "rd"
        obtain ⟨ch, hch⟩ : ∃ c : Int, (sh + 7 * (0 + (i : Int))) % 26 = c := ⟨_, rfl⟩
        have ch0 : 0 ≤ ch := by rw [← hch]; exact Int.emod_nonneg _ (by decide)
        have ch1 : ch < 26 := by rw [← hch]; exact Int.emod_lt_of_pos _ (by decide)
        dsimp only
        rw [hch]
        refine rIxS_abc ch0 ch1 ?_
        have q1 := cutS_length stem none (some wh)
        have q2 := cutS_length stem (some wh) none
        have q3 := len_cuts (z := stem) (w := wh)
        have q4 : (⟨#[97 + ch.toNat]⟩ : Str).length = 1 := rfl
        refine ⟨_, _, rfl, rfl, size_le (by rw [q4]; omega), ?_⟩
        fail "rd"
        refine ⟨size_le (by omega), ?_⟩
        refine ⟨_, _, rfl, rfl, size_le (by rw [len_app, q4]; omega), ?_⟩
        fail "rd"
        refine rIxS_abc sh0 sh1 ?_
        fail "rd"
        refine ⟨by split <;> simp, fun w hw => ?_⟩
        obtain ⟨base, hbase⟩ : ∃ z, cutS stem none (some wh) ++ (⟨#[97 + ch.toNat]⟩ : Str) ++ cutS stem (some wh) none = z := ⟨_, rfl⟩
        have b1 : base.length = size + 1 := by rw [← hbase, len_app, len_app, q4]; omega
        have b2 : Lets base := by rw [← hbase]; exact lets_app (lets_app (lets_cut j1) (sign_abc ch1).lets) (lets_cut j1)
        have w1 : w.length ≤ 1 ∧ Lets w := by
          rcases hw with rfl | rfl
          · exact ⟨by decide, lets_nil⟩
          · exact ⟨Nat.le_refl _, (sign_abc sh1).lets⟩
        rw [hbase]
        refine ⟨_, _, rfl, rfl, size_le (by omega), ?_⟩
        fail "rd"
        have hle : N.length < 100 := by omega
        refine ⟨p, _, _, rfl, rfl, hp, by rw [List.length_map]; exact size_line (by omega), ?_⟩
        generalize g_H8 : upd _ p _ = H8
        obtain ⟨k_H8, e_H8⟩ := gen_put g_H8
        clear g_H8
        rw [strs_snoc] at e_H8
        refine ⟨N ++ [base ++ w], _, _, rfl, e_H8, by rw [List.length_append, hN]; rfl, fun z m => ?_, keep_put kp k_H8 hp0, B.keep k_H8 pb pL⟩
        rcases List.mem_append.mp m with m | m
        · exact hz z m
        · cases List.mem_singleton.mp m
          exact ⟨lets_app b2 w1.2, by rw [len_app]; omega, by rw [len_app]; omega⟩
      · rintro σ' H' ⟨N, v1, v2, rfl, hp, hN, hz, kp, B⟩
        refine ⟨fun σ' H' => ∃ (N : List Str) (v1 v2 : Option V), σ' = [some (.ref b), some (.int n), some (.ref lw), some (.str (Str.ofString "abcdefghijklmnopqrstuvwxyz")), some (.int size), v1, some (.str stem), some (.int wh), some (.int sh), some (.int lo), some (.ref p), v2, none, none] ∧
          H' p = some (.lst (N.map V.str)) ∧ N.length = n ∧ (∀ z ∈ N, NameOk z) ∧ Keep b H H' ∧ Bag H' L b, ?_, ?_⟩
        · have easy : ∃ (N : List Str) (u1 u2 : Option V), [some (.ref b), some (.int n), some (.ref lw), some (.str (Str.ofString "abcdefghijklmnopqrstuvwxyz")), some (.int size), v1, some (.str stem), some (.int wh), some (.int sh), some (.int lo), some (.ref p), v2, none, none] = [some (.ref b), some (.int n), some (.ref lw), some (.str (Str.ofString "abcdefghijklmnopqrstuvwxyz")), some (.int size), u1, some (.str stem), some (.int wh), some (.int sh), some (.int lo), some (.ref p), u2, none, none] ∧
              H' p = some (.lst (N.map V.str)) ∧ N.length = n ∧ (∀ z ∈ N, NameOk z) ∧ Keep b H H' ∧ Bag H' L b := ⟨N, v1, v2, rfl, hp, hN, fun z m => ⟨by have := (hz z m).2.2; omega, (hz z m).2.1, (hz z m).1⟩, kp, B⟩
          fail "rd"
          refine iteD (fun y1 => ?_) (fun _ => easy)
          fail "rd"
          refine iteD (fun y2 => ?_) (fun _ => easy)
          fail "rd"
          refine iteI (fun y3 => ?_) (fun _ => easy)
          fail "rd"
          obtain ⟨z0, hz0⟩ : ∃ z0, N[0]? = some z0 := ⟨N[0]'(by omega), List.getElem?_eq_getElem (by omega)⟩
          have hz0' := hz z0 (List.mem_of_getElem? hz0)
          refine ⟨_, _, _, _, rfl, rfl, SqL.of hp, ix_c (v := .str z0) (by show (N.map V.str)[0]? = _; rw [List.getElem?_map, hz0]; rfl), ?_⟩
          fail "rd"
          refine ⟨L, B, by decide, by decide, fun d H8 d0 d1 k8 B8 => ?_⟩
          fail "rd"
          refine rIxS_abc d0 d1 ?_
          have q4 : (⟨#[97 + d.toNat]⟩ : Str).length = 1 := rfl
          refine ⟨_, _, rfl, rfl, size_le (by rw [q4]; omega), ?_⟩
          have hp8 := k8 _ _ hp pb
          fail "rd"
          refine ⟨p, _, 1, 1, rfl, rfl, hp8, by unfold ixN; rw [if_pos (by decide), if_pos (by rw [List.length_map]; omega)]; rfl, ?_⟩
          generalize g_H9 : upd _ p _ = H9
          obtain ⟨k_H9, e_H9⟩ := gen_put g_H9
          clear g_H9
          rw [← List.map_set] at e_H9
          refine ⟨N.set 1 (z0 ++ ⟨#[97 + d.toNat]⟩), _, _, rfl, e_H9, by rw [List.length_set, hN], fun z m => ?_, keep_put (kp.trans k8) k_H9 hp0, B8.keep k_H9 pb pL⟩
          rcases List.mem_or_eq_of_mem_set m with m | rfl
          · exact ⟨by have := (hz z m).2.2; omega, (hz z m).2.1, (hz z m).1⟩
          · exact ⟨by rw [len_app, q4]; omega, by rw [len_app, q4]; omega, lets_app hz0'.1 (sign_abc d1).lets⟩
        · rintro σ' H' ⟨N, v1, v2, rfl, hp, hN, hz, kp, B⟩
          fail "rd"
          refine ⟨L, B, by omega, z64 _ (by omega) (by omega), fun spot H8 sp0 sp1 k8 B8 => ?_⟩
          have hw8 := k8 _ _ (kp _ _ hw nw) nw
          fail "rd"
          have hwl : (0 : Int) < (ws.length : Nat) := by have := List.length_pos_iff.mpr w0; omega
          have hwl2 : ((ws.map V.str).length : Int) = (ws.length : Nat) := by rw [List.length_map]
          refine ⟨L, B8, by rw [hwl2]; exact hwl, by rw [hwl2]; exact z64 _ (by omega) (by omega), fun d H9 d0 d1 k9 B9 => ?_⟩
          rw [hwl2] at d1
          have hw9 := k9 _ _ hw8 nw
          have hp9 := k9 _ _ (k8 _ _ hp pb) pb
          obtain ⟨m, rfl⟩ := Int.eq_ofNat_of_zero_le d0
          obtain ⟨wd, hwd⟩ : ∃ z, ws[m]? = some z := ⟨ws[m]'(by omega), List.getElem?_eq_getElem (by omega)⟩
          refine ⟨_, _, _, _, rfl, rfl, SqL.of hw9, atI_nat (v := .str wd) (by rw [List.getElem?_map, hwd]; rfl), ?_⟩
          have fin := k N p H9 hN hz hp0 ((kp.trans k8).trans k9) B9 hp9
          fail "rd"
          refine iteD (fun y1 => ?_) (fun _ => ?_)
          · fail "rd"
            refine ⟨List.all_eq_true.mpr fun x hx => by obtain ⟨z, _, rfl⟩ := List.mem_map.mp hx; rfl, ?_⟩
            rw [if_pos rfl]
            cases inV (.str wd) (N.map V.str) with
            | true =>
              fail "rd"
              exact fin
            | false =>
              fail "rd"
              obtain ⟨j, rfl⟩ := Int.eq_ofNat_of_zero_le sp0
              have hj : j < N.length := by omega
              refine ⟨p, _, j, j, rfl, rfl, hp9, by unfold ixN; rw [if_pos (by omega), if_pos (by rw [List.length_map]; omega)]; rfl, ?_⟩
              generalize g_H10 : upd _ p _ = H10
              obtain ⟨k_H10, e_H10⟩ := gen_put g_H10
              clear g_H10
              rw [← List.map_set] at e_H10
              fail "rd"
              refine k (N.set j wd) p H10 (by rw [List.length_set, hN]) (fun z m => ?_) hp0 (keep_put ((kp.trans k8).trans k9) k_H10 hp0) (B9.keep k_H10 pb pL) e_H10
              rcases List.mem_or_eq_of_mem_set m with m | rfl
              · exact hz z m
              · exact okw _ (List.mem_of_getElem? hwd)
          · fail "rd"
            exact fin

abbrev s_l_divisor : Stmt := top 23
theorem sc_l_divisor : FnScope ["_law_one", "_law_other", "_law_rest"] ["_law_one", "_law_other"] (defScope s_l_divisor) := ⟨rfl, rfl, rfl, by decide +kernel, rfl, by decide +kernel, by decide +kernel⟩
def sp_l_divisor (_ : PySem.W.Frag) (_ : Nat → Addr) : Sp := fun vs H Q _ => ∃ a b : Int, vs = [.int a, .int b] ∧ 0 ≤ a ∧ 0 ≤ b ∧ Q (.int ((Nat.gcd a.natAbs b.natAbs : Nat) : Int)) H
theorem ok_l_divisor {f : Addr} {fd : FuncData} (F : Fun K "_law_divisor" "_law_divisor" s_l_divisor f fd) (T : Txt K mg ca)  : FnOk P w K mg base (L2N.CX P w) 1 f fd ["_law_one", "_law_other"] (sp_l_divisor K ca) := by
  refine okN F sc_l_divisor (fun vs H Q E h => ?_) (fun cdv A outer s H vs Q E hr h => ?_)
  · obtain ⟨_, _, rfl, _⟩ := h
    rfl
  · obtain ⟨a, b, rfl, ha, hb, k⟩ := h
    refine ⟨_, pss_cons (ps_while (passes_of rfl) (pt_cmpR op_ne (pv 1) pe_int (nomark _)) (pss_cons (ps_set (i := 2) sc_l_divisor.nd rfl (Or.inl rfl) (pe_op op_mod (pe_callTy call_int1 (by rfl) T.b_int (by decide +kernel) (pa_cons (pv 0) pa_nil)) (pv 1))) (pss_cons (ps_set (i := 0) sc_l_divisor.nd rfl (Or.inl rfl) (pv 1)) (pss_one (ps_set (i := 1) sc_l_divisor.nd rfl (Or.inl rfl) (pv 2)))))) (pss_one (ps_ret (pv 0))), ?_⟩
    refine while_by (fun σ' H' => ∃ (x y : Int) (v : Option V), σ' = [some (.int x), some (.int y), v] ∧ H' = H ∧ 0 ≤ x ∧ 0 ≤ y ∧ Nat.gcd x.natAbs y.natAbs = Nat.gcd a.natAbs b.natAbs)
      (fun σ' _ => match σ' with | [_, some (.int y), _] => y.toNat | _ => 0) ⟨a, b, none, rfl, rfl, ha, hb, rfl⟩ ?_ ?_
    · rintro σ' H' ⟨x, y, v, rfl, rfl, hx, hy, hg⟩
      fail "rd"
      refine iteIn (fun z => ?_) (fun z => ?_)
      · fail "rd"
        have z1 : 0 < y := by omega
        refine ⟨⟨y, x % y, _, rfl, rfl, hy, Int.emod_nonneg _ z, ?_⟩, ?_⟩
        · obtain ⟨X, rfl⟩ := Int.eq_ofNat_of_zero_le hx
          obtain ⟨Y, rfl⟩ := Int.eq_ofNat_of_zero_le hy
          rw [← hg]
          show Nat.gcd Y (X % Y) = Nat.gcd X Y
          rw [Nat.gcd_comm X Y, Nat.gcd_rec Y X, Nat.gcd_comm]
        · have z2 := Int.emod_lt_of_pos x z1
          have z3 := Int.emod_nonneg x z
          show (x % y).toNat < y.toNat
          omega
      · subst z
        fail "rd"
        have e : (Nat.gcd a.natAbs b.natAbs : Nat) = x.natAbs := by rw [← hg]; exact Nat.gcd_zero_right _
        rw [e] at k
        have e2 : ((x.natAbs : Nat) : Int) = x := by omega
        rw [e2] at k
        exact k
    · rintro σ H Q Q' hq ⟨v, e, s, c, e2, h⟩
      exact ⟨v, e, s, c, e2, hq _ _ h⟩

abbrev s_l_lowest : Stmt := top 24
theorem sc_l_lowest : FnScope ["_law_top_here", "_law_bottom", "_law_divisor_here"] ["_law_top_here", "_law_bottom"] (defScope s_l_lowest) := ⟨rfl, rfl, rfl, by decide +kernel, rfl, by decide +kernel, by decide +kernel⟩
def sp_l_lowest (_ : PySem.W.Frag) (_ : Nat → Addr) : Sp := fun vs H Q _ => ∃ a b : Int, vs = [.int a, .int b] ∧ b ≠ 0 ∧ b.natAbs.log2 < 9000 ∧
  ∀ (p : Addr) (H' : Hp), Same H H' → H p = none → H' p = some (.tup [.int (nrm a b).1, .int (nrm a b).2]) → Q (.ref p) H'
theorem ok_l_lowest {f : Addr} {fd : FuncData} (F : Fun K "_law_lowest" "_law_lowest" s_l_lowest f fd) (T : Txt K mg ca) (O__law_divisor : Own P w K mg base 1 "_law_divisor" ["_law_one", "_law_other"] (sp_l_divisor K ca)) : FnOk P w K mg base (L2N.CX P w) 2 f fd ["_law_top_here", "_law_bottom"] (sp_l_lowest K ca) := by
  refine okN F sc_l_lowest (fun vs H Q E h => ?_) (fun cdv A outer s H vs Q E hr h => ?_)
  · obtain ⟨_, _, rfl, _⟩ := h
    rfl
  · obtain ⟨a, b, rfl, h0, hs, k⟩ := h
    refine ⟨_, pss_cons (ps_set (i := 2) sc_l_lowest.nd rfl (Or.inl rfl) (pe_own O__law_divisor (hr.mono (by decide)) rfl pas0 (pa_cons (pe_callB call_abs (by rfl) T.b_abs (by decide +kernel) (pa_cons (pv 0) pa_nil)) (pa_cons (pe_callB call_abs (by rfl) T.b_abs (by decide +kernel) (pa_cons (pv 1) pa_nil)) pa_nil)))) (pss_cons (ps_if (pt_cmpR op_lt (pv 1) pe_int (nomark _)) (pss_one (ps_set (i := 2) sc_l_lowest.nd rfl (Or.inl rfl) (pe_un un_neg (pv 2)))) pss_nil) (pss_one (ps_ret (pe_tup (pa_cons (pe_op op_fdivA (pv 0) (pv 2)) (pa_cons (pe_op op_fdivA (pv 1) (pv 2)) pa_nil)))))), ?_⟩
    fail "rd"
    have ea : (if a < 0 then -a else a).natAbs = a.natAbs := by split <;> omega
    have eb : (if b < 0 then -b else b).natAbs = b.natAbs := by split <;> omega
    refine ⟨by split <;> omega, by split <;> omega, ?_⟩
    rw [ea, eb]
    have c1 := nrmC_ne (a := a) h0
    have c2 := nrmC_log (a := a) h0 hs
    unfold nrm nrmC at k
    unfold nrmC at c1 c2
    fail "rd"
    refine iteD (fun y => ?_) (fun y => ?_)
    · rw [if_pos y] at k c1 c2
      fail "rd"
      intro p n_p
      generalize g_H1 : upd _ p _ = H1
      obtain ⟨s_H1, e_p⟩ := gen_new n_p g_H1
      clear g_H1
      exact k p H1 s_H1 n_p e_p
    · rw [if_neg y] at k c1 c2
      fail "rd"
      intro p n_p
      generalize g_H1 : upd _ p _ = H1
      obtain ⟨s_H1, e_p⟩ := gen_new n_p g_H1
      clear g_H1
      exact k p H1 s_H1 n_p e_p

abbrev s_l_top : Stmt := top 25
theorem sc_l_top : FnScope ["_law_bag_here", "_law_size"] ["_law_bag_here"] (defScope s_l_top) := ⟨rfl, rfl, rfl, by decide +kernel, rfl, by decide +kernel, by decide +kernel⟩
def sp_l_top (_ : PySem.W.Frag) (_ : Nat → Addr) : Sp := fun vs H Q _ => ∃ b : Addr, vs = [.ref b] ∧ ∃ L : Addr, Bag H L b ∧ ∀ (z : Int) (H' : Hp), Sz 70 z → Keep b H H' → Bag H' L b → Q (.int z) H'
theorem ok_l_top {f : Addr} {fd : FuncData} (F : Fun K "_law_top" "_law_top" s_l_top f fd) (T : Txt K mg ca) (O__law_draw : Own P w K mg base 1 "_law_draw" ["_law_bag_here", "_law_size"] (sp_l_draw K ca)) : FnOk P w K mg base (L2N.CX P w) 2 f fd ["_law_bag_here"] (sp_l_top K ca) := by
  refine okN F sc_l_top (fun vs H Q E h => ?_) (fun cdv A outer s H vs Q E hr h => ?_)
  · obtain ⟨_, rfl, _⟩ := h
    rfl
  · obtain ⟨b, rfl, L, hB, k⟩ := h
    refine ⟨_, pss_cons (ps_set (i := 1) sc_l_top.nd rfl (Or.inl rfl) (pe_ix ix_list (pe_lst (pa_cons pe_int (pa_cons pe_int (pa_cons pe_int (pa_cons (pe_op op_pow pe_int pe_int) pa_nil))))) (pe_own O__law_draw (hr.mono (by decide)) rfl pas0 (pa_cons (pv 0) (pa_cons pe_int pa_nil))) (fun _ _ => rfl))) (pss_one (ps_ret (pe_op op_sub (pe_own O__law_draw (hr.mono (by decide)) rfl pas0 (pa_cons (pv 0) (pa_cons (pe_op op_add (pe_op op_mulI pe_int (pv 1)) pe_int) pa_nil))) (pv 1)))), ?_⟩
    fail "rd"
    intro l n_l
    generalize g_H1 : upd _ l _ = H1
    obtain ⟨s_H1, e_l⟩ := gen_new n_l g_H1
    clear g_H1
    have e_l : H1 l = some (.lst [.int 3, .int 12, .int 1000, .int (10 ^ 20)]) := e_l
    have B1 := hB.same s_H1
    fail "rd"
    refine ⟨L, B1, by decide, by decide, fun c H2 c0 c1 k2 B2 => ?_⟩
    have e_l := k2 _ _ e_l (hB.ne n_l)
    obtain ⟨n, hn, n0, n1⟩ : ∃ n : Int, atI [V.int 3, .int 12, .int 1000, .int (10 ^ 20)] c = some (.int n) ∧ 0 < n ∧ n ≤ 10 ^ 20 := by
      have hc : c = 0 ∨ c = 1 ∨ c = 2 ∨ c = 3 := by omega
      rcases hc with rfl | rfl | rfl | rfl
      · exact ⟨3, ix_c rfl, by decide, by decide⟩
      · exact ⟨12, ix_c rfl, by decide, by decide⟩
      · exact ⟨1000, ix_c rfl, by decide, by decide⟩
      · exact ⟨10 ^ 20, ix_c rfl, by decide, by decide⟩
    refine ⟨_, _, _, _, rfl, rfl, SqL.of e_l, hn, ?_⟩
    have e20 : (10 : Int) ^ 20 = 100000000000000000000 := by decide
    have e70 : (2 : Nat) ^ 70 = 1180591620717411303424 := by decide
    rw [e20] at n1
    have hz : ∀ x : Int, 0 ≤ x → x ≤ 1000000000000000000000 → Sz 70 x := fun x a b => by
      show x.natAbs < 2 ^ 70
      rw [e70]
      omega
    fail "rd"
    refine ⟨L, B2, by omega, (hz _ (by omega) (by omega)).lg, fun d H3 d0 d1 k3 B3 => ?_⟩
    fail "rd"
    refine k _ H3 ?_ ((Keep.of s_H1).trans (k2.trans k3)) B3
    show (d - n).natAbs < 2 ^ 70
    rw [e70]
    omega

abbrev s_l_share : Stmt := top 26
theorem sc_l_share : FnScope ["_law_bag_here"] ["_law_bag_here"] (defScope s_l_share) := ⟨rfl, rfl, rfl, by decide +kernel, rfl, by decide +kernel, by decide +kernel⟩
def sp_l_share (_ : PySem.W.Frag) (_ : Nat → Addr) : Sp := fun vs H Q _ => ∃ b : Addr, vs = [.ref b] ∧ ∃ L : Addr, Bag H L b ∧ ∀ (x : Int × Int) (p : Addr) (H' : Hp), Red x.1 x.2 → Sz 70 x.1 → Sz 70 x.2 → Keep b H H' → Bag H' L b → H p = none → H' p = some (.tup [.int x.1, .int x.2]) → Q (.ref p) H'
theorem ok_l_share {f : Addr} {fd : FuncData} (F : Fun K "_law_share" "_law_share" s_l_share f fd) (T : Txt K mg ca) (O__law_lowest : Own P w K mg base 2 "_law_lowest" ["_law_top_here", "_law_bottom"] (sp_l_lowest K ca)) (O__law_draw : Own P w K mg base 1 "_law_draw" ["_law_bag_here", "_law_size"] (sp_l_draw K ca)) (O__law_top : Own P w K mg base 2 "_law_top" ["_law_bag_here"] (sp_l_top K ca)) : FnOk P w K mg base (L2N.CX P w) 3 f fd ["_law_bag_here"] (sp_l_share K ca) := by
  refine okN F sc_l_share (fun vs H Q E h => ?_) (fun cdv A outer s H vs Q E hr h => ?_)
  · obtain ⟨_, rfl, _⟩ := h
    rfl
  · obtain ⟨b, rfl, L, hB, k⟩ := h
    refine ⟨_, pss_cons (ps_if (pt_cmpR op_eq (pe_own O__law_draw (hr.mono (by decide)) rfl pas0 (pa_cons (pv 0) (pa_cons pe_int pa_nil))) pe_int (nomark _)) (pss_one (ps_ret (pe_tup (pa_cons pe_int (pa_cons pe_int pa_nil))))) pss_nil) (pss_one (ps_ret (pe_own O__law_lowest (hr.mono (by decide)) rfl pas0 (pa_cons (pe_own O__law_top (hr.mono (by decide)) rfl pas0 (pa_cons (pv 0) pa_nil)) (pa_cons (pe_op op_add pe_int (pe_own O__law_draw (hr.mono (by decide)) rfl pas0 (pa_cons (pv 0) (pa_cons (pe_ix ix_list (pe_lst (pa_cons pe_int (pa_cons pe_int (pa_cons pe_int (pa_cons pe_int pa_nil))))) (pe_own O__law_draw (hr.mono (by decide)) rfl pas0 (pa_cons (pv 0) (pa_cons pe_int pa_nil))) (fun _ _ => rfl)) pa_nil)))) pa_nil))))), ?_⟩
    fail "rd"
    refine ⟨L, hB, by decide, by decide, fun c H1 c0 c1 k1 B1 => ?_⟩
    fail "rd"
    refine iteI (fun y => ?_) (fun y => ?_)
    · fail "rd"
      intro p n_p
      generalize g_H2 : upd _ p _ = H2
      obtain ⟨s_H2, e_p⟩ := gen_new n_p g_H2
      clear g_H2
      fail "rd"
      exact k (0, 1) p H2 red01 Sz.zero.mono Sz.one.mono (k1.trans (.of s_H2)) (B1.same s_H2) (keep_free k1 n_p (B1.ne n_p)) e_p
    · fail "rd"
      refine ⟨L, B1, fun t H2 zt k2 B2 => ?_⟩
      fail "rd"
      intro l n_l
      generalize g_H3 : upd _ l _ = H3
      obtain ⟨s_H3, e_l⟩ := gen_new n_l g_H3
      clear g_H3
      have B3 := B2.same s_H3
      fail "rd"
      refine ⟨L, B3, by decide, by decide, fun d H4 d0 d1 k4 B4 => ?_⟩
      have e_l := k4 _ _ e_l (B2.ne n_l)
      obtain ⟨n, hn, n0, n1⟩ : ∃ n : Int, atI [V.int 1, .int 6, .int 12, .int 1000] d = some (.int n) ∧ 0 < n ∧ n ≤ 1000 := by
        have hc : d = 0 ∨ d = 1 ∨ d = 2 ∨ d = 3 := by omega
        rcases hc with rfl | rfl | rfl | rfl
        · exact ⟨1, ix_c rfl, by decide, by decide⟩
        · exact ⟨6, ix_c rfl, by decide, by decide⟩
        · exact ⟨12, ix_c rfl, by decide, by decide⟩
        · exact ⟨1000, ix_c rfl, by decide, by decide⟩
      refine ⟨_, _, _, _, rfl, rfl, SqL.of e_l, hn, ?_⟩
      have hz : ∀ x : Int, 0 ≤ x → x ≤ 2000 → Sz 11 x := fun x a b => show x.natAbs < 2048 by omega
      fail "rd"
      refine ⟨L, B4, n0, (hz n (by omega) (by omega)).lg, fun e H5 e0 e1 k5 B5 => ?_⟩
      fail "rd"
      have ne : (1 : Int) + e ≠ 0 := by omega
      have ze := hz (1 + e) (by omega) (by omega)
      refine ⟨ne, ze.lg, fun p H6 s6 np e6 => ?_⟩
      have kk := k1.trans (k2.trans ((Keep.of s_H3).trans (k4.trans k5)))
      exact k (nrm t (1 + e)) p H6 (nrm_red ne) (zt.le (nrm_le1 ne)) ((ze.le (nrm_le2 ne)).mono) (kk.trans (.of s6)) (B5.same s6) (keep_free kk np (B5.ne np)) e6

abbrev s_l_shares : Stmt := top 27
theorem sc_l_shares : FnScope ["_law_bag_here", "_law_names_here", "_law_shares_here", "_law_name"] ["_law_bag_here", "_law_names_here"] (defScope s_l_shares) := ⟨rfl, rfl, rfl, by decide +kernel, rfl, by decide +kernel, by decide +kernel⟩
def sp_l_shares (_ : PySem.W.Frag) (_ : Nat → Addr) : Sp := fun vs H Q _ => ∃ (b ln : Addr) (N : List Str), vs = [.ref b, .ref ln] ∧ ∃ L : Addr, Bag H L b ∧ H ln = some (.lst (N.map V.str)) ∧ ln ≠ b ∧ Uni N ∧
  ∀ (f : Fm) (d : Addr) (H' : Hp), RedF f → SzF 70 f → TabAt H' d N f → Keep b H H' → Bag H' L b → H d = none → Q (.ref d) H'
theorem ok_l_shares {f : Addr} {fd : FuncData} (F : Fun K "_law_shares" "_law_shares" s_l_shares f fd) (T : Txt K mg ca) (O__law_draw : Own P w K mg base 1 "_law_draw" ["_law_bag_here", "_law_size"] (sp_l_draw K ca)) (O__law_share : Own P w K mg base 3 "_law_share" ["_law_bag_here"] (sp_l_share K ca)) : FnOk P w K mg base (L2N.CX P w) 4 f fd ["_law_bag_here", "_law_names_here"] (sp_l_shares K ca) := by
  refine okN F sc_l_shares (fun vs H Q E h => ?_) (fun cdv A outer s H vs Q E hr h => ?_)
  · obtain ⟨_, _, _, rfl, _⟩ := h
    rfl
  · obtain ⟨b, ln, N, rfl, L, hB, hl, nb, hN, k⟩ := h
    refine ⟨_, pss_cons (ps_set (i := 2) sc_l_shares.nd rfl (Or.inl rfl) pe_dnewK) (pss_cons (ps_for (passes_of rfl) rfl (pi_list (pv 1)) (pg_name (i := 3) sc_l_shares.nd rfl (Or.inl rfl)) (pss_one (ps_if (pt_cmpR op_gt (pe_own O__law_draw (hr.mono (by decide)) rfl pas0 (pa_cons (pv 0) (pa_cons pe_int pa_nil))) pe_int (nomark _)) (pss_one (ps_dput (hu_of (hr.mono (Nat.zero_le _))) (pv 2) (pv 3) (pe_own O__law_share (hr.mono (by decide)) rfl pas0 (pa_cons (pv 0) pa_nil)) rfl)) pss_nil))) (pss_one (ps_ret (pv 2)))), ?_⟩
    fail "rd"
    intro d n_d
    generalize g_H1 : upd _ d _ = H1
    obtain ⟨s_H1, e_d⟩ := gen_new n_d g_H1
    clear g_H1
    have B1 := hB.same s_H1
    have db := hB.ne n_d
    have dL := hB.neL n_d
    fail "rd"
    refine for_list (D := ⟨_, _, fun _ _ => True, fun _ _ => True⟩) (K := K) (a := ln) (xs := N.map V.str) (fun i σ' H' => ∃ (v : Option V) (f : Fm), σ' = [some (.ref b), some (.ref ln), some (.ref d), v] ∧ Keep b H H' ∧ Bag H' L b ∧ RedF f ∧ SzF 70 f ∧ TabAt H' d N f)
      ⟨none, fun _ => (0, 1), rfl, .of s_H1, B1, fun _ => red01, zeroF_sz, [], e_d, .nil fun _ => rfl⟩ (fun i σ' H' _ ⟨_, _, _, h, _⟩ => SqL.of (h _ _ hl nb)) ?_ ?_
    · rintro i x σ' H' hx ⟨v, f, rfl, kp, B, rf, sf, kvs, hd, t⟩
      obtain ⟨y, hy, rfl⟩ : ∃ y, N[i]? = some y ∧ V.str y = x := by
        rw [List.getElem?_map] at hx
        exact Option.map_eq_some_iff.mp hx
      have hyN := List.mem_of_getElem? hy
      fail "rd"
      refine ⟨L, B, by decide, by decide, fun c H2 c0 c1 k2 B2 => ?_⟩
      have hd2 := k2 _ _ hd db
      obtain ⟨xb, hxb⟩ := B.lst
      have t2 := t.mono (R' := TupF f H2) (fun _ _ => TupF.keep hxb (fun _ z => nomatch z) k2) fun _ z => z
      fail "rd"
      refine iteD (fun y1 => ?_) (fun y1 => ?_)
      · fail "rd"
        refine ⟨L, B2, fun x p H3 rx s1 s2 k3 B3 np hp => ?_⟩
        have hd3 := k3 _ _ hd2 db
        obtain ⟨xb2, hxb2⟩ := B2.lst
        fail "rd"
        refine ⟨d, _, rfl, DPut.k (k := Sum.inr y) hd3 (t.k.line hN), ?_⟩
        have t3 := t2.mono (R' := TupF f H3) (fun _ _ => TupF.keep hxb2 (fun _ z => nomatch z) k3) fun _ z => z
        exact ⟨_, setF f y x, rfl, keep_new ((kp.trans k2).trans k3) n_d, B3.keep keep_upd db dL, setF_red rf rx, setF_sz sf ⟨s1, s2⟩, t3.setT hd3 hyN hp⟩
      · exact ⟨_, f, rfl, kp.trans k2, B2, rf, sf, kvs, hd2, t2⟩
    · rintro σ' H' ⟨v, f, rfl, kp, B, rf, sf, ht⟩
      fail "rd"
      exact k f d H' rf sf ht kp B n_d

abbrev s_Ratio_init : Stmt := inClass (top 10) 0
theorem sc_Ratio_init : FnScope ["self", "top", "bottom", "common"] ["self", "top", "bottom"] (defScope s_Ratio_init) := ⟨rfl, rfl, rfl, by decide +kernel, rfl, by decide +kernel, by decide +kernel⟩
def sp_Ratio_init (_ : PySem.W.Frag) (ca : Nat → Addr) : Sp := fun vs H Q E => ∃ (p dx : Addr) (a b : Int), vs = [.ref p, .int a, .int b] ∧ H p = some (.ins (ca 2) dx []) ∧ b.natAbs.log2 < 9000 ∧ (b = 0 → E (.ref (ca 1)) none H) ∧
  (b ≠ 0 → ∀ H' : Hp, Keep p H H' → H' p = some (.ins (ca 2) dx [("top", .int (nrm a b).1), ("bottom", .int (nrm a b).2)]) → Q .non H')
theorem ok_Ratio_init {f : Addr} {fd : FuncData} (F : FunD K "__init__" "Ratio.__init__" (defArgs s_Ratio_init) (defBody s_Ratio_init) (defScope s_Ratio_init) [.int 1] [] f fd) (T : Txt K mg ca)  : FnOk P w K mg base (L2N.CX P w) 1 f fd ["self", "top", "bottom"] (sp_Ratio_init K ca) := by
  refine F.ok sc_Ratio_init (fun vs H Q E h => ?_) (fun cdv A outer s H vs Q E hr h => ?_)
  · obtain ⟨_, _, _, _, rfl, _⟩ := h
    rfl
  · obtain ⟨p, dx, a, b, rfl, hp, hs, h0, h1⟩ := h
    refine ⟨_, pss_cons (ps_if (pt_cmpR op_eq (pv 2) pe_int (nomark _)) (pss_one (L2N.ps_raise rfl (L2N.takes_of rfl rfl rfl rfl) (pmk_own0 PySem.F.excBase_ValueError T.ex_NoRatio T.g_NoRatio T.kp_NoRatio (raises_own T.sb_NoRatio T.ty_NoRatio) rfl))) pss_nil) (pss_cons (ps_set (i := 3) sc_Ratio_init.nd rfl (Or.inl rfl) (pe_callBfun cr_gcd rfl T.gcd (pa_cons (pv 1) (pa_cons (pv 2) pa_nil)))) (pss_cons (ps_if (pt_cmpR op_lt (pv 2) pe_int (nomark _)) (pss_one (ps_set (i := 3) sc_Ratio_init.nd rfl (Or.inl rfl) (pe_un un_neg (pv 3)))) pss_nil) (pss_cons (ps_fld (pv 0) (pe_op op_fdivA (pv 1) (pv 3)) rfl) (pss_one (ps_fld (pv 0) (pe_op op_fdivA (pv 2) (pv 3)) rfl))))), ?_⟩
    fail "rd"
    refine iteI (fun z => ?_) (fun z => ?_)
    · exact h0 z
    · have c1 := nrmC_ne (a := a) z
      have c2 := nrmC_log (a := a) z hs
      have fin : ∀ H' : Hp, H' = upd (upd H p (.ins (ca 2) dx (putF "top" (.int (nrm a b).1) []))) p (.ins (ca 2) dx (putF "bottom" (.int (nrm a b).2) (putF "top" (.int (nrm a b).1) []))) → Q .non H' := fun H' e => by
        subst e
        refine h1 z _ (keep_upd.trans keep_upd) ?_
        rw [upd_same, put_rat]
      unfold nrm nrmC at fin
      unfold nrmC at c1 c2
      fail "rd"
      refine iteD (fun y => ?_) (fun y => ?_)
      · rw [if_pos y] at fin c1 c2
        fail "rd"
        exact fin _ rfl
      · rw [if_neg y] at fin c1 c2
        fail "rd"
        exact fin _ rfl

abbrev s_l_handed : Stmt := top 28
theorem sc_l_handed : FnScope ["_law_bag_here", "_law_shares_here", "_law_handed_here", "_law_name", "_law_top_here", "_law_bottom"] ["_law_bag_here", "_law_shares_here"] (defScope s_l_handed) := ⟨rfl, rfl, rfl, by decide +kernel, rfl, by decide +kernel, by decide +kernel⟩
def KeysIn (kvs : List (Key × V)) (i : Nat) (new : List (Key × V)) : Prop := ∀ z, (Sum.inr z : Key) ∈ (kvs.take i).map (·.1) → ∃ v, valV new (.inr z) = some v
theorem KeysIn.put {kvs new : List (Key × V)} {i : Nat} {z : Str} {v u : V} (h : KeysIn kvs i new) (e : kvs[i]? = some (.inr z, u)) : KeysIn kvs (i + 1) (putK new (.inr z) v) := fun y m => by
  rw [valV_put]
  by_cases c : (Sum.inr y : Key) = Sum.inr z
  · rw [if_pos c]
    exact ⟨v, rfl⟩
  · rw [if_neg c]
    rcases (take_mem e).mp m with m | m
    · exact h y m
    · exact absurd m c
theorem KeysIn.again {kvs new : List (Key × V)} {i : Nat} {z : Str} {v : V} (h : KeysIn kvs i new) : KeysIn kvs i (putK new (.inr z) v) := fun y m => by
  rw [valV_put]
  by_cases c : (Sum.inr y : Key) = Sum.inr z
  · rw [if_pos c]
    exact ⟨v, rfl⟩
  · rw [if_neg c]
    exact h y m
def sp_l_handed (_ : PySem.W.Frag) (ca : Nat → Addr) : Sp := fun vs H Q _ => ∃ (b ds : Addr) (N : List Str) (f : Fm) (kv0 : List (Key × V)), vs = [.ref b, .ref ds] ∧ ∃ L : Addr, Bag H L b ∧ H ds = some (.dK kv0) ∧ Tab N (TupF f H) (ShZ f) kv0 ∧ RedF f ∧ SzF 4000 f ∧ Uni N ∧
  ∀ (d : Addr) (kvs : List (Key × V)) (H' : Hp), H' d = some (.dK kvs) → Tab N (NumR ca f H') (ShZ f) kvs → (∀ z, (∃ v, valV kv0 (.inr z) = some v) → ∃ v, valV kvs (.inr z) = some v) → Keep b H H' → Bag H' L b → H d = none → Q (.ref d) H'
theorem ok_l_handed {f : Addr} {fd : FuncData} (F : Fun K "_law_handed" "_law_handed" s_l_handed f fd) (T : Txt K mg ca) (O__law_draw : Own P w K mg base 1 "_law_draw" ["_law_bag_here", "_law_size"] (sp_l_draw K ca)) (O_Ratio_2 : OwnI P w K mg base 1 "Ratio" (ca 2) ["self", "top", "bottom"] [] (sp_Ratio_init K ca)) (O_Ratio_1 : OwnI P w K mg base 1 "Ratio" (ca 2) ["self", "top", "bottom"] [.int 1] (sp_Ratio_init K ca)) : FnOk P w K mg base (L2N.CX P w) 3 f fd ["_law_bag_here", "_law_shares_here"] (sp_l_handed K ca) := by
  refine okN F sc_l_handed (fun vs H Q E h => ?_) (fun cdv A outer s H vs Q E hr h => ?_)
  · obtain ⟨_, _, _, _, _, rfl, _⟩ := h
    rfl
  · obtain ⟨b, ds, N, f, kvs, rfl, L, hB, hds, t, rf, sf, hN, k⟩ := h
    refine ⟨_, pss_cons (ps_set (i := 2) sc_l_handed.nd rfl (Or.inl rfl) pe_dnewK) (pss_cons (ps_lk (ps_for (passes_of rfl) rfl (pi_keys (pv 1)) (pg_name (i := 3) sc_l_handed.nd rfl (Or.inl rfl)) (pss_cons (ps_asg (pe_dget (hu_of (hr.mono (Nat.zero_le _))) (pv 1) (pv 3) (fun _ _ => rfl)) (pg_tup rfl (pgs_cons (pg_name (i := 4) sc_l_handed.nd rfl (Or.inl rfl)) (pgs_cons (pg_name (i := 5) sc_l_handed.nd rfl (Or.inl rfl)) pgs_nil)))) (pss_cons (ps_dput (hu_of (hr.mono (Nat.zero_le _))) (pv 2) (pv 3) (pe_owni O_Ratio_2 (hr.mono (by decide)) rfl pas0 (pa_cons (pv 4) (pa_cons (pv 5) pa_nil))) rfl) (pss_one (ps_if (PW.pt (pw_and (pt_cmpR op_eq (pv 5) pe_int (nomark _)) (pw_and1 (pt_cmpR op_eq (pe_own O__law_draw (hr.mono (by decide)) rfl pas0 (pa_cons (pv 0) (pa_cons pe_int pa_nil))) pe_int (nomark _))))) (pss_one (ps_dput (hu_of (hr.mono (Nat.zero_le _))) (pv 2) (pv 3) (pv 4) rfl)) pss_nil)))))) (pss_one (ps_ret (pv 2)))), ?_⟩
    fail "rd"
    intro d n_d
    generalize g_H1 : upd _ d _ = H1
    obtain ⟨s_H1, e_d⟩ := gen_new n_d g_H1
    clear g_H1
    have B1 := hB.same s_H1
    have db := hB.ne n_d
    have dL := hB.neL n_d
    obtain ⟨sb, sL⟩ := hB.ned hds
    refine ⟨.inl ⟨ds, _, s_H1 _ _ hds, True.intro, fun od => ?_⟩⟩
    have nd0 : upd H ds (.frz od (.dK kvs)) d = none := by rw [upd_ne (ne_of_none hds n_d).symm]; exact n_d
    have t0 := t.mono (R' := TupF f (upd H ds (.frz od (.dK kvs)))) (fun _ _ => TupF.keep hds ndt keep_upd) fun _ z => z
    refine ⟨_, rfl, ds, od, rfl, .inl ⟨kvs, upd_same, for_names t.k (D := ⟨_, _, fun _ _ => True, fun _ _ => True⟩) (fun i σ' H' => ∃ (v1 v2 v3 : Option V) (new : List (Key × V)), σ' = [some (.ref b), some (.ref ds), some (.ref d), v1, v2, v3] ∧ Keep b (upd H ds (.frz od (.dK kvs))) H' ∧ Bag H' L b ∧
      H' d = some (.dK new) ∧ Part N (NumR ca f H') (ShZ f) kvs i new ∧ KeysIn kvs i new) ?_ ?_ ?_ ?_⟩⟩
    · exact ⟨none, none, none, [], rfl, .of (same_updL s_H1), B1.keep keep_upd sb sL, by rw [upd_ne (ne_of_none hds n_d).symm]; exact e_d, .start, fun z m => by simp at m⟩
    · rintro i σ' H' _ ⟨_, _, _, _, _, kp, _⟩
      exact kp _ _ upd_same sb
    · rintro i z v σ' H' hi hz hv ⟨v1, v2, v3, new, rfl, kp, B, hd, hP, hI⟩
      obtain ⟨tt, rfl, ht⟩ := t0.r z v hv
      have ht := kp _ _ ht (tup_ne (hB.keep (keep_upd (o := .frz od (.dK kvs))) sb sL) ht)
      have nz : (f z).2 ≠ 0 := by have := (rf z).pos; omega
      have hR := rf z
      fail "rd"
      refine ⟨ds, _, rfl, dget (.inr ⟨od, kp _ _ upd_same sb⟩) hv, ?_⟩
      fail "rd"
      intro r d_r n_r nd_r ne_r
      refine ⟨r, d_r, _, _, rfl, upd_same, (sf z).2.lg, fun z => absurd z nz, fun _ H2 k_r e_r => ⟨rfl, ?_⟩⟩
      have s_H2 := same_made n_r nd_r ne_r k_r
      have hr : RatAt ca H2 r (f z).1 (f z).2 := .mk hR e_r
      have hd2 := s_H2 _ _ hd
      fail "rd"
      refine ⟨d, _, rfl, DPut.k (k := Sum.inr z) hd2 (hP.k.line hN), ?_⟩
      generalize g_H3 : upd _ d _ = H3
      obtain ⟨k_H3, e_H3⟩ := gen_put g_H3
      clear g_H3
      have k3 : Keep b (upd H ds (.frz od (.dK kvs))) H3 := keep_put (kp.trans (.of s_H2)) k_H3 nd0
      have B3 := (B.same s_H2).keep k_H3 db dL
      have P3 := (hP.mono (R' := NumR ca f H3) (Z' := ShZ f) (fun y u n => NumV.keep (NumR.same s_H2 n) hd2 nd k_H3) fun _ n => n).put hi hz (.inr ⟨r, rfl, hr.keep hd2 nd k_H3⟩)
      have I3 : KeysIn kvs (i + 1) (putK new (Sum.inr z) (V.ref r)) := hI.put hi
      fail "rd"
      have mi : (Sum.inr z : Key) ∈ (kvs.take (i + 1)).map (·.1) := (take_mem hi).mpr (.inr rfl)
      refine iteI (fun y1 => ?_) (fun y1 => ⟨_, _, _, _, rfl, k3, B3, e_H3, P3, I3⟩)
      fail "rd"
      refine ⟨L, B3, by decide, by decide, fun c H4 c0 c1 k4 B4 => ?_⟩
      have hd4 := k4 _ _ e_H3 db
      have P4 := P3.mono (R' := NumR ca f H4) (Z' := ShZ f) (fun y u n => by obtain ⟨xb, hxb⟩ := B3.lst; exact NumV.keep n hxb (fun _ _ _ z => nomatch z) k4) fun _ n => n
      fail "rd"
      refine iteI (fun y2 => ?_) (fun y2 => ⟨_, _, _, _, rfl, k3.trans k4, B4, hd4, P4, I3⟩)
      fail "rd"
      refine ⟨d, _, rfl, DPut.k (k := Sum.inr z) hd4 (P4.k.line hN), ?_⟩
      generalize g_H5 : upd _ d _ = H5
      obtain ⟨k_H5, e_H5⟩ := gen_put g_H5
      clear g_H5
      refine ⟨_, _, _, _, rfl, keep_put (k3.trans k4) k_H5 nd0, B4.keep k_H5 db dL, e_H5, ?_, I3.again⟩
      exact (P4.mono (R' := NumR ca f H5) (Z' := ShZ f) (fun y u n => NumV.keep n hd4 nd k_H5) fun _ n => n).again mi hz (.inl ⟨rfl, y1⟩)
    · rintro σ' H' ⟨v1, v2, v3, new, rfl, kp, B, hd, hP, hI⟩
      refine ⟨kp _ _ upd_same sb, ?_⟩
      fail "rd"
      exact k d new _ (by rw [upd_ne (ne_of_none hds n_d).symm]; exact hd) ((hP.done t.z).mono (fun y u n => NumV.keep n (kp _ _ upd_same sb) nf keep_upd) fun _ n => n) (fun z h => hI z (by rw [List.take_length]; obtain ⟨v, hv⟩ := h; exact List.mem_map.mpr ⟨_, valV_mem hv, rfl⟩)) (keep_lock hds kp) (B.keep keep_upd sb sL) n_d

abbrev s_l_sum : Stmt := top 29
theorem sc_l_sum : FnScope ["_law_one", "_law_other", "_law_sign", "_law_shares_here", "_law_name", "_law_top_here", "_law_bottom", "_law_more", "_law_parts"] ["_law_one", "_law_other", "_law_sign"] (defScope s_l_sum) := ⟨rfl, rfl, rfl, by decide +kernel, rfl, by decide +kernel, by decide +kernel⟩
def sp_l_sum (_ : PySem.W.Frag) (ca : Nat → Addr) : Sp := fun vs H Q _ => ∃ (d1 d2 : Addr) (s : Int) (N : List Str) (f g : Fm), vs = [.ref d1, .ref d2, .int s] ∧ (s = 1 ∨ s = -1) ∧ TabAt H d1 N f ∧ TabAt H d2 N g ∧ RedF f ∧ (∀ z, 0 < (g z).2) ∧ SzF 1900 f ∧ SzF 1900 g ∧ Uni N ∧
  ∀ (d : Addr) (H' : Hp), H d = none → Same H H' → TabAt H' d N (sumF s f g) → Q (.ref d) H'
theorem ok_l_sum {f : Addr} {fd : FuncData} (F : Fun K "_law_sum" "_law_sum" s_l_sum f fd) (T : Txt K mg ca) (O__law_lowest : Own P w K mg base 2 "_law_lowest" ["_law_top_here", "_law_bottom"] (sp_l_lowest K ca)) : FnOk P w K mg base (L2N.CX P w) 3 f fd ["_law_one", "_law_other", "_law_sign"] (sp_l_sum K ca) := by
  refine okN F sc_l_sum (fun vs H Q E h => ?_) (fun cdv A outer s H vs Q E hr h => ?_)
  · obtain ⟨_, _, _, _, _, _, rfl, _⟩ := h
    rfl
  · obtain ⟨d1, d2, s, N, f, g, rfl, hs, ⟨kvs, hd1, t1⟩, ⟨kvs2, hd2, t2⟩, rf, rg, sf, sg, hN, k⟩ := h
    refine ⟨_, pss_cons (ps_set (i := 3) sc_l_sum.nd rfl (Or.inl rfl) pe_dnewK) (pss_cons (ps_for (passes_of rfl) rfl (pi_list (pe_op op_cat (pe_callTy (call_listD rfl) (by rfl) T.b_list (by decide +kernel) (pa_cons (pv 0) pa_nil)) (pe_lk (pe_lc (own := [("_law_name", 4)]) (g := gName 4) rfl sc_l_sum.nd (pi_keys (pv 1)) (blkOk_by (N := ["_law_one", "_law_other", "_law_sign", "_law_shares_here", "_law_name", "_law_top_here", "_law_bottom", "_law_more", "_law_parts"]) (sc := defScope s_l_sum) (by decide +kernel)) (fun _ _ _ _ _ => pg_name (i := 4) sc_l_sum.nd rfl (Or.inl rfl)) (fun _ _ _ _ _ => pts_one (pt_cmp (pc_dnotin (hu_of (hr.mono (Nat.zero_le _))) (pv 4) (pv 0)))) (fun _ _ _ _ _ => pv 4))))) (pg_name (i := 4) sc_l_sum.nd rfl (Or.inl rfl)) (pss_cons (ps_asg (pe_dget2 (hu_of (hr.mono (Nat.zero_le _))) (pv 0) (pv 4) (pe_tup (pa_cons pe_int (pa_cons pe_int pa_nil))) ⟨rfl, rfl, rfl, rfl⟩) (pg_tup rfl (pgs_cons (pg_name (i := 5) sc_l_sum.nd rfl (Or.inl rfl)) (pgs_cons (pg_name (i := 6) sc_l_sum.nd rfl (Or.inl rfl)) pgs_nil)))) (pss_cons (ps_asg (pe_dget2 (hu_of (hr.mono (Nat.zero_le _))) (pv 1) (pv 4) (pe_tup (pa_cons pe_int (pa_cons pe_int pa_nil))) ⟨rfl, rfl, rfl, rfl⟩) (pg_tup rfl (pgs_cons (pg_name (i := 7) sc_l_sum.nd rfl (Or.inl rfl)) (pgs_cons (pg_name (i := 8) sc_l_sum.nd rfl (Or.inl rfl)) pgs_nil)))) (pss_one (ps_dput (hu_of (hr.mono (Nat.zero_le _))) (pv 3) (pv 4) (pe_own O__law_lowest (hr.mono (by decide)) rfl pas0 (pa_cons (pe_op op_add (pe_op op_mulI (pv 5) (pv 8)) (pe_op op_mulI (pe_op op_mulI (pv 2) (pv 7)) (pv 6))) (pa_cons (pe_op op_mulI (pv 6) (pv 8)) pa_nil))) rfl))))) (pss_one (ps_ret (pv 3)))), ?_⟩
    obtain ⟨ks, e, nk, hm, hlen⟩ := t1.k.names
    have h60 : ks.length ≤ 60 := by have := t1.k.len; have := hN.len; omega
    fail "rd"
    intro S n_S
    generalize g_H1 : upd _ S _ = H1
    obtain ⟨s_H1, e_S⟩ := gen_new n_S g_H1
    clear g_H1
    fail "rd"
    refine ⟨d1, kvs, rfl, .inl (s_H1 _ _ hd1), ?_⟩
    intro l1 n_l1
    generalize g_H2 : upd _ l1 _ = H2
    obtain ⟨s_H2, e_l1⟩ := gen_new n_l1 g_H2
    clear g_H2
    rw [keys_str e] at e_l1
    have s2 := s_H1.trans s_H2
    have hd2' := s2 _ _ hd2
    refine ⟨.inl ⟨d2, _, hd2', True.intro, fun od => ?_⟩⟩
    refine ⟨_, rfl, d2, od, rfl, .inl ⟨kvs2, upd_same, fun D nD => lc_names t2.k (fun i H' => ∃ acc : List Str, H' D = some (.lst (acc.map V.str)) ∧ Same (upd H2 d2 (.frz od (.dK kvs2))) H' ∧ (∀ z ∈ acc, z ∈ N) ∧ acc.length ≤ i ∧ ∀ z, (Sum.inr z : Key) ∈ (kvs2.take i).map (·.1) → (∃ v, valV kvs (.inr z) = some v) ∨ z ∈ acc)
      ⟨[], upd_same, same_upd nD, fun _ m => (nomatch m), Nat.le_refl _, fun z m => by simp at m⟩ (fun i H' _ ⟨_, _, s, _⟩ => s _ _ upd_same) ?_ ?_⟩⟩
    · rintro i z v H' hi hz hv ⟨acc, hD, sH, ha, hl, hc⟩
      have hi60 : i < 100 := by
        have := (List.getElem?_eq_some_iff.mp hi).1
        have := t2.k.len
        have := hN.len
        omega
      fail "rd"
      refine ⟨d1, _, rfl, dget_at (rd_same sH (rd_lock (s2 _ _ hd1) hd2')), ?_⟩
      cases q : valV kvs (.inr z) with
      | some u =>
        fail "rd"
        refine iteF ?_
        refine ⟨acc, hD, sH, ha, by omega, fun y m => ?_⟩
        rcases (take_mem hi).mp m with m | m
        · exact hc y m
        · cases m
          exact .inl ⟨u, q⟩
      | none =>
        fail "rd"
        refine ⟨_, hD, by rw [List.length_map]; exact size_line (by omega), acc ++ [z], by rw [strs_snoc]; exact upd_same, same_put nD sH, fun y m => ?_, by rw [List.length_append]; exact Nat.add_le_add_right hl 1, fun y m => ?_⟩
        · rcases List.mem_append.mp m with m | m
          · exact ha y m
          · cases List.mem_singleton.mp m
            exact hz
        · rcases (take_mem hi).mp m with m | m
          · exact (hc y m).imp id fun m => List.mem_append_left _ m
          · cases m
            exact .inr (List.mem_append_right _ (List.mem_singleton.mpr rfl))
    · rintro H' ⟨acc, hD, sH, ha, hl, hc⟩
      refine ⟨sH _ _ upd_same, ?_⟩
      have l60 : acc.length ≤ 60 := by have := t2.k.len; have := hN.len; omega
      have sA := s2.trans (same_lock hd2' sH)
      have nDd : D ≠ d2 := fun e => by rw [e, upd_same] at nD; cases nD
      have hD2 : upd H' d2 (.dK kvs2) D = some (.lst (acc.map V.str)) := by rw [upd_ne nDd]; exact hD
      have hl1 := same_lock hd2' sH _ _ e_l1
      have hS := same_lock hd2' sH _ _ (s_H2 _ _ e_S)
      rw [List.take_length] at hc
      clear hD nD sH
      generalize upd H' d2 (.dK kvs2) = H3 at *
      refine ⟨_, _, _, _, rfl, rfl, hl1, hD2, by rw [List.length_map, List.length_map]; exact size_le (by omega), ?_⟩
      intro l2 n_l2
      generalize g_H4 : upd _ l2 _ = H4
      obtain ⟨s_H4, e_l2⟩ := gen_new n_l2 g_H4
      clear g_H4
      rw [← List.map_append] at e_l2
      obtain ⟨L, hL⟩ : ∃ L, ks ++ acc = L := ⟨_, rfl⟩
      rw [hL] at e_l2
      have hS := s_H4 _ _ hS
      have sB := sA.trans s_H4
      have LN : ∀ z ∈ L, z ∈ N := fun z m => by
        rw [← hL] at m
        rcases List.mem_append.mp m with m | m
        · obtain ⟨v, hv⟩ := (hm z).mp m
          obtain ⟨y, hy, e⟩ := t1.k.mem _ (valV_mem hv)
          cases e
          exact hy
        · exact ha z m
      have LZ : ∀ z, z ∉ L → f z = (0, 1) ∧ g z = (0, 1) := fun z n => by
        rw [← hL] at n
        have n1 : valV kvs (.inr z) = none := by
          cases q : valV kvs (.inr z) with
          | none => rfl
          | some v => exact absurd (List.mem_append_left _ ((hm z).mpr ⟨v, q⟩)) n
        refine ⟨t1.z z n1, ?_⟩
        cases q : valV kvs2 (.inr z) with
        | none => exact t2.z z q
        | some v =>
          rcases hc z (List.mem_map.mpr ⟨_, valV_mem q, rfl⟩) with ⟨u, hu⟩ | m
          · rw [n1] at hu
            cases hu
          · exact absurd (List.mem_append_right _ m) n
      have l120 : L.length ≤ 120 := by rw [← hL, List.length_append]; omega
      fail "rd"
      refine for_list (D := ⟨_, _, fun _ _ => True, fun _ _ => True⟩) (K := K) (a := l2) (xs := L.map V.str) (fun i σ' H' => ∃ (v1 v2 v3 v4 v5 : Option V), σ' = [some (.ref d1), some (.ref d2), some (.int s), some (.ref S), v1, v2, v3, v4, v5] ∧ Same H H' ∧ H' l2 = some (.lst (L.map V.str)) ∧ TabAt H' S N (doneF (L.take i) (sumF s f g)))
        ⟨_, _, _, _, _, rfl, sB, e_l2, [], hS, .nil fun z => by show doneF _ _ z = _; unfold doneF; simp⟩ (fun i σ' H' _ ⟨_, _, _, _, _, _, _, h, _⟩ => SqL.of h) ?_ ?_
      · rintro i x σ' H5 hx ⟨v1, v2, v3, v4, v5, rfl, s5, hl5, kv, hS5, hT⟩
        obtain ⟨y, hy, rfl⟩ : ∃ y, L[i]? = some y ∧ V.str y = x := by
          rw [List.getElem?_map] at hx
          exact Option.map_eq_some_iff.mp hx
        have hyN := LN y (List.mem_of_getElem? hy)
        fail "rd"
        refine ⟨.inl ⟨kvs, .inl (s5 _ _ hd1)⟩, ?_⟩
        fail "rd"
        intro p1 n_p1
        generalize g_H6 : upd _ p1 _ = H6
        obtain ⟨s_H6, e_p1⟩ := gen_new n_p1 g_H6
        clear g_H6
        have s6 := s5.trans s_H6
        refine ⟨_, dget_at (.inl (s6 _ _ hd1)), ?_⟩
        obtain ⟨u1, eu1, hu1⟩ := get_tup (z := y) (t1.mono (R' := TupF f H6) (fun _ _ => TupF.same s6) fun _ z => z) e_p1
        rw [eu1]
        fail "rd"
        refine ⟨.inl ⟨kvs2, .inl (s6 _ _ hd2)⟩, ?_⟩
        fail "rd"
        intro p2 n_p2
        generalize g_H7 : upd _ p2 _ = H7
        obtain ⟨s_H7, e_p2⟩ := gen_new n_p2 g_H7
        clear g_H7
        have s7 := s6.trans s_H7
        refine ⟨_, dget_at (.inl (s7 _ _ hd2)), ?_⟩
        obtain ⟨u2, eu2, hu2⟩ := get_tup (z := y) (t2.mono (R' := TupF g H7) (fun _ _ => TupF.same s7) fun _ z => z) e_p2
        rw [eu2]
        have zs : Sz 1 s := by
          rcases hs with rfl | rfl
          · exact Sz.one
          · exact Sz.one.neg
        have m1 : IntMulOk (f y).1 (g y).2 := (sf y).1.mok (sg y).2
        have m2 : IntMulOk s (g y).1 := zs.mok (sg y).1
        have m3 : IntMulOk (s * (g y).1) (f y).2 := (zs.mul (sg y).1).mok (sf y).2
        have m4 : IntMulOk (f y).2 (g y).2 := (sf y).2.mok (sg y).2
        have nz : (f y).2 * (g y).2 ≠ 0 := Int.mul_ne_zero (by have := (rf y).pos; omega) (by have := rg y; omega)
        fail "rd"
        refine ⟨nz, ((sf y).2.mul (sg y).2).lg, fun p3 H8 s8 n8 e8 => ?_⟩
        have s78 := s_H6.trans (s_H7.trans s8)
        have hS8 := s78 _ _ hS5
        fail "rd"
        refine ⟨S, _, rfl, DPut.k (k := Sum.inr y) hS8 (hT.k.line hN), ?_⟩
        have hT8 := (hT.mono (R' := TupF _ H8) (fun _ _ => TupF.same s78) fun _ z => z).setT (x := sumF s f g y) hS8 hyN e8
        refine ⟨_, _, _, _, _, rfl, same_put n_S (s5.trans s78), ?_, ?_⟩
        · rw [upd_ne (ne_of (s78 _ _ hl5) hS8 fun z => nomatch z)]
          exact s78 _ _ hl5
        · rw [List.take_add_one, hy]
          show TabAt _ S N (doneF (L.take i ++ [y]) (sumF s f g))
          rw [doneF_snoc]
          exact hT8
      · rintro σ' H5 ⟨v1, v2, v3, v4, v5, rfl, s5, hl5, hT⟩
        rw [List.length_map, List.take_length] at hT
        have e : doneF L (sumF s f g) = sumF s f g := by
          funext z
          unfold doneF
          by_cases c : z ∈ L
          · rw [if_pos c]
          · rw [if_neg c, sumF_off (LZ z c).1 (LZ z c).2]
        rw [e] at hT
        fail "rd"
        exact k S H5 n_S s5 hT

abbrev s_l_never_greater : Stmt := top 30
theorem sc_l_never_greater : FnScope ["_law_one", "_law_other", "_law_names_here", "_law_name", "_law_left", "_law_right"] ["_law_one", "_law_other", "_law_names_here"] (defScope s_l_never_greater) := ⟨rfl, rfl, rfl, by decide +kernel, rfl, by decide +kernel, by decide +kernel⟩
def sp_l_never_greater (_ : PySem.W.Frag) (ca : Nat → Addr) : Sp := fun vs H Q _ => ∃ (d1 d2 ln : Addr) (N M : List Str) (f g : Fm), vs = [.ref d1, .ref d2, .ref ln] ∧ TabAt H d1 M f ∧ TabAt H d2 M g ∧ H ln = some (.lst (N.map V.str)) ∧ SzF 4000 f ∧ SzF 4000 g ∧
  ∀ (b : Bool) (H' : Hp), Same H H' → (b = true ↔ ∀ z ∈ N, leQ (f z) (g z)) → Q (.bl b) H'
theorem ok_l_never_greater {f : Addr} {fd : FuncData} (F : Fun K "_law_never_greater" "_law_never_greater" s_l_never_greater f fd) (T : Txt K mg ca)  : FnOk P w K mg base (L2N.CX P w) 1 f fd ["_law_one", "_law_other", "_law_names_here"] (sp_l_never_greater K ca) := by
  refine okN F sc_l_never_greater (fun vs H Q E h => ?_) (fun cdv A outer s H vs Q E hr h => ?_)
  · obtain ⟨_, _, _, _, _, _, _, rfl, _⟩ := h
    rfl
  · obtain ⟨d1, d2, ln, N, M, f, g, rfl, h1, h2, hl, zf, zg, k⟩ := h
    refine ⟨_, pss_cons (ps_for (passes_of rfl) rfl (pi_list (pv 2)) (pg_name (i := 3) sc_l_never_greater.nd rfl (Or.inl rfl)) (pss_cons (ps_set (i := 4) sc_l_never_greater.nd rfl (Or.inl rfl) (pe_dget2 (hu_of (hr.mono (Nat.zero_le _))) (pv 0) (pv 3) (pe_tup (pa_cons pe_int (pa_cons pe_int pa_nil))) ⟨rfl, rfl, rfl, rfl⟩)) (pss_cons (ps_set (i := 5) sc_l_never_greater.nd rfl (Or.inl rfl) (pe_dget2 (hu_of (hr.mono (Nat.zero_le _))) (pv 1) (pv 3) (pe_tup (pa_cons pe_int (pa_cons pe_int pa_nil))) ⟨rfl, rfl, rfl, rfl⟩)) (pss_one (ps_if (pt_cmpR op_gt (pe_op op_mulI (pe_ix ix_tup (pv 4) pe_int (fun _ _ => rfl)) (pe_ix ix_tup (pv 5) pe_int (fun _ _ => rfl))) (pe_op op_mulI (pe_ix ix_tup (pv 5) pe_int (fun _ _ => rfl)) (pe_ix ix_tup (pv 4) pe_int (fun _ _ => rfl))) (nomark _)) (pss_one (ps_ret pe_bl)) pss_nil))))) (pss_one (ps_ret pe_bl)), ?_⟩
    fail "rd"
    refine for_list (K := K) (a := ln) (xs := N.map V.str) (fun i σ' H' => ∃ v1 v2 v3, σ' = [some (.ref d1), some (.ref d2), some (.ref ln), v1, v2, v3] ∧ Same H H' ∧ ∀ z ∈ N.take i, leQ (f z) (g z)) ⟨none, none, none, rfl, Same.refl _, fun z m => nomatch m⟩ (fun i σ' H' _ ⟨_, _, _, _, s, _⟩ => SqL.of (s _ _ hl)) ?_ ?_
    · rintro i x σ' H1 hi ⟨v1, v2, v3, rfl, s1, hP⟩
      obtain ⟨y, hy, rfl⟩ : ∃ y, N[i]? = some y ∧ V.str y = x := by
        rw [List.getElem?_map] at hi
        exact Option.map_eq_some_iff.mp hi
      obtain ⟨kv1, e1, t1⟩ := h1.same s1
      obtain ⟨kv2, e2, t2⟩ := h2.same s1
      fail "rd"
      refine ⟨.inl ⟨kv1, .inl e1⟩, ?_⟩
      fail "rd"
      intro p1 n_p1
      generalize g_H2 : upd _ p1 _ = H2
      obtain ⟨s_H2, e_p1⟩ := gen_new n_p1 g_H2
      clear g_H2
      refine ⟨_, dget_at (.inl (s_H2 _ _ e1)), ?_⟩
      obtain ⟨u1, eu1, hu1⟩ := get_tup (z := y) (t1.mono (R' := TupF f H2) (fun _ _ => TupF.same s_H2) fun _ z => z) e_p1
      rw [eu1]
      fail "rd"
      refine ⟨.inl ⟨kv2, .inl (s_H2 _ _ e2)⟩, ?_⟩
      fail "rd"
      intro p2 n_p2
      generalize g_H3 : upd _ p2 _ = H3
      obtain ⟨s_H3, e_p2⟩ := gen_new n_p2 g_H3
      clear g_H3
      have s3 := s_H2.trans s_H3
      refine ⟨_, dget_at (.inl (s3 _ _ e2)), ?_⟩
      obtain ⟨u2, eu2, hu2⟩ := get_tup (z := y) (t2.mono (R' := TupF g H3) (fun _ _ => TupF.same s3) fun _ z => z) e_p2
      rw [eu2]
      have hu1 := s_H3 _ _ hu1
      have m1 : IntMulOk (f y).1 (g y).2 := (zf y).1.mok (zg y).2
      have m2 : IntMulOk (g y).1 (f y).2 := (zg y).1.mok (zf y).2
      fail "rd"
      refine iteD (fun c => ?_) (fun c => ?_)
      · fail "rd"
        refine k false H3 (s1.trans s3) ⟨fun q => Bool.noConfusion q, fun a => absurd (a y (List.mem_of_getElem? hy)) ?_⟩
        unfold leQ
        omega
      · refine ⟨_, _, _, rfl, s1.trans s3, fun z m => ?_⟩
        rw [List.take_succ, hy] at m
        rcases List.mem_append.mp m with m | m
        · exact hP z m
        · rw [show z = y by simpa using m]
          unfold leQ
          omega
    · rintro σ' H1 ⟨v1, v2, v3, rfl, s1, hP⟩
      rw [List.length_map, List.take_length] at hP
      fail "rd"
      exact k true H1 s1 ⟨fun _ => hP, fun _ => rfl⟩

abbrev s_is_name : Stmt := top 13
theorem sc_is_name : FnScope ["name"] ["name"] (defScope s_is_name) := ⟨rfl, rfl, rfl, by decide +kernel, rfl, by decide +kernel, by decide +kernel⟩
def sp_is_name (_ : PySem.W.Frag) (_ : Nat → Addr) : Sp := fun vs H Q _ => ∃ z : Str, vs = [.str z] ∧ z.length ≤ 1000 ∧ Q (.bl (nmB z)) H
theorem ok_is_name {f : Addr} {fd : FuncData} (F : Fun K "is_name" "is_name" s_is_name f fd) (T : Txt K mg ca)  : FnOk P w K mg base (L2N.CX P w) 1 f fd ["name"] (sp_is_name K ca) := by
  refine okN F sc_is_name (fun vs H Q E h => ?_) (fun cdv A outer s H vs Q E hr h => ?_)
  · obtain ⟨_, rfl, _⟩ := h
    rfl
  · obtain ⟨z, rfl, hz, k⟩ := h
    refine ⟨_, pss_cons (ps_if (PW.pt (pw_or (pt_not (pt_val (pe_callB call_isi (by rfl) T.b_isinstance (by decide +kernel) (pa_cons (pv 0) (pa_cons (pe_bltn (v := .ty "str") (by rfl) T.b_str (by decide +kernel) rfl) pa_nil))))) (pw_or1 (pt_cmpR op_gt (pe_callB call_len_str (by rfl) T.b_len (by decide +kernel) (pa_cons (pv 0) pa_nil)) (pe_const T.c__LONGEST rfl) (nomark _))))) (pss_one (ps_ret pe_bl)) pss_nil) (pss_one (ps_ret (pe_and (pe_m0 PySem.F.slot_str_isascii PySem.F.type_str_isascii mt_isascii (pv 0)) (pe_and (pe_m0 PySem.F.slot_str_isalpha PySem.F.type_str_isalpha mt_isalpha (pv 0)) (pe_one (pe_m0 PySem.F.slot_str_islower PySem.F.type_str_islower mt_islower (pv 0))))))), ?_⟩
    fail "rd"
    refine ⟨_, _, _, _, true, rfl, .ty "str", .base (.str _), kit_ty (by decide +kernel), ?_⟩
    fail "rd"
    refine ⟨Nat.le_trans hz (line_le (by decide)), ?_⟩
    fail "rd"
    unfold nmB at k
    refine iteD (fun y => ?_) (fun y => ?_)
    · fail "rd"
      rw [decide_eq_false (by omega)] at k
      exact k
    · rw [decide_eq_true (by omega)] at k
      fail "rd"
      cases h1 : Txt.isascii z
      · rw [h1] at k
        fail "rd"
        exact k
      · rw [h1] at k
        fail "rd"
        cases h2 : Txt.isalpha z
        · rw [h2] at k
          fail "rd"
          exact k
        · rw [h2] at k
          fail "rd"
          exact k

abbrev s_BadName_init : Stmt := inClass (top 5) 0
theorem sc_BadName_init : FnScope ["self", "name"] ["self", "name"] (defScope s_BadName_init) := ⟨rfl, rfl, rfl, by decide +kernel, rfl, by decide +kernel, by decide +kernel⟩
theorem ok_BadName_init {f : Addr} {fd : FuncData} (F : Fun K "__init__" "BadName.__init__" s_BadName_init f fd) (T : Txt K mg ca)  : FnOk P w K mg base (L2N.CX P w) 1 f fd ["self", "name"] (spErr (ca 4) ["name"]) := by
  refine okN F sc_BadName_init (fun vs H Q E h => ?_) (fun cdv A outer s H vs Q E hr h => ?_)
  · obtain ⟨a, us, rfl, hl, _⟩ := h
    exact congrArg Nat.succ hl
  · obtain ⟨a, us, rfl, hl, ha, k⟩ := h
    obtain ⟨x0, rfl⟩ := list_1 hl
    refine ⟨_, pss_one (ps_ost (pv 0) (pv 1)), ?_⟩
    refine ⟨_, rfl, _, rfl, ?_⟩
    refine err_1 T.ox_BadName T.nf_BadName_name ha fun dx H1 nd ne a1 d1 m1 => ?_
    exact k dx _ nd ne a1 d1 fun b o e n => m1 _ _ e n
abbrev s_check_names : Stmt := top 14
theorem sc_check_names : FnScope ["names", "wrong", "name"] ["names"] (defScope s_check_names) := ⟨rfl, rfl, rfl, by decide +kernel, rfl, by decide +kernel, by decide +kernel⟩
/-- the least of the words that are no names -/
def Bad1 (ks : List Str) (w : Str) : Prop := w ∈ ks ∧ nmB w = false ∧ ∀ y ∈ ks, nmB y = false → ¬ TL.tl y < TL.tl w
def sp_check_names (_ : PySem.W.Frag) (ca : Nat → Addr) : Sp := fun vs H Q E => ∃ (d : Addr) (kvs : List (Key × V)) (ks : List Str), vs = [.ref d] ∧ H d = some (.dK kvs) ∧ KOk ks kvs ∧ (∀ z ∈ ks, (Sum.inr z : Key) ∈ kvs.map (·.1)) ∧ ks.length ≤ 1000 ∧ (∀ z ∈ ks, z.length ≤ 1000) ∧
  ((∀ z ∈ ks, nmB z = true) → ∀ H' : Hp, Same H H' → Q .non H') ∧ (∀ w, Bad1 ks w → ∀ (e : Addr) (H' : Hp), Same H H' → H' e = some (.xd [("name", .str w)]) → E (.ref (ca 4)) (some e) H')
theorem ok_check_names {f : Addr} {fd : FuncData} (F : Fun K "check_names" "check_names" s_check_names f fd) (T : Txt K mg ca) (O_is_name : Own P w K mg base 1 "is_name" ["name"] (sp_is_name K ca)) (O_BadName_init : OwnE P w K mg base "BadName" (ca 4) ["name"]) : FnOk P w K mg base (L2N.CX P w) 3 f fd ["names"] (sp_check_names K ca) := by
  refine okN F sc_check_names (fun vs H Q E h => ?_) (fun cdv A outer s H vs Q E hr h => ?_)
  · obtain ⟨_, _, _, rfl, _⟩ := h
    rfl
  · obtain ⟨d, kvs, ks, rfl, hd, hk, hal, l1, l2, k, kE⟩ := h
    refine ⟨_, pss_cons (ps_lk (ps_setLc (i := 1) (own := [("name", 2)]) (g := gName 2) rfl sc_check_names.nd rfl rfl (sw_true rfl rfl rfl (by decide +kernel)) (pi_keys (pv 0)) (blkOk_by (N := ["names", "wrong", "name"]) (sc := defScope s_check_names) (by decide +kernel)) (fun _ _ _ _ _ => pg_name (i := 2) sc_check_names.nd rfl (Or.inl rfl)) (fun _ _ _ _ _ => pts_one (pt_not (pt_val (pe_own O_is_name (hr.mono (by decide)) rfl pas0 (pa_cons (pv 2) pa_nil))))) (fun _ _ _ _ _ => pv 2))) (pss_one (ps_if (pt_truth (pv 1) (fun _ => rfl)) (pss_one (ps_raiseE rfl O_BadName_init (hr.mono (by decide)) (L2N.takes_of rfl rfl rfl rfl) rfl (pa_cons (pe_callB (cr_minS rfl) (by rfl) T.b_min (by decide +kernel) (pa_cons (pv 1) pa_nil)) pa_nil))) pss_nil)), ?_⟩
    refine ⟨.inl ⟨d, _, hd, True.intro, fun od => ?_⟩⟩
    refine ⟨_, rfl, d, od, rfl, .inl ⟨kvs, upd_same, fun D hD => lc_names hk (fun i H' => Same (upd H d (.frz od (.dK kvs))) H' ∧ ∃ ws : List Str, H' D = some (.lst (ws.map V.str)) ∧ ws.length ≤ i ∧ (∀ w ∈ ws, w ∈ ks ∧ nmB w = false) ∧ ∀ y, (Sum.inr y : Key) ∈ (kvs.take i).map (·.1) → nmB y = false → y ∈ ws)
      ⟨same_upd hD, [], upd_same, Nat.le_refl _, (fun w m => by cases m), (fun y m => by cases m)⟩ (fun i H' _ s => s.1 _ _ upd_same) ?_ ?_⟩⟩
    · rintro i z v H' hi hz hv ⟨s, ws, e, lw, h1, h2⟩
      fail "rd"
      refine ⟨l2 z hz, ?_⟩
      have step : ∀ y, (Sum.inr y : Key) ∈ (kvs.take (i + 1)).map (·.1) → nmB y = false → y ∈ ws ∨ y = z := fun y m n => by
        rcases (take_mem hi).mp m with m | m
        · exact .inl (h2 y m n)
        · exact .inr (Sum.inr.inj m)
      have li : i < kvs.length := (List.getElem?_eq_some_iff.mp hi).1
      have lk := hk.len
      cases hn : nmB z
      · fail "rd"
        refine ⟨_, e, Nat.lt_of_lt_of_le (show (ws.map V.str).length < 2000 by rw [List.length_map]; omega) (line_le (by decide)), ?_⟩
        have sn : ws.map V.str ++ [V.str z] = (ws ++ [z]).map V.str := by simp
        rw [sn]
        refine ⟨fun b o q => ?_, _, upd_same, by rw [List.length_append]; exact Nat.succ_le_succ lw, fun w m => ?_, fun y m n => ?_⟩
        · have nb : b ≠ D := ne_of_none q hD
          rw [upd_ne nb]
          exact s _ _ q
        · rcases List.mem_append.mp m with m | m
          · exact h1 w m
          · rw [List.mem_singleton.mp m]
            exact ⟨hz, hn⟩
        · rcases step y m n with q | q
          · exact List.mem_append.mpr (.inl q)
          · exact List.mem_append.mpr (.inr (List.mem_singleton.mpr q))
      · fail "rd"
        refine ⟨s, ws, e, by omega, h1, fun y m n => ?_⟩
        rcases step y m n with q | q
        · exact q
        · rw [q, hn] at n
          cases n
    · rintro H' ⟨s, ws, e, lw, h1, h2⟩
      refine ⟨s _ _ upd_same, ?_⟩
      have nd : D ≠ d := fun q => by rw [q, upd_same] at hD; cases hD
      have s2 := same_lock hd s
      have e2 : upd H' d (.dK kvs) D = some (.lst (ws.map V.str)) := by rw [upd_ne nd]; exact e
      generalize upd H' d (.dK kvs) = H2 at *
      fail "rd"
      have all : ∀ y ∈ ks, nmB y = false → y ∈ ws := fun y m n => h2 y (by rw [List.take_length]; exact hal y m) n
      refine ⟨!ws.isEmpty, .inl ⟨_, SqL.of e2, by cases ws <;> rfl⟩, ?_⟩
      cases ew : ws with
      | nil =>
        refine iteBF rfl ?_
        refine k (fun z m => ?_) _ s2
        cases hn : nmB z
        · exact absurd (all z m hn) (by rw [ew]; exact List.not_mem_nil)
        · rfl
      | cons w0 wr =>
        refine iteBT rfl ?_
        refine ⟨_, rfl, D, ws, rfl, SqL.of e2, by rw [ew]; simp, fun w m hm => ?_⟩
        refine err_in rfl (by decide) fun e3 H3 _ s3 q3 => kE w ⟨(h1 w m).1, (h1 w m).2, fun y my n => hm y (all y my n)⟩ e3 H3 (s2.trans s3) q3

abbrev s_as_ratio : Stmt := top 9
theorem sc_as_ratio : FnScope ["number"] ["number"] (defScope s_as_ratio) := ⟨rfl, rfl, rfl, by decide +kernel, rfl, by decide +kernel, by decide +kernel⟩
def sp_as_ratio (_ : PySem.W.Frag) (ca : Nat → Addr) : Sp := fun vs H Q _ => ∃ (x : V) (t b : Int), vs = [x] ∧ NumV ca H x t b ∧ ∀ (p : Addr) (H' : Hp), Same H H' → RatAt ca H' p t b → Q (.ref p) H'
theorem ok_as_ratio {f : Addr} {fd : FuncData} (F : Fun K "as_ratio" "as_ratio" s_as_ratio f fd) (T : Txt K mg ca) (O_Ratio_2 : OwnI P w K mg base 1 "Ratio" (ca 2) ["self", "top", "bottom"] [] (sp_Ratio_init K ca)) (O_Ratio_1 : OwnI P w K mg base 1 "Ratio" (ca 2) ["self", "top", "bottom"] [.int 1] (sp_Ratio_init K ca)) : FnOk P w K mg base (L2N.CX P w) 3 f fd ["number"] (sp_as_ratio K ca) := by
  refine okN F sc_as_ratio (fun vs H Q E h => ?_) (fun cdv A outer s H vs Q E hr h => ?_)
  · obtain ⟨_, _, _, rfl, _⟩ := h
    rfl
  · obtain ⟨x, t, b, rfl, hn, k⟩ := h
    refine ⟨_, pss_cons (ps_if (pt_val (pe_callB call_isi (by rfl) T.b_isinstance (by decide +kernel) (pa_cons (pv 0) (pa_cons (pe_glob (v := .ref (ca 2)) (by rfl) T.g_Ratio rfl) pa_nil)))) (pss_one (ps_ret (pv 0))) pss_nil) (pss_one (ps_ret (pe_owni O_Ratio_1 (hr.mono (by decide)) rfl pas0 (pa_cons (pv 0) pa_nil)))), ?_⟩
    rcases hn with ⟨rfl, rfl⟩ | ⟨p, rfl, hR⟩
    · fail "rd"
      refine ⟨_, _, _, _, _, rfl, .own _, .base (.int _), T.ki_int_Ratio, ?_⟩
      fail "rd"
      intro p dx np nd ne
      refine ⟨p, dx, t, 1, rfl, upd_same, by decide, fun z => absurd z (by decide), fun _ H2 k2 e2 => ⟨rfl, ?_⟩⟩
      refine k p H2 (same_made np nd ne k2) ⟨red_one, dx, ?_⟩
      rw [e2, nrm_one]
    · obtain ⟨hr1, dx, hp⟩ := id hR
      fail "rd"
      refine ⟨_, _, _, _, _, rfl, .own _, .base (.ins hp T.cl_Ratio T.ic_Ratio T.in_Ratio T.it_Ratio T.im_Ratio), kit_self, ?_⟩
      fail "rd"
      exact k p H (Same.refl H) hR

abbrev s_Ratio_same : Stmt := inClass (top 10) 12
theorem sc_Ratio_same : FnScope ["self", "other", "number"] ["self", "other"] (defScope s_Ratio_same) := ⟨rfl, rfl, rfl, by decide +kernel, rfl, by decide +kernel, by decide +kernel⟩
def sp_Ratio_same (_ : PySem.W.Frag) (ca : Nat → Addr) : Sp := fun vs H Q _ => ∃ (p : Addr) (x : V) (t b t' b' : Int), vs = [.ref p, x] ∧ RatAt ca H p t b ∧ NumV ca H x t' b' ∧ ∀ H' : Hp, Same H H' → Q (.bl (decide (t = t' ∧ b = b'))) H'
theorem ok_Ratio_same {f : Addr} {fd : FuncData} (F : Fun K "same" "Ratio.same" s_Ratio_same f fd) (T : Txt K mg ca) (O_as_ratio : Own P w K mg base 3 "as_ratio" ["number"] (sp_as_ratio K ca)) : FnOk P w K mg base (L2N.CX P w) 4 f fd ["self", "other"] (sp_Ratio_same K ca) := by
  refine okN F sc_Ratio_same (fun vs H Q E h => ?_) (fun cdv A outer s H vs Q E hr h => ?_)
  · obtain ⟨_, _, _, _, _, _, rfl, _⟩ := h
    rfl
  · obtain ⟨p, x, t, b, t', b', rfl, hR, hn, k⟩ := h
    refine ⟨_, pss_cons (ps_set (i := 2) sc_Ratio_same.nd rfl (Or.inl rfl) (pe_own O_as_ratio (hr.mono (by decide)) rfl pas0 (pa_cons (pv 1) pa_nil))) (pss_one (ps_ret (pe_and (pe_cmpR op_eq (pe_fld (pv 0) rfl) (pe_fld (pv 2) rfl) (nomark _)) (pe_one (pe_cmpR op_eq (pe_fld (pv 0) rfl) (pe_fld (pv 2) rfl) (nomark _)))))), ?_⟩
    fail "rd"
    refine ⟨x, t', b', rfl, hn, fun q H1 s1 hq => ?_⟩
    obtain ⟨_, dx, hp⟩ := hR.same s1
    obtain ⟨_, dy, hq⟩ := hq
    fail "rd"
    refine iteI (fun z1 => ?_) (fun z1 => ?_)
    · fail "rd"
      have k1 := k H1 s1
      by_cases z2 : b = b'
      · rw [decide_eq_true ⟨z1, z2⟩] at k1
        rw [decide_eq_true (congrArg V.int z2)]
        exact k1
      · rw [decide_eq_false fun z => z2 z.2] at k1
        rw [decide_eq_false fun z => z2 (V.int.inj z)]
        exact k1
    · have k1 := k H1 s1
      rw [decide_eq_false fun z => z1 z.1] at k1
      exact k1

abbrev s_Form_init : Stmt := inClass (top 16) 0
theorem sc_Form_init : FnScope ["self", "shares", "ratios", "name"] ["self", "shares"] (defScope s_Form_init) := ⟨rfl, rfl, rfl, by decide +kernel, rfl, by decide +kernel, by decide +kernel⟩
/-- keys of which some are no names, w the least of these -/
def FormBad (ca : Nat → Addr) (H : Hp) (x : V) (E : XK) : Prop := ∃ (d : Addr) (kvs : List (Key × V)) (ks : List Str) (w : Str), x = .ref d ∧ H d = some (.dK kvs) ∧ KOk ks kvs ∧ (∀ z ∈ ks, (Sum.inr z : Key) ∈ kvs.map (·.1)) ∧ ks.length ≤ 1000 ∧ (∀ z ∈ ks, z.length ≤ 1000) ∧ Bad1 ks w ∧
  ∀ (e : Addr) (H' : Hp), Same H H' → H' e = some (.xd [("name", .str w)]) → E (.ref (ca 4)) (some e) H'
theorem bad1_uniq {ks : List Str} {w v : Str} (h : Bad1 ks w) (k : Bad1 ks v) : w = v := tl_inj (List.le_antisymm (List.not_lt.mp (h.2.2 v k.1 k.2.1)) (List.not_lt.mp (k.2.2 w h.1 h.2.1)))
def sp_Form_init (_ : PySem.W.Frag) (ca : Nat → Addr) : Sp := fun vs H Q E => ∃ (p dx : Addr) (x : V), vs = [.ref p, x] ∧ H p = some (.ins (ca 3) dx []) ∧ ((∃ (N : List Str) (f : Fm), Uni N ∧
  ((x = .non ∧ ∀ z, f z = (0, 1)) ∨ ∃ d kvs, x = .ref d ∧ H d = some (.dK kvs) ∧ Tab N (NumR ca f H) (ShZ f) kvs) ∧
  ∀ (H' : Hp) (d' : Addr), H d' = none → Keep p H H' → H' p = some (.ins (ca 3) dx [("_shares", .ref d')]) → FormSh ca H' d' N f → Q .non H') ∨ FormBad ca H x E)
theorem form_in {K : PySem.W.Frag} {ca : Nat → Addr} {H : Hp} {x : V} {N : List Str} {f : Fm} {R : VK} {E : XK} {p dx : Addr} (n : H p = none) (nd : H dx = none) (ne : dx ≠ p) (hN : Uni N)
    (hx : (x = .non ∧ ∀ z, f z = (0, 1)) ∨ ∃ d kvs, x = .ref d ∧ H d = some (.dK kvs) ∧ Tab N (NumR ca f H) (ShZ f) kvs)
    (k : ∀ (d : Addr) (H' : Hp), H d = none → Same H H' → H' p = some (.ins (ca 3) dx [("_shares", .ref d)]) → FormSh ca H' d N f → R .non H') :
    sp_Form_init K ca [.ref p, x] (upd (upd H dx (.own p)) p (.ins (ca 3) dx [])) R E := by
  have n2 : upd H dx (.own p) p = none := by rw [upd_ne ne.symm]; exact n
  have s : Same H (upd (upd H dx (.own p)) p (.ins (ca 3) dx [])) := (same_upd nd).trans (same_upd n2)
  refine ⟨p, dx, x, rfl, upd_same, .inl ⟨N, f, hN, ?_, fun H' d' nd' k' e' F => k d' H' (s.free nd') (same_made n nd ne k') e' F⟩⟩
  rcases hx with h | ⟨d, kvs, e, hd, t⟩
  · exact .inl h
  · exact .inr ⟨d, kvs, e, s _ _ hd, t.mono (fun _ _ => NumR.same s) fun _ z => z⟩
theorem form_made2 {K : PySem.W.Frag} {ca : Nat → Addr} {H : Hp} {x : V} {N : List Str} {f : Fm} {Q : VK} {E : XK} (hN : Uni N)
    (hx : (x = .non ∧ ∀ z, f z = (0, 1)) ∨ ∃ d kvs, x = .ref d ∧ H d = some (.dK kvs) ∧ Tab N (NumR ca f H) (ShZ f) kvs)
    (k : ∀ (r dx d : Addr) (H' : Hp), H r = none → H d = none → Same H H' → H' r = some (.ins (ca 3) dx [("_shares", .ref d)]) → FormSh ca H' d N f → Q (.ref r) H') :
    ∀ p dx, H p = none → H dx = none → dx ≠ p → sp_Form_init K ca [.ref p, x] (upd (upd H dx (.own p)) p (.ins (ca 3) dx [])) (fun v H2 => v = .non ∧ Q (.ref p) H2) E :=
  fun p dx n nd ne => form_in n nd ne hN hx fun d H' nd' s e F => ⟨rfl, k p dx d H' n nd' s e F⟩
theorem form_made {K : PySem.W.Frag} {ca : Nat → Addr} {H : Hp} {x : V} {N : List Str} {f : Fm} {Q : VK} {E : XK} (hN : Uni N)
    (hx : (x = .non ∧ ∀ z, f z = (0, 1)) ∨ ∃ d kvs, x = .ref d ∧ H d = some (.dK kvs) ∧ Tab N (NumR ca f H) (ShZ f) kvs) (k : ∀ (r : Addr) (H' : Hp), H r = none → Same H H' → FormAt ca H' r N f → Q (.ref r) H') :
    ∀ p dx, H p = none → H dx = none → dx ≠ p → sp_Form_init K ca [.ref p, x] (upd (upd H dx (.own p)) p (.ins (ca 3) dx [])) (fun v H2 => v = .non ∧ Q (.ref p) H2) E :=
  form_made2 hN hx fun r dx d H' nr _ s e F => k r H' nr s ⟨dx, d, e, F⟩
theorem form_bad {K : PySem.W.Frag} {ca : Nat → Addr} {H : Hp} {x : V} {R : VK} {E : XK} {p dx : Addr} (n : H p = none) (nd : H dx = none) (ne : dx ≠ p) (h : FormBad ca H x E) : sp_Form_init K ca [.ref p, x] (upd (upd H dx (.own p)) p (.ins (ca 3) dx [])) R E := by
  have n2 : upd H dx (.own p) p = none := by rw [upd_ne ne.symm]; exact n
  have s : Same H (upd (upd H dx (.own p)) p (.ins (ca 3) dx [])) := (same_upd nd).trans (same_upd n2)
  obtain ⟨d, kvs, ks, w, hx, hd, a, b, c, e, f, k⟩ := h
  exact ⟨p, dx, x, rfl, upd_same, .inr ⟨d, kvs, ks, w, hx, s _ _ hd, a, b, c, e, f, fun e H' s' q => k e H' (s.trans s') q⟩⟩
theorem ok_Form_init {f : Addr} {fd : FuncData} (F : FunD K "__init__" "Form.__init__" (defArgs s_Form_init) (defBody s_Form_init) (defScope s_Form_init) [.non] [] f fd) (T : Txt K mg ca) (O_check_names : Own P w K mg base 3 "check_names" ["names"] (sp_check_names K ca)) (O_as_ratio : Own P w K mg base 3 "as_ratio" ["number"] (sp_as_ratio K ca)) (O_Ratio_same : OwnM P w K mg base 4 (ca 2) "same" ["self", "other"] (sp_Ratio_same K ca)) : FnOk P w K mg base (L2N.CX P w) 5 f fd ["self", "shares"] (sp_Form_init K ca) := by
  refine F.ok sc_Form_init (fun vs H Q E h => ?_) (fun cdv A outer s H vs Q E hr h => ?_)
  · obtain ⟨_, _, _, rfl, _⟩ := h
    rfl
  · obtain ⟨p, dx, x, rfl, hp, h⟩ := h
    refine ⟨_, Evl.pss_cut (ps_if (pt_cmpR op_isN (pv 1) pe_non (nomark _)) (pss_one (ps_set (i := 1) sc_Form_init.nd rfl (Or.inr rfl) pe_dnewK)) pss_nil) (pss_cons (ps_expr (pe_own O_check_names (hr.mono (by decide)) rfl (pasE (L2N.takes_of rfl rfl rfl rfl)) (pa_cons (pv 1) pa_nil))) (pss_cons (ps_set (i := 2) sc_Form_init.nd rfl (Or.inr rfl) (pe_lk (pe_dc (own := [("name", 3)]) (g := gName 3) (tt := tYes) rfl sc_Form_init.nd (pi_keys (pv 1)) (blkOk_by (N := ["self", "shares", "ratios", "name"]) (sc := defScope s_Form_init) (by decide +kernel)) (fun _ _ _ _ _ => pg_name (i := 3) sc_Form_init.nd rfl (Or.inl rfl)) (fun _ _ _ _ _ => pts_nil) (fun _ _ _ _ _ => pv 3) (fun _ _ _ _ _ => pe_own O_as_ratio (hr.mono (by decide)) rfl pas0 (pa_cons (pe_dget (hu_of (hr.mono (Nat.zero_le _))) (pv 1) (pv 3) (fun _ _ => rfl)) pa_nil))))) (pss_one (ps_fld (pv 0) (pe_lk (pe_dc (own := [("name", 3)]) (g := gName 3) rfl sc_Form_init.nd (pi_keys (pv 2)) (blkOk_by (N := ["self", "shares", "ratios", "name"]) (sc := defScope s_Form_init) (by decide +kernel)) (fun _ _ _ _ _ => pg_name (i := 3) sc_Form_init.nd rfl (Or.inl rfl)) (fun _ _ _ _ _ => pts_one (pt_not (pt_val (pe_ownm O_Ratio_same (pe_dget (hu_of (hr.mono (Nat.zero_le _))) (pv 2) (pv 3) (fun _ _ => rfl)) (hr.mono (by decide)) pas0 (pa_cons pe_int pa_nil))))) (fun _ _ _ _ _ => pv 3) (fun _ _ _ _ _ => pe_dget (hu_of (hr.mono (Nat.zero_le _))) (pv 2) (pv 3) (fun _ _ => rfl)))) rfl)))), ?_⟩
    rcases h with ⟨N, f, hN, hx, k⟩ | ⟨db, kb, ks, w, rfl, hdb, hkb, hal, l1, l2, hw, kE⟩
    rotate_left
    · refine ⟨fun σ' H' => σ' = [some (.ref p), some (.ref db), none, none] ∧ Same H H', ?_, ?_⟩
      · fail "rd"
        exact Same.refl _
      rintro _ H1 ⟨rfl, s1⟩
      fail "rd"
      refine ⟨db, kb, ks, rfl, s1 _ _ hdb, hkb, hal, l1, l2, fun a => ?_, fun v hv e H2 s2 e2 => ?_⟩
      · exact absurd (a w hw.1) (by rw [hw.2.1]; exact Bool.false_ne_true)
      · rw [bad1_uniq hv hw] at e2
        exact kE e H2 (s1.trans s2) e2
    refine ⟨fun σ' H' => ∃ d kvs, σ' = [some (.ref p), some (.ref d), none, none] ∧ Same H H' ∧ H' d = some (.dK kvs) ∧ Tab N (NumR ca f H') (ShZ f) kvs, ?_, ?_⟩
    · rcases hx with ⟨rfl, hf⟩ | ⟨d, kvs, rfl, hd, ht⟩
      · fail "rd"
        refine iteDT rfl ?_
        fail "rd"
        intro d n_d
        generalize g_H1 : upd _ d _ = H1
        obtain ⟨s_H1, e_d⟩ := gen_new n_d g_H1
        clear g_H1
        fail "rd"
        exact ⟨d, [], rfl, s_H1, e_d, .nil, fun z v e => (by rw [valV_nil] at e; cases e), fun z _ => hf z⟩
      · fail "rd"
        refine iteDF (fun z => nomatch z) ?_
        exact ⟨d, kvs, rfl, Same.refl _, hd, ht⟩
    rintro σ' H1 ⟨d, kvs, rfl, s1, hd, ht⟩
    fail "rd"
    obtain ⟨ks, ek, ndk, hmk, lk⟩ := ht.k.names
    have subk : ∀ z ∈ ks, z ∈ N := fun z m => by
      obtain ⟨v, hv⟩ := (hmk z).mp m
      obtain ⟨y, hy, q⟩ := ht.k.mem _ (valV_mem hv)
      cases q
      exact hy
    refine ⟨d, kvs, ks, rfl, hd, ⟨ht.k.nd, fun kv m => ?_⟩, fun z m => by rw [ek]; exact List.mem_map.mpr ⟨z, m, rfl⟩, ?_, fun z m => ?_, fun _ H2 s2 => ?_, fun w hw => ?_⟩
    · have : kv.1 ∈ kvs.map (·.1) := List.mem_map.mpr ⟨kv, m, rfl⟩
      rw [ek] at this
      obtain ⟨z, hz, e⟩ := List.mem_map.mp this
      exact ⟨z, hz, e.symm⟩
    · have := ht.k.len
      have := hN.len
      omega
    · have := (hN.ok z (subk z m)).le
      omega
    rotate_left
    · exact absurd ((hN.ok w (subk w hw.1)).nm) (by rw [hw.2.1]; exact Bool.false_ne_true)
    have hd := s2 _ _ hd
    have ht : Tab N (NumR ca f H2) (ShZ f) kvs := ht.mono (fun _ _ => NumR.same s2) fun _ z => z
    refine ⟨.inl ⟨d, _, hd, True.intro, fun od => ?_⟩⟩
    refine ⟨_, rfl, d, od, rfl, .inl ⟨kvs, upd_same, fun D hD => dc_names ht.k (fun i H' => Same (upd H2 d (.frz od (.dK kvs))) H' ∧ ∃ new, H' D = some (.dK new) ∧ Part N (fun z v => ∃ q, v = .ref q ∧ RatAt ca H' q (f z).1 (f z).2) (ShZ f) kvs i new)
      ⟨same_upd hD, [], upd_same, .start⟩ (fun i H' _ s => s.1 _ _ upd_same) ?_ ?_⟩⟩
    · rintro i z v H' hi hz hv ⟨sH, new, hD', hP⟩
      fail "rd"
      refine ⟨d, v, rfl, dget (.inr ⟨od, sH _ _ upd_same⟩) hv, ?_⟩
      have hn : NumV ca H' v (f z).1 (f z).2 := ((ht.r z v hv).keep hd nd keep_upd).same sH
      refine ⟨v, _, _, rfl, hn, fun q H3 s3 hq => ?_⟩
      have hD3 := s3 _ _ hD'
      refine ⟨new, .inr z, rfl, hD3, hP.k.line hN, ?_⟩
      refine ⟨same_put hD (sH.trans s3), _, upd_same, ?_⟩
      exact (hP.mono (fun y u ⟨q, e, r⟩ => ⟨q, e, (r.same s3).keep hD3 nd keep_upd⟩) fun _ n => n).put hi hz ⟨q, rfl, hq.keep hD3 nd keep_upd⟩
    · rintro H' ⟨sH, new, hD', hP⟩
      refine ⟨sH _ _ upd_same, ?_⟩
      have hT := hP.done ht.z
      have sA := s2.trans (same_lock hd sH)
      have nD : D ≠ d := fun e => by rw [e, upd_same] at hD; cases hD
      have hD' : upd H' d (.dK kvs) D = some (.dK new) := by rw [upd_ne nD]; exact hD'
      have hfz := sH _ _ upd_same
      replace hT := hT.mono (R' := fun z v => ∃ q, v = .ref q ∧ RatAt ca (upd H' d (.dK kvs)) q (f z).1 (f z).2) (Z' := ShZ f) (fun _ _ ⟨q, e, r⟩ => ⟨q, e, r.keep hfz nf keep_upd⟩) fun _ n => n
      clear hP hfz
      generalize upd H' d (.dK kvs) = H3 at *
      fail "rd"
      refine ⟨.inl ⟨D, _, hD', True.intro, fun od2 => ?_⟩⟩
      refine ⟨_, rfl, D, od2, rfl, .inl ⟨new, upd_same, fun D2 hD2 => dc_names hT.k (fun i H' => Same (upd H3 D (.frz od2 (.dK new))) H' ∧ ∃ nw, H' D2 = some (.dK nw) ∧ Part N (ShR ca f H') (ShZ f) new i nw)
        ⟨same_upd hD2, [], upd_same, .start⟩ (fun i H' _ s => s.1 _ _ upd_same) ?_ ?_⟩⟩
      · rintro i z v H4 hi hz hv ⟨sH4, nw, hD4, hP⟩
        obtain ⟨q, rfl, hq⟩ := hT.r z v hv
        have hq := (hq.keep hD' nd (keep_upd (p := D))).same sH4
        obtain ⟨_, dq, eq⟩ := id hq
        fail "rd"
        refine ⟨D, _, rfl, dget (.inr ⟨od2, sH4 _ _ upd_same⟩) hv, ?_⟩
        fail "rd"
        refine ⟨q, _, _, _, 0, 1, rfl, hq, .inl ⟨rfl, rfl⟩, fun H5 s5 => ?_⟩
        fail "rd"
        have hD5 := s5 _ _ hD4
        refine iteDn (fun c => ?_) (fun c => ?_)
        · fail "rd"
          refine ⟨D, _, rfl, dget (.inr ⟨od2, s5 _ _ (sH4 _ _ upd_same)⟩) hv, ?_⟩
          refine ⟨nw, .inr z, rfl, hD5, hP.k.line hN, same_put hD2 (sH4.trans s5), _, upd_same, ?_⟩
          exact (hP.mono (fun y u r => ShR.keep hD5 nd keep_upd (ShR.same s5 r)) fun _ n => n).put hi hz ⟨q, rfl, (hq.same s5).keep hD5 nd keep_upd, fun e => c ⟨e, hq.1.zero e⟩⟩
        · exact ⟨sH4.trans s5, nw, hD5, (hP.mono (fun y u r => ShR.same s5 r) fun _ n => n).skip hi (Prod.ext c.1 c.2)⟩
      · rintro H4 ⟨sH4, nw, hD4, hP⟩
        refine ⟨sH4 _ _ upd_same, ?_⟩
        have hT2 := hP.done hT.z
        have sB := (s1.trans sA).trans (same_lock hD' sH4)
        have n2 : D2 ≠ D := fun e => by rw [e, upd_same] at hD2; cases hD2
        have hp2 := sB _ _ hp
        have nH : H D2 = none := (s1.trans sA).free (by rw [upd_ne n2] at hD2; exact hD2)
        have hfz := sH4 _ _ upd_same
        have hD5 : upd H4 D (.dK new) D2 = some (.dK nw) := by rw [upd_ne n2]; exact hD4
        replace hT2 := hT2.mono (R' := ShR ca f (upd H4 D (.dK new))) (Z' := ShZ f) (fun _ _ r => ShR.keep hfz nf keep_upd r) fun _ n => n
        clear hP hfz hT sH4 sH
        generalize upd H4 D (.dK new) = H6 at *
        fail "rd"
        generalize g_H7 : upd _ p _ = H7
        obtain ⟨k_H7, e_H7⟩ := gen_put g_H7
        clear g_H7
        rw [putF_nil] at e_H7
        exact k H7 D2 nH ((Keep.of sB).trans k_H7) e_H7 ⟨nw, k_H7 _ _ hD5 (ne_of hD5 hp2 fun z => nomatch z), hT2.mono (fun _ _ r => ShR.keepN hp2 k_H7 r) fun _ n => n⟩

abbrev s_Form_names : Stmt := inClass (top 16) 8
theorem sc_Form_names : FnScope ["self"] ["self"] (defScope s_Form_names) := ⟨rfl, rfl, rfl, by decide +kernel, rfl, by decide +kernel, by decide +kernel⟩
def sp_Form_names (_ : PySem.W.Frag) (ca : Nat → Addr) : Sp := fun vs H Q _ => ∃ (p : Addr) (N : List Str) (f : Fm), vs = [.ref p] ∧ FormAt ca H p N f ∧ Uni N ∧ ∀ (ys : List Str) (l : Addr) (H' : Hp), ys.Nodup → sortedS ys = true → (∀ z, z ∈ ys ↔ (f z).1 ≠ 0) → ys.length ≤ 60 →
  H l = none → Same H H' → H' l = some (.lst (ys.map V.str)) → Q (.ref l) H'
theorem ok_Form_names {f : Addr} {fd : FuncData} (F : Fun K "names" "Form.names" s_Form_names f fd) (T : Txt K mg ca)  : FnOk P w K mg base (L2N.CX P w) 1 f fd ["self"] (sp_Form_names K ca) := by
  refine okN F sc_Form_names (fun vs H Q E h => ?_) (fun cdv A outer s H vs Q E hr h => ?_)
  · obtain ⟨_, _, _, rfl, _⟩ := h
    rfl
  · obtain ⟨p, N, f, rfl, hF, hN, k⟩ := h
    refine ⟨_, pss_one (ps_ret (pe_callB (call_sortedD rfl) (by rfl) T.b_sorted (by decide +kernel) (pa_cons (pe_fld (pv 0) rfl) pa_nil))), ?_⟩
    obtain ⟨dx, d, hp, kvs, hd, t⟩ := hF
    obtain ⟨ks, e, nk, hm, hl⟩ := t.k.names
    have h60 : ks.length ≤ 60 := by have := t.k.len; have := hN.len; omega
    fail "rd"
    refine ⟨d, kvs, ks, rfl, .inl hd, e, by omega, fun ys l pm so nl => ?_⟩
    fail "rd"
    refine k ys l _ (pm.nodup_iff.mpr nk) so (fun z => ?_) (by rw [pm.length_eq]; exact h60) nl (same_upd nl) upd_same
    rw [pm.mem_iff, hm, FormSh.mem t]

abbrev s_Form_share : Stmt := inClass (top 16) 7
theorem sc_Form_share : FnScope ["self", "name"] ["self", "name"] (defScope s_Form_share) := ⟨rfl, rfl, rfl, by decide +kernel, rfl, by decide +kernel, by decide +kernel⟩
def sp_Form_share (_ : PySem.W.Frag) (ca : Nat → Addr) : Sp := fun vs H Q _ => ∃ (p : Addr) (z : Str) (N : List Str) (f : Fm), vs = [.ref p, .str z] ∧ FormAt ca H p N f ∧ ∀ (q : Addr) (H' : Hp), Same H H' → RatAt ca H' q (f z).1 (f z).2 → Q (.ref q) H'
theorem ok_Form_share {f : Addr} {fd : FuncData} (F : Fun K "share" "Form.share" s_Form_share f fd) (T : Txt K mg ca) (O_Ratio_2 : OwnI P w K mg base 1 "Ratio" (ca 2) ["self", "top", "bottom"] [] (sp_Ratio_init K ca)) (O_Ratio_1 : OwnI P w K mg base 1 "Ratio" (ca 2) ["self", "top", "bottom"] [.int 1] (sp_Ratio_init K ca)) : FnOk P w K mg base (L2N.CX P w) 3 f fd ["self", "name"] (sp_Form_share K ca) := by
  refine okN F sc_Form_share (fun vs H Q E h => ?_) (fun cdv A outer s H vs Q E hr h => ?_)
  · obtain ⟨_, _, _, _, rfl, _⟩ := h
    rfl
  · obtain ⟨p, z, N, f, rfl, hF, k⟩ := h
    refine ⟨_, pss_one (ps_ret (pe_dget2 (hu_of (hr.mono (Nat.zero_le _))) (pe_fld (pv 0) rfl) (pv 1) (pe_owni O_Ratio_1 (hr.mono (by decide)) rfl pas0 (pa_cons pe_int pa_nil)) ⟨rfl, rfl, rfl, rfl⟩)), ?_⟩
    obtain ⟨dx, d, hp, kvs, hd, t⟩ := hF
    fail "rd"
    refine ⟨.inl ⟨kvs, .inl hd⟩, ?_⟩
    fail "rd"
    intro q d_q n_q nd_q ne_q
    refine ⟨q, d_q, _, _, rfl, upd_same, (by decide), fun z => absurd z (by decide), fun _ H1 k_q e_q => ⟨rfl, ?_⟩⟩
    have s_H1 := same_made n_q nd_q ne_q k_q
    refine ⟨valV kvs (.inr z), DGet.k (k := Sum.inr z) (s_H1 _ _ hd), ?_⟩
    cases e : valV kvs (.inr z) with
    | none =>
      have e2 : f z = (0, 1) := t.z z e
      refine k q H1 s_H1 ?_
      rw [e2]
      exact ⟨red01, _, e_q⟩
    | some v =>
      obtain ⟨r, rfl, hr, _⟩ := t.r z v e
      exact k r H1 s_H1 (hr.same s_H1)

abbrev s_Ratio_add : Stmt := inClass (top 10) 1
theorem sc_Ratio_add : FnScope ["self", "other", "number"] ["self", "other"] (defScope s_Ratio_add) := ⟨rfl, rfl, rfl, by decide +kernel, rfl, by decide +kernel, by decide +kernel⟩
def sp_Ratio_add (_ : PySem.W.Frag) (ca : Nat → Addr) : Sp := fun vs H Q _ => ∃ (p : Addr) (x : V) (a b a' b' : Int), vs = [.ref p, x] ∧ RatQ ca H p a b ∧ NumQ ca H x a' b' ∧ Sz 4000 a ∧ Sz 4000 b ∧ Sz 4000 a' ∧ Sz 4000 b' ∧
  ∀ (q : Addr) (H' : Hp), H q = none → Same H H' → RatQ ca H' q (a * b' + a' * b) (b * b') → Q (.ref q) H'
theorem ok_Ratio_add {f : Addr} {fd : FuncData} (F : Fun K "__add__" "Ratio.__add__" s_Ratio_add f fd) (T : Txt K mg ca) (O_as_ratio : Own P w K mg base 3 "as_ratio" ["number"] (sp_as_ratio K ca)) (O_Ratio_2 : OwnI P w K mg base 1 "Ratio" (ca 2) ["self", "top", "bottom"] [] (sp_Ratio_init K ca)) (O_Ratio_1 : OwnI P w K mg base 1 "Ratio" (ca 2) ["self", "top", "bottom"] [.int 1] (sp_Ratio_init K ca)) : FnOk P w K mg base (L2N.CX P w) 4 f fd ["self", "other"] (sp_Ratio_add K ca) := by
  refine okN F sc_Ratio_add (fun vs H Q E h => ?_) (fun cdv A outer s H vs Q E hr h => ?_)
  · obtain ⟨_, _, _, _, _, _, rfl, _⟩ := h
    rfl
  · obtain ⟨p, x, a, b, a', b', rfl, hR, hn, s1, s2, s3, s4, k⟩ := h
    refine ⟨_, pss_cons (ps_set (i := 2) sc_Ratio_add.nd rfl (Or.inl rfl) (pe_own O_as_ratio (hr.mono (by decide)) rfl pas0 (pa_cons (pv 1) pa_nil))) (pss_one (ps_ret (pe_owni O_Ratio_2 (hr.mono (by decide)) rfl pas0 (pa_cons (pe_op op_add (pe_op op_mulI (pe_fld (pv 0) rfl) (pe_fld (pv 2) rfl)) (pe_op op_mulI (pe_fld (pv 2) rfl) (pe_fld (pv 0) rfl))) (pa_cons (pe_op op_mulI (pe_fld (pv 0) rfl) (pe_fld (pv 2) rfl)) pa_nil))))), ?_⟩
    fail "rd"
    refine ⟨x, _, _, rfl, hn.num, fun q H1 sm hq => ?_⟩
    obtain ⟨dx, hp⟩ := (hR.same sm).ins
    obtain ⟨_, dy, hq⟩ := hq
    have t1 := s1.le (nrm_le1 (a := a) hR.ne)
    have t2 := s2.le (nrm_le2 (a := a) hR.ne)
    have t3 := s3.le (nrm_le1 (a := a') hn.ne)
    have t4 := s4.le (nrm_le2 (a := a') hn.ne)
    have m1 : IntMulOk (nrm a b).1 (nrm a' b').2 := t1.mok t4
    have m2 : IntMulOk (nrm a' b').1 (nrm a b).2 := t3.mok t2
    have m3 : IntMulOk (nrm a b).2 (nrm a' b').2 := t2.mok t4
    have m4 : IntMulOk (nrm a b).1 (nrm a' b').1 := t1.mok t3
    have n0 : (nrm a b).2 * (nrm a' b').2 ≠ 0 := Int.mul_ne_zero (nrm_ne hR.ne) (nrm_ne hn.ne)
    fail "rd"
    intro r d_r n_r nd_r ne_r
    refine ⟨r, d_r, _, _, rfl, upd_same, ((t2.mul t4).lg), fun z => absurd z n0, fun _ H2 k_r e_r => ⟨rfl, ?_⟩⟩
    have s_H2 := same_made n_r nd_r ne_r k_r
    exact k r H2 (sm.free n_r) (sm.trans s_H2) (.of (Int.mul_ne_zero hR.ne hn.ne) e_r (nrm_add hR.ne hn.ne))

abbrev s_Form_add : Stmt := inClass (top 16) 2
theorem sc_Form_add : FnScope ["self", "other", "shares", "name"] ["self", "other"] (defScope s_Form_add) := ⟨rfl, rfl, rfl, by decide +kernel, rfl, by decide +kernel, by decide +kernel⟩
def sp_Form_add (_ : PySem.W.Frag) (ca : Nat → Addr) : Sp := fun vs H Q _ => ∃ (p q : Addr) (N : List Str) (f g : Fm), vs = [.ref p, .ref q] ∧ FormAt ca H p N f ∧ FormAt ca H q N g ∧ Uni N ∧ SzF 4000 f ∧ SzF 4000 g ∧
  ∀ (r : Addr) (H' : Hp), H r = none → Same H H' → FormAt ca H' r N (fun z => addP (f z) (g z)) → Q (.ref r) H'
theorem ok_Form_add {f : Addr} {fd : FuncData} (F : Fun K "__add__" "Form.__add__" s_Form_add f fd) (T : Txt K mg ca) (O_Form_1 : OwnI P w K mg base 5 "Form" (ca 3) ["self", "shares"] [] (sp_Form_init K ca)) (O_Form_0 : OwnI P w K mg base 5 "Form" (ca 3) ["self", "shares"] [.non] (sp_Form_init K ca)) (O_Form_names : OwnM P w K mg base 1 (ca 3) "names" ["self"] (sp_Form_names K ca)) (O_Form_share : OwnM P w K mg base 3 (ca 3) "share" ["self", "name"] (sp_Form_share K ca)) (O_Ratio___add__ : OwnM P w K mg base 4 (ca 2) "__add__" ["self", "other"] (sp_Ratio_add K ca)) : FnOk P w K mg base (L2N.CX P w) 7 f fd ["self", "other"] (sp_Form_add K ca) := by
  refine okN F sc_Form_add (fun vs H Q E h => ?_) (fun cdv A outer s H vs Q E hr h => ?_)
  · obtain ⟨_, _, _, _, _, rfl, _⟩ := h
    rfl
  · obtain ⟨p, q, N, f, g, rfl, hF, hG, hN, zf, zg, k⟩ := h
    refine ⟨_, pss_cons (ps_set (i := 2) sc_Form_add.nd rfl (Or.inl rfl) (pe_callTy call_dictD (by rfl) T.b_dict (by decide +kernel) (pa_cons (pe_fld (pv 0) rfl) pa_nil))) (pss_cons (ps_for (passes_of rfl) rfl (pi_list (pe_ownm0 O_Form_names (pv 1) (hr.mono (by decide)) pas0)) (pg_name (i := 3) sc_Form_add.nd rfl (Or.inl rfl)) (pss_one (ps_dput (hu_of (hr.mono (Nat.zero_le _))) (pv 2) (pv 3) (pe_op (op_own .add T.ar_Ratio O_Ratio___add__ (hr.mono (by decide)) passN) (pe_ownm O_Form_share (pv 0) (hr.mono (by decide)) pas0 (pa_cons (pv 3) pa_nil)) (pe_ownm O_Form_share (pv 1) (hr.mono (by decide)) pas0 (pa_cons (pv 3) pa_nil))) rfl))) (pss_one (ps_ret (pe_owni O_Form_1 (hr.mono (by decide)) rfl pas0 (pa_cons (pv 2) pa_nil))))), ?_⟩
    obtain ⟨dx, d, hp, kvs, hd, t⟩ := id hF
    fail "rd"
    refine ⟨d, kvs, rfl, .inl hd, ?_⟩
    intro S n_S
    generalize g_H1 : upd _ S _ = H1
    obtain ⟨s_H1, e_S⟩ := gen_new n_S g_H1
    clear g_H1
    have hF1 := hF.same s_H1
    have hG1 := hG.same s_H1
    obtain ⟨dy, d2, hq⟩ := hG1.ins
    fail "rd"
    refine ⟨q, N, g, rfl, hG1, hN, fun ys l H2 ny so hm h60 nl s2 hl => ?_⟩
    fail "rd"
    have sA := s_H1.trans s2
    refine for_list (D := ⟨_, _, fun _ _ => True, fun _ _ => True⟩) (K := K) (a := l) (xs := ys.map V.str) (fun i σ' H' => ∃ (v : Option V) (kv : List (Key × V)), σ' = [some (.ref p), some (.ref q), some (.ref S), v] ∧ Same H H' ∧ H' l = some (.lst (ys.map V.str)) ∧ H' S = some (.dK kv) ∧
        Tab N (NumR ca (fun z => if z ∈ ys.take i then addP (f z) (g z) else f z) H') (ShZ fun z => if z ∈ ys.take i then addP (f z) (g z) else f z) kv)
      ⟨none, kvs, rfl, sA, hl, s2 _ _ e_S, ?_⟩ (fun i σ' H' _ ⟨_, _, _, _, h, _⟩ => SqL.of h) ?_ ?_
    · simp only [List.take_zero, List.not_mem_nil, if_false]
      exact t.mono (fun z v ⟨r, e, hr, _⟩ => .inr ⟨r, e, hr.same sA⟩) fun _ n => n
    · rintro i x σ' H' hx ⟨v, kv, rfl, sH, hl, hS, hT⟩
      obtain ⟨y, hy, rfl⟩ : ∃ y, ys[i]? = some y ∧ V.str y = x := by
        rw [List.getElem?_map] at hx
        exact Option.map_eq_some_iff.mp hx
      have hyN : y ∈ N := Classical.byContradiction fun c => (hm y).mp (List.mem_of_getElem? hy) (by rw [hG.off c])
      have hF2 := hF.same sH
      have hG2 := hG.same sH
      obtain ⟨dx1, d1, hp2⟩ := hF2.ins
      obtain ⟨dx3, d3, hq2⟩ := hG2.ins
      fail "rd"
      refine ⟨p, y, N, f, rfl, hF2, fun r1 H3 s3 h1 => ?_⟩
      have hq2 := s3 _ _ hq2
      fail "rd"
      refine ⟨q, y, N, g, rfl, hG2.same s3, fun r2 H4 s4 h2 => ?_⟩
      have h1 := h1.same s4
      fail "rd"
      refine rOwn_of h1.q h2.q.num ⟨r1, _, _, _, _, _, rfl, h1.q, h2.q.num, (zf y).1, (zf y).2, (zg y).1, (zg y).2, fun r H5 nr s5 hr => ?_⟩
      have s35 := s3.trans (s4.trans s5)
      have hS5 := s35 _ _ hS
      fail "rd"
      refine ⟨S, _, rfl, DPut.k (k := Sum.inr y) hS5 (hT.k.line hN), ?_⟩
      have tm : ∀ z, z ∈ ys.take (i + 1) ↔ z ∈ ys.take i ∨ z = y := fun z => by rw [List.take_add_one, hy, List.mem_append]; simp
      refine ⟨_, _, rfl, same_put n_S (sH.trans s35), ?_, upd_same, hT.set hyN ?_ (fun z u c n => ?_) fun z c n => ?_⟩
      · rw [upd_ne (ne_of (s35 _ _ hl) hS5 fun z => nomatch z)]
        exact s35 _ _ hl
      · show NumV ca _ _ (if y ∈ ys.take (i + 1) then addP (f y) (g y) else f y).1 (if y ∈ ys.take (i + 1) then addP (f y) (g y) else f y).2
        rw [if_pos ((tm y).mpr (.inr rfl))]
        exact .inr ⟨r, rfl, hr.at_.keep hS5 nd keep_upd⟩
      · show NumV ca _ u (if z ∈ ys.take (i + 1) then addP (f z) (g z) else f z).1 (if z ∈ ys.take (i + 1) then addP (f z) (g z) else f z).2
        rw [show (if z ∈ ys.take (i + 1) then addP (f z) (g z) else f z) = if z ∈ ys.take i then addP (f z) (g z) else f z by simp only [tm z, c, or_false]]
        exact NumV.keep (NumR.same s35 n) hS5 nd keep_upd
      · show (if z ∈ ys.take (i + 1) then addP (f z) (g z) else f z) = (0, 1)
        rw [show (if z ∈ ys.take (i + 1) then addP (f z) (g z) else f z) = if z ∈ ys.take i then addP (f z) (g z) else f z by simp only [tm z, c, or_false]]
        exact n
    · rintro σ' H' ⟨v, kv, rfl, sH, hl, hS, hT⟩
      rw [List.length_map, List.take_length] at hT
      have e : (fun z => if z ∈ ys then addP (f z) (g z) else f z) = fun z => addP (f z) (g z) := by
        funext z
        by_cases c : z ∈ ys
        · rw [if_pos c]
        · rw [if_neg c]
          have g0 : (g z).1 = 0 := Classical.byContradiction fun n => c ((hm z).mpr n)
          have g1 : g z = (0, 1) := Prod.ext g0 ((hG.red z).zero g0)
          rw [g1, addP_zero (hF.red z)]
      rw [e] at hT
      fail "rd"
      exact form_made hN (.inr ⟨S, kv, rfl, hS, hT⟩) fun r H3 nr s3 F => k r H3 (sH.free nr) (sH.trans s3) F

abbrev s_Ratio_mul : Stmt := inClass (top 10) 5
theorem sc_Ratio_mul : FnScope ["self", "other", "number"] ["self", "other"] (defScope s_Ratio_mul) := ⟨rfl, rfl, rfl, by decide +kernel, rfl, by decide +kernel, by decide +kernel⟩
def sp_Ratio_mul (_ : PySem.W.Frag) (ca : Nat → Addr) : Sp := fun vs H Q _ => ∃ (p : Addr) (x : V) (a b a' b' : Int), vs = [.ref p, x] ∧ RatQ ca H p a b ∧ NumQ ca H x a' b' ∧ Sz 4000 a ∧ Sz 4000 b ∧ Sz 4000 a' ∧ Sz 4000 b' ∧
  ∀ (q : Addr) (H' : Hp), H q = none → Same H H' → RatQ ca H' q (a * a') (b * b') → Q (.ref q) H'
theorem ok_Ratio_mul {f : Addr} {fd : FuncData} (F : Fun K "__mul__" "Ratio.__mul__" s_Ratio_mul f fd) (T : Txt K mg ca) (O_as_ratio : Own P w K mg base 3 "as_ratio" ["number"] (sp_as_ratio K ca)) (O_Ratio_2 : OwnI P w K mg base 1 "Ratio" (ca 2) ["self", "top", "bottom"] [] (sp_Ratio_init K ca)) (O_Ratio_1 : OwnI P w K mg base 1 "Ratio" (ca 2) ["self", "top", "bottom"] [.int 1] (sp_Ratio_init K ca)) : FnOk P w K mg base (L2N.CX P w) 4 f fd ["self", "other"] (sp_Ratio_mul K ca) := by
  refine okN F sc_Ratio_mul (fun vs H Q E h => ?_) (fun cdv A outer s H vs Q E hr h => ?_)
  · obtain ⟨_, _, _, _, _, _, rfl, _⟩ := h
    rfl
  · obtain ⟨p, x, a, b, a', b', rfl, hR, hn, s1, s2, s3, s4, k⟩ := h
    refine ⟨_, pss_cons (ps_set (i := 2) sc_Ratio_mul.nd rfl (Or.inl rfl) (pe_own O_as_ratio (hr.mono (by decide)) rfl pas0 (pa_cons (pv 1) pa_nil))) (pss_one (ps_ret (pe_owni O_Ratio_2 (hr.mono (by decide)) rfl pas0 (pa_cons (pe_op op_mulI (pe_fld (pv 0) rfl) (pe_fld (pv 2) rfl)) (pa_cons (pe_op op_mulI (pe_fld (pv 0) rfl) (pe_fld (pv 2) rfl)) pa_nil))))), ?_⟩
    fail "rd"
    refine ⟨x, _, _, rfl, hn.num, fun q H1 sm hq => ?_⟩
    obtain ⟨dx, hp⟩ := (hR.same sm).ins
    obtain ⟨_, dy, hq⟩ := hq
    have t1 := s1.le (nrm_le1 (a := a) hR.ne)
    have t2 := s2.le (nrm_le2 (a := a) hR.ne)
    have t3 := s3.le (nrm_le1 (a := a') hn.ne)
    have t4 := s4.le (nrm_le2 (a := a') hn.ne)
    have m1 : IntMulOk (nrm a b).1 (nrm a' b').2 := t1.mok t4
    have m2 : IntMulOk (nrm a' b').1 (nrm a b).2 := t3.mok t2
    have m3 : IntMulOk (nrm a b).2 (nrm a' b').2 := t2.mok t4
    have m4 : IntMulOk (nrm a b).1 (nrm a' b').1 := t1.mok t3
    have n0 : (nrm a b).2 * (nrm a' b').2 ≠ 0 := Int.mul_ne_zero (nrm_ne hR.ne) (nrm_ne hn.ne)
    fail "rd"
    intro r d_r n_r nd_r ne_r
    refine ⟨r, d_r, _, _, rfl, upd_same, ((t2.mul t4).lg), fun z => absurd z n0, fun _ H2 k_r e_r => ⟨rfl, ?_⟩⟩
    have s_H2 := same_made n_r nd_r ne_r k_r
    exact k r H2 (sm.free n_r) (sm.trans s_H2) (.of (Int.mul_ne_zero hR.ne hn.ne) e_r (nrm_mul hR.ne hn.ne))

abbrev s_Form_mul : Stmt := inClass (top 16) 5
theorem sc_Form_mul : FnScope ["self", "other", "name"] ["self", "other"] (defScope s_Form_mul) := ⟨rfl, rfl, rfl, by decide +kernel, rfl, by decide +kernel, by decide +kernel⟩
def sp_Form_mul (_ : PySem.W.Frag) (ca : Nat → Addr) : Sp := fun vs H Q _ => ∃ (p : Addr) (x : V) (N : List Str) (f : Fm) (c d : Int), vs = [.ref p, x] ∧ FormAt ca H p N f ∧ Uni N ∧ SzF 4000 f ∧ NumQ ca H x c d ∧ Sz 4000 c ∧ Sz 4000 d ∧
  ∀ (r : Addr) (H' : Hp), H r = none → Same H H' → FormAt ca H' r N (fun z => mulP (f z) (c, d)) → Q (.ref r) H'
theorem ok_Form_mul {f : Addr} {fd : FuncData} (F : Fun K "__mul__" "Form.__mul__" s_Form_mul f fd) (T : Txt K mg ca) (O_Form_1 : OwnI P w K mg base 5 "Form" (ca 3) ["self", "shares"] [] (sp_Form_init K ca)) (O_Form_0 : OwnI P w K mg base 5 "Form" (ca 3) ["self", "shares"] [.non] (sp_Form_init K ca)) (O_Ratio___mul__ : OwnM P w K mg base 4 (ca 2) "__mul__" ["self", "other"] (sp_Ratio_mul K ca)) : FnOk P w K mg base (L2N.CX P w) 7 f fd ["self", "other"] (sp_Form_mul K ca) := by
  refine okN F sc_Form_mul (fun vs H Q E h => ?_) (fun cdv A outer s H vs Q E hr h => ?_)
  · obtain ⟨_, _, _, _, _, _, rfl, _⟩ := h
    rfl
  · obtain ⟨p, x, N, f, c, d, rfl, hF, hN, zf, hn, zc, zd, k⟩ := h
    refine ⟨_, pss_one (ps_ret (pe_owni O_Form_1 (hr.mono (by decide)) rfl pas0 (pa_cons (pe_lk (pe_dc (own := [("name", 2)]) (g := gName 2) (tt := tYes) rfl sc_Form_mul.nd (pi_keys (pe_fld (pv 0) rfl)) (blkOk_by (N := ["self", "other", "name"]) (sc := defScope s_Form_mul) (by decide +kernel)) (fun _ _ _ _ _ => pg_name (i := 2) sc_Form_mul.nd rfl (Or.inl rfl)) (fun _ _ _ _ _ => pts_nil) (fun _ _ _ _ _ => pv 2) (fun _ _ _ _ _ => pe_op (op_own .mul T.ar_Ratio O_Ratio___mul__ (hr.mono (by decide)) passN) (pe_dget (hu_of (hr.mono (Nat.zero_le _))) (pe_fldK (K := K) (pv 0) rfl rfl) (pv 2) (fun _ _ => rfl)) (pv 1)))) pa_nil))), ?_⟩
    obtain ⟨dx, sd, hp, kvs, hd, t⟩ := id hF
    refine ⟨.inl ⟨sd, _, hd, True.intro, fun od => ?_⟩⟩
    have hpl : upd H sd (.frz od (.dK kvs)) p = some (.ins (ca 3) dx [("_shares", .ref sd)]) := une (ne_of hp hd fun z => nomatch z) hp
    fail "rd"
    refine ⟨sd, od, rfl, .inl ⟨kvs, upd_same, fun D hD => dc_names t.k (fun i H' => Same (upd H sd (.frz od (.dK kvs))) H' ∧ ∃ new, H' D = some (.dK new) ∧ Part N (fun z v => ∃ q, v = .ref q ∧ RatAt ca H' q (mulP (f z) (c, d)).1 (mulP (f z) (c, d)).2) (fun z => mulP (f z) (c, d) = (0, 1)) kvs i new)
      ⟨same_upd hD, [], upd_same, .start⟩ (fun i H' _ s => s.1 _ _ upd_same) ?_ ?_⟩⟩
    · rintro i z v H' hi hz hv ⟨sH, new, hD', hP⟩
      have hpl := sH _ _ hpl
      obtain ⟨q, rfl, hq, _⟩ := t.r z v hv
      have hq := ((hq.keep hd nd keep_upd).same sH).q
      have hn := (hn.keep hd nd (keep_upd (p := sd) (o := .frz od (.dK kvs)))).same sH
      fail "rd"
      refine ⟨sd, _, rfl, dget (.inr ⟨od, sH _ _ upd_same⟩) hv, ?_⟩
      fail "rd"
      refine rOwn_of hq hn ⟨q, x, _, _, c, d, rfl, hq, hn, (zf z).1, (zf z).2, zc, zd, fun r H3 nr s3 hr => ?_⟩
      have hD3 := s3 _ _ hD'
      refine ⟨new, .inr z, rfl, hD3, hP.k.line hN, same_put hD (sH.trans s3), _, upd_same, ?_⟩
      exact (hP.mono (fun y u ⟨q, e, r⟩ => ⟨q, e, (r.same s3).keep hD3 nd keep_upd⟩) fun _ n => n).put hi hz ⟨r, rfl, hr.at_.keep hD3 nd keep_upd⟩
    · rintro H' ⟨sH, new, hD', hP⟩
      refine ⟨sH _ _ upd_same, ?_⟩
      have hT := hP.done fun z e => by
        rw [show f z = (0, 1) from t.z z e]
        exact mulP_0 hn.ne
      have sA := same_lock hd sH
      have nD : D ≠ sd := fun e => by rw [e, upd_same] at hD; cases hD
      have hD2 : upd H' sd (.dK kvs) D = some (.dK new) := by rw [upd_ne nD]; exact hD'
      have hfz := sH _ _ upd_same
      fail "rd"
      refine form_made hN (.inr ⟨D, new, rfl, hD2, hT.mono (fun z v ⟨q, e, r⟩ => ?_) fun _ n => n⟩) fun r H3 nr s3 F => k r H3 (sA.free nr) (sA.trans s3) F
      subst e
      exact .inr ⟨q, rfl, r.keep hfz nf keep_upd⟩

abbrev s_Form_neg : Stmt := inClass (top 16) 4
theorem sc_Form_neg : FnScope ["self"] ["self"] (defScope s_Form_neg) := ⟨rfl, rfl, rfl, by decide +kernel, rfl, by decide +kernel, by decide +kernel⟩
def sp_Form_neg (K : PySem.W.Frag) (ca : Nat → Addr) : Sp := fun vs H Q _ => ∃ (p : Addr) (N : List Str) (f : Fm), vs = [.ref p] ∧ FormAt ca H p N f ∧ Uni N ∧ SzF 4000 f ∧ 
  ∀ (r : Addr) (H' : Hp), H r = none → Same H H' → FormAt ca H' r N (fun z => mulP (f z) (-1, 1)) → Q (.ref r) H'
theorem ok_Form_neg {f : Addr} {fd : FuncData} (F : Fun K "__neg__" "Form.__neg__" s_Form_neg f fd) (T : Txt K mg ca) (O_Form___mul__ : OwnM P w K mg base 7 (ca 3) "__mul__" ["self", "other"] (sp_Form_mul K ca)) : FnOk P w K mg base (L2N.CX P w) 8 f fd ["self"] (sp_Form_neg K ca) := by
  refine okN F sc_Form_neg (fun vs H Q E h => ?_) (fun cdv A outer s H vs Q E hr h => ?_)
  · obtain ⟨_, _, _, rfl, _⟩ := h
    rfl
  · obtain ⟨p, N, f, rfl, hF, hN, zf, k⟩ := h
    refine ⟨_, pss_one (ps_ret (pe_op (op_own .mul T.ar_Form O_Form___mul__ (hr.mono (by decide)) passN) (pv 0) (pe_un un_neg pe_int))), ?_⟩
    fail "rd"
    refine fOwn_of hF ⟨_, rfl⟩ ⟨p, _, N, f, -1, 1, rfl, hF, hN, zf, NumQ.int, Sz.one.neg.mono, Sz.one.mono, k⟩

abbrev s_Form_sub : Stmt := inClass (top 16) 3
theorem sc_Form_sub : FnScope ["self", "other"] ["self", "other"] (defScope s_Form_sub) := ⟨rfl, rfl, rfl, by decide +kernel, rfl, by decide +kernel, by decide +kernel⟩
def sp_Form_sub (_ : PySem.W.Frag) (ca : Nat → Addr) : Sp := fun vs H Q _ => ∃ (p q : Addr) (N : List Str) (f g : Fm), vs = [.ref p, .ref q] ∧ FormAt ca H p N f ∧ FormAt ca H q N g ∧ Uni N ∧ SzF 4000 f ∧ SzF 3999 g ∧
  ∀ (r : Addr) (H' : Hp), H r = none → Same H H' → FormAt ca H' r N (fun z => addP (f z) (mulP (g z) (-1, 1))) → Q (.ref r) H'
theorem ok_Form_sub {f : Addr} {fd : FuncData} (F : Fun K "__sub__" "Form.__sub__" s_Form_sub f fd) (T : Txt K mg ca) (O_Form___add__ : OwnM P w K mg base 7 (ca 3) "__add__" ["self", "other"] (sp_Form_add K ca)) (O_Form___neg__ : OwnM P w K mg base 8 (ca 3) "__neg__" ["self"] (sp_Form_neg K ca)) : FnOk P w K mg base (L2N.CX P w) 9 f fd ["self", "other"] (sp_Form_sub K ca) := by
  refine okN F sc_Form_sub (fun vs H Q E h => ?_) (fun cdv A outer s H vs Q E hr h => ?_)
  · obtain ⟨_, _, _, _, _, rfl, _⟩ := h
    rfl
  · obtain ⟨p, q, N, f, g, rfl, hF, hG, hN, zf, zg, k⟩ := h
    refine ⟨_, pss_one (ps_ret (pe_op (op_own .add T.ar_Form O_Form___add__ (hr.mono (by decide)) passN) (pv 0) (pe_un (un_negOwn O_Form___neg__ (hr.mono (by decide)) passN) (pv 1)))), ?_⟩
    fail "rd"
    refine fUna_of hG ⟨q, N, g, rfl, hG, hN, zg.mono, fun r H1 nr s1 hR => ?_⟩
    fail "rd"
    refine fOwn2_of (hF.same s1) hR ⟨p, r, N, f, _, rfl, hF.same s1, hR, hN, zf, fun z => ?_, fun r2 H2 n2 s2 hR2 => k r2 H2 (s1.free n2) (s1.trans s2) hR2⟩
    have n : (g z).2 * 1 ≠ 0 := by have := (hG.red z).pos; omega
    unfold mulP
    exact ⟨((zg z).1.mul Sz.one.neg |>.mono).le (nrm_le1 n), ((zg z).2.mul Sz.one |>.mono).le (nrm_le2 n)⟩

abbrev s_Ratio_less : Stmt := inClass (top 10) 10
theorem sc_Ratio_less : FnScope ["self", "other", "number"] ["self", "other"] (defScope s_Ratio_less) := ⟨rfl, rfl, rfl, by decide +kernel, rfl, by decide +kernel, by decide +kernel⟩
def sp_Ratio_less (_ : PySem.W.Frag) (ca : Nat → Addr) : Sp := fun vs H Q _ => ∃ (p : Addr) (x : V) (t b t' b' : Int), vs = [.ref p, x] ∧ RatAt ca H p t b ∧ NumV ca H x t' b' ∧ IntMulOk t b' ∧ IntMulOk t' b ∧ ∀ H' : Hp, Same H H' → Q (.bl (decide (t * b' < t' * b))) H'
theorem ok_Ratio_less {f : Addr} {fd : FuncData} (F : Fun K "less" "Ratio.less" s_Ratio_less f fd) (T : Txt K mg ca) (O_as_ratio : Own P w K mg base 3 "as_ratio" ["number"] (sp_as_ratio K ca)) : FnOk P w K mg base (L2N.CX P w) 4 f fd ["self", "other"] (sp_Ratio_less K ca) := by
  refine okN F sc_Ratio_less (fun vs H Q E h => ?_) (fun cdv A outer s H vs Q E hr h => ?_)
  · obtain ⟨_, _, _, _, _, _, rfl, _⟩ := h
    rfl
  · obtain ⟨p, x, t, b, t', b', rfl, hR, hn, m1, m2, k⟩ := h
    refine ⟨_, pss_cons (ps_set (i := 2) sc_Ratio_less.nd rfl (Or.inl rfl) (pe_own O_as_ratio (hr.mono (by decide)) rfl pas0 (pa_cons (pv 1) pa_nil))) (pss_one (ps_ret (pe_cmpR op_lt (pe_op op_mulI (pe_fld (pv 0) rfl) (pe_fld (pv 2) rfl)) (pe_op op_mulI (pe_fld (pv 2) rfl) (pe_fld (pv 0) rfl)) (nomark _)))), ?_⟩
    fail "rd"
    refine ⟨x, t', b', rfl, hn, fun q H1 s1 hq => ?_⟩
    obtain ⟨_, dx, hp⟩ := hR.same s1
    obtain ⟨_, dy, hq⟩ := hq
    fail "rd"
    exact k H1 s1

abbrev s_Form_at_most : Stmt := inClass (top 16) 11
theorem sc_Form_at_most : FnScope ["self", "other", "difference", "name"] ["self", "other"] (defScope s_Form_at_most) := ⟨rfl, rfl, rfl, by decide +kernel, rfl, by decide +kernel, by decide +kernel⟩
def sp_Form_at_most (_ : PySem.W.Frag) (ca : Nat → Addr) : Sp := fun vs H Q _ => ∃ (p q : Addr) (N : List Str) (f g : Fm), vs = [.ref p, .ref q] ∧ FormAt ca H p N f ∧ FormAt ca H q N g ∧ Uni N ∧ SzF 1900 f ∧ SzF 1900 g ∧
  ∀ (b : Bool) (H' : Hp), Same H H' → (b = true ↔ ∀ z, leQ (f z) (g z)) → Q (.bl b) H'
theorem ok_Form_at_most {f : Addr} {fd : FuncData} (F : Fun K "at_most" "Form.at_most" s_Form_at_most f fd) (T : Txt K mg ca) (O_Form___sub__ : OwnM P w K mg base 9 (ca 3) "__sub__" ["self", "other"] (sp_Form_sub K ca)) (O_Form_names : OwnM P w K mg base 1 (ca 3) "names" ["self"] (sp_Form_names K ca)) (O_Form_share : OwnM P w K mg base 3 (ca 3) "share" ["self", "name"] (sp_Form_share K ca)) (O_Ratio_less : OwnM P w K mg base 4 (ca 2) "less" ["self", "other"] (sp_Ratio_less K ca)) : FnOk P w K mg base (L2N.CX P w) 10 f fd ["self", "other"] (sp_Form_at_most K ca) := by
  refine okN F sc_Form_at_most (fun vs H Q E h => ?_) (fun cdv A outer s H vs Q E hr h => ?_)
  · obtain ⟨_, _, _, _, _, rfl, _⟩ := h
    rfl
  · obtain ⟨p, q, N, f, g, rfl, hF, hG, hN, zf, zg, k⟩ := h
    refine ⟨_, pss_cons (ps_set (i := 2) sc_Form_at_most.nd rfl (Or.inr rfl) (pe_op (op_own .sub T.ar_Form O_Form___sub__ (hr.mono (by decide)) passN) (pv 0) (pv 1))) (pss_one (ps_ret (pe_callB (cr_all rfl) (by rfl) T.b_all (by decide +kernel) (pa_cons (pe_lc (own := [("name", 3)]) (g := gName 3) (tt := tYes) rfl sc_Form_at_most.nd (pi_list (pe_ownm0 O_Form_names (pv 2) (hr.mono (by decide)) pas0)) (blkOk_by (N := ["self", "other", "difference", "name"]) (sc := defScope s_Form_at_most) (by decide +kernel)) (fun _ _ _ _ _ => pg_name (i := 3) sc_Form_at_most.nd rfl (Or.inl rfl)) (fun _ _ _ _ _ => pts_nil) (fun _ _ _ _ _ => pe_ownm O_Ratio_less (pe_ownm O_Form_share (pv 2) (hr.mono (by decide)) pas0 (pa_cons (pv 3) pa_nil)) (hr.mono (by decide)) pas0 (pa_cons pe_int pa_nil))) pa_nil)))), ?_⟩
    fail "rd"
    refine fOwn2_of hF hG ⟨p, q, N, f, g, rfl, hF, hG, hN, zf.mono, zg.mono, fun r H1 nr s1 hR => ?_⟩
    obtain ⟨dx, d, er⟩ := hR.ins
    have zR : SzF 3900 (fun z => addP (f z) (mulP (g z) (-1, 1))) := addF_sz zf (mulF_sz (k := 1902) (m := 2) zg hG.red (by unfold Sz; decide) (by unfold Sz; decide) (by decide)) hF.red (fun z => by
      rw [mulP_neg (hG.red z)]
      exact ⟨(hG.red z).pos, by rw [Int.natAbs_neg]; exact (hG.red z).cop⟩)
    generalize hD : (fun z => addP (f z) (mulP (g z) (-1, 1))) = D at *
    fail "rd"
    have hDz : ∀ z, D z = addP (f z) (mulP (g z) (-1, 1)) := fun z => by rw [← hD]
    refine ⟨r, N, D, rfl, hR, hN, fun ys l H2 ny so hm h60 nl s2 hl => ?_⟩
    fail "rd"
    intro L nL
    refine lc_list (K := K) (a := l) (xs := ys.map V.str) (fun i H' => Same H2 H' ∧ H' L = some (.lst ((ys.take i).map fun y => V.bl (decide ((D y).1 < 0))))) ⟨same_upd nL, upd_same⟩ (fun i H' _ s => SqL.of (s.1 _ _ hl)) ?_ ?_
    · rintro i x H3 hi ⟨s3, eL⟩
      obtain ⟨y, hy, rfl⟩ : ∃ y, ys[i]? = some y ∧ V.str y = x := by
        rw [List.getElem?_map] at hi
        exact Option.map_eq_some_iff.mp hi
      have hR3 := (hR.same s2).same s3
      obtain ⟨dx3, d3, er3⟩ := hR3.ins
      fail "rd"
      refine ⟨r, y, N, D, rfl, hR3, fun q H4 s4 hq => ?_⟩
      obtain ⟨_, dq, eq⟩ := id hq
      fail "rd"
      refine ⟨q, .int 0, _, _, 0, 1, rfl, hq, .inl ⟨rfl, rfl⟩, mok_r (by decide), mok_l (by decide), fun H5 s5 => ?_⟩
      rw [Int.mul_one, Int.zero_mul]
      have e5 := s5 _ _ (s4 _ _ eL)
      have li : i < ys.length := (List.getElem?_eq_some_iff.mp hy).1
      refine ⟨_, e5, Nat.lt_of_lt_of_le (show _ < 100 by rw [List.length_map, List.length_take]; omega) (line_le (by decide)), fun b o e => ?_, ?_⟩
      · rw [upd_ne (ne_of_none e nL)]
        exact s5 _ _ (s4 _ _ (s3 _ _ e))
      · rw [upd_same, List.take_succ, hy, List.map_append]
        rfl
    · rintro H3 ⟨s3, eL⟩
      rw [List.length_map, List.take_length] at eL
      have eb : ys.map (fun y => V.bl (decide ((D y).1 < 0))) = (ys.map fun y => decide ((D y).1 < 0)).map V.bl := by rw [List.map_map]; rfl
      rw [eb] at eL
      fail "rd"
      refine ⟨L, _, rfl, SqL.of eL, ?_⟩
      refine k _ H3 (s1.trans (s2.trans s3)) ?_
      rw [List.all_eq_true]
      constructor
      · intro a z
        refine Classical.byContradiction fun n => ?_
        have n0 : (D z).1 ≠ 0 := fun e => by
          rw [hDz z] at e
          have := (sub_0 (hF.red z) (hG.red z)).mp e
          exact n (by rw [this]; exact Int.le_refl _)
        have := a _ (List.mem_map.mpr ⟨z, (hm z).mpr n0, rfl⟩)
        have lt : (D z).1 < 0 := of_decide_eq_true this
        rw [hDz z, sub_lt (hF.red z) (hG.red z)] at lt
        have : ¬ leQ (g z) (f z) → leQ (f z) (g z) := fun q => by
          unfold leQ at q ⊢
          omega
        exact n (this lt)
      · intro a b m
        obtain ⟨z, mz, rfl⟩ := List.mem_map.mp m
        refine decide_eq_true ?_
        rw [hDz z, sub_lt (hF.red z) (hG.red z)]
        intro q
        have e : f z = g z := by
          have h1 := a z
          unfold leQ at h1 q
          have e : (f z).1 * (g z).2 = (g z).1 * (f z).2 := Int.le_antisymm h1 q
          have n1 : (f z).2 ≠ 0 := by have := (hF.red z).pos; omega
          have n2 : (g z).2 ≠ 0 := by have := (hG.red z).pos; omega
          have w := nrm_same n1 n2 e
          rw [nrm_id (hF.red z), nrm_id (hG.red z)] at w
          exact w
        refine (hm z).mp mz ?_
        rw [hDz z]
        exact (sub_0 (hF.red z) (hG.red z)).mpr e

abbrev s_Form_same : Stmt := inClass (top 16) 12
theorem sc_Form_same : FnScope ["self", "other"] ["self", "other"] (defScope s_Form_same) := ⟨rfl, rfl, rfl, by decide +kernel, rfl, by decide +kernel, by decide +kernel⟩
def sp_Form_same (_ : PySem.W.Frag) (ca : Nat → Addr) : Sp := fun vs H Q _ => ∃ (p q : Addr) (N : List Str) (f g : Fm), vs = [.ref p, .ref q] ∧ FormAt ca H p N f ∧ FormAt ca H q N g ∧ Uni N ∧ SzF 3999 f ∧ SzF 3999 g ∧
  ∀ (b : Bool) (H' : Hp), Same H H' → (b = true ↔ ∀ z, f z = g z) → Q (.bl b) H'
theorem ok_Form_same {f : Addr} {fd : FuncData} (F : Fun K "same" "Form.same" s_Form_same f fd) (T : Txt K mg ca) (O_Form___sub__ : OwnM P w K mg base 9 (ca 3) "__sub__" ["self", "other"] (sp_Form_sub K ca)) (O_Form_names : OwnM P w K mg base 1 (ca 3) "names" ["self"] (sp_Form_names K ca)) : FnOk P w K mg base (L2N.CX P w) 10 f fd ["self", "other"] (sp_Form_same K ca) := by
  refine okN F sc_Form_same (fun vs H Q E h => ?_) (fun cdv A outer s H vs Q E hr h => ?_)
  · obtain ⟨_, _, _, _, _, rfl, _⟩ := h
    rfl
  · obtain ⟨p, q, N, f, g, rfl, hF, hG, hN, zf, zg, k⟩ := h
    refine ⟨_, pss_one (ps_ret (pe_notT (pe_ownm0 O_Form_names (pe_op (op_own .sub T.ar_Form O_Form___sub__ (hr.mono (by decide)) passN) (pv 0) (pv 1)) (hr.mono (by decide)) pas0))), ?_⟩
    fail "rd"
    refine fOwn2_of hF hG ⟨p, q, N, f, g, rfl, hF, hG, hN, zf.mono, zg, fun r H1 nr s1 hR => ?_⟩
    obtain ⟨dx, d, er⟩ := hR.ins
    fail "rd"
    refine ⟨r, N, _, rfl, hR, hN, fun ys l H2 ny so hm h60 nl s2 hl => ?_⟩
    refine ⟨!ys.isEmpty, .inl ⟨_, SqL.of hl, by cases ys <;> rfl⟩, ?_⟩
    refine k _ H2 (s1.trans s2) ?_
    rw [Bool.not_not, List.isEmpty_iff]
    constructor
    · rintro rfl z
      exact (sub_0 (hF.red z) (hG.red z)).mp (Classical.byContradiction fun n => nomatch (hm z).mpr n)
    · intro e
      refine List.eq_nil_iff_forall_not_mem.mpr fun z m => (hm z).mp m ((sub_0 (hF.red z) (hG.red z)).mpr (e z))

abbrev s_l_order_right : Stmt := top 35
theorem sc_l_order_right : FnScope ["_law_left", "_law_right", "_law_one", "_law_other", "_law_names_here", "_law_less", "_law_more"] ["_law_left", "_law_right", "_law_one", "_law_other", "_law_names_here"] (defScope s_l_order_right) := ⟨rfl, rfl, rfl, by decide +kernel, rfl, by decide +kernel, by decide +kernel⟩
def sp_l_order_right (_ : PySem.W.Frag) (ca : Nat → Addr) : Sp := fun vs H Q _ => ∃ (p q d1 d2 ln : Addr) (N : List Str) (f g : Fm), vs = [.ref p, .ref q, .ref d1, .ref d2, .ref ln] ∧ FormAt ca H p N f ∧ FormAt ca H q N g ∧ TabAt H d1 N f ∧ TabAt H d2 N g ∧ H ln = some (.lst (N.map V.str)) ∧ Uni N ∧ SzF 1900 f ∧ SzF 1900 g ∧
  ∀ H' : Hp, Same H H' → Q (.bl true) H'
theorem bool_iff {a b : Bool} {p : Prop} (h : a = true ↔ p) (k : b = true ↔ p) : a = b := by
  cases a <;> cases b
  · rfl
  · exact absurd (h.mpr (k.mp rfl)) Bool.false_ne_true
  · exact absurd (k.mpr (h.mp rfl)) Bool.false_ne_true
  · rfl
theorem ok_l_order_right {f : Addr} {fd : FuncData} (F : Fun K "_law_order_right" "_law_order_right" s_l_order_right f fd) (T : Txt K mg ca) (O__law_never_greater : Own P w K mg base 1 "_law_never_greater" ["_law_one", "_law_other", "_law_names_here"] (sp_l_never_greater K ca)) (O_Form_at_most : OwnM P w K mg base 10 (ca 3) "at_most" ["self", "other"] (sp_Form_at_most K ca)) (O_Form_same : OwnM P w K mg base 10 (ca 3) "same" ["self", "other"] (sp_Form_same K ca)) : FnOk P w K mg base (L2N.CX P w) 11 f fd ["_law_left", "_law_right", "_law_one", "_law_other", "_law_names_here"] (sp_l_order_right K ca) := by
  refine okN F sc_l_order_right (fun vs H Q E h => ?_) (fun cdv A outer s H vs Q E hr h => ?_)
  · obtain ⟨_, _, _, _, _, _, _, _, rfl, _⟩ := h
    rfl
  · obtain ⟨p, q, d1, d2, ln, N, f, g, rfl, hF, hG, h1, h2, hl, hN, zf, zg, k⟩ := h
    refine ⟨_, pss_cons (ps_set (i := 5) sc_l_order_right.nd rfl (Or.inl rfl) (pe_own O__law_never_greater (hr.mono (by decide)) rfl pas0 (pa_cons (pv 2) (pa_cons (pv 3) (pa_cons (pv 4) pa_nil))))) (pss_cons (ps_set (i := 6) sc_l_order_right.nd rfl (Or.inl rfl) (pe_own O__law_never_greater (hr.mono (by decide)) rfl pas0 (pa_cons (pv 3) (pa_cons (pv 2) (pa_cons (pv 4) pa_nil))))) (pss_cons (ps_if (pt_cmpR (op_neD (Room.units (hr.mono (Nat.zero_le _)))) (pe_lst (pa_cons (pe_ownm O_Form_at_most (pv 0) (hr.mono (by decide)) pas0 (pa_cons (pv 1) pa_nil)) (pa_cons (pe_ownm O_Form_at_most (pv 1) (hr.mono (by decide)) pas0 (pa_cons (pv 0) pa_nil)) pa_nil))) (pe_lst (pa_cons (pv 5) (pa_cons (pv 6) pa_nil))) (nomark _)) (pss_one (ps_ret pe_bl)) pss_nil) (pss_one (ps_ret (pe_cmpR (op_eqD (Room.units (hr.mono (Nat.zero_le _)))) (pe_lst (pa_cons (pe_ownm O_Form_same (pv 0) (hr.mono (by decide)) pas0 (pa_cons (pv 1) pa_nil)) (pa_cons (pe_ownm O_Form_same (pv 0) (hr.mono (by decide)) pas0 (pa_cons (pv 0) pa_nil)) (pa_cons (pe_ownm O_Form_at_most (pv 0) (hr.mono (by decide)) pas0 (pa_cons (pv 0) pa_nil)) pa_nil)))) (pe_lst (pa_cons (pe_and (pv 5) (pe_one (pv 6))) (pa_cons pe_bl (pa_cons pe_bl pa_nil)))) (nomark _)))))), ?_⟩
    have off : ∀ {a b : Fm}, (∀ z, z ∉ N → a z = (0, 1)) → (∀ z, z ∉ N → b z = (0, 1)) → ((∀ z ∈ N, leQ (a z) (b z)) ↔ ∀ z, leQ (a z) (b z)) := fun ha hb => ⟨fun h z => by
      by_cases c : z ∈ N
      · exact h z c
      · rw [ha z c, hb z c]
        exact Int.le_refl _, fun h z _ => h z⟩
    have of' : ∀ z, z ∉ N → f z = (0, 1) := fun z n => hF.off n
    have og : ∀ z, z ∉ N → g z = (0, 1) := fun z n => hG.off n
    fail "rd"
    refine ⟨d1, d2, ln, N, N, f, g, rfl, h1, h2, hl, zf.mono, zg.mono, fun b1 H1 s1 e1 => ?_⟩
    fail "rd"
    refine ⟨d2, d1, ln, N, N, g, f, rfl, h2.same s1, h1.same s1, s1 _ _ hl, zg.mono, zf.mono, fun b2 H2 s2 e2 => ?_⟩
    have s12 := s1.trans s2
    have hF2 := hF.same s12
    have hG2 := hG.same s12
    obtain ⟨dx, sd, hp⟩ := hF2.ins
    obtain ⟨dy, se, hq⟩ := hG2.ins
    fail "rd"
    refine ⟨p, q, N, f, g, rfl, hF2, hG2, hN, zf, zg, fun c1 H3 s3 f1 => ?_⟩
    have hq3 := s3 _ _ hq
    fail "rd"
    refine ⟨q, p, N, g, f, rfl, hG2.same s3, hF2.same s3, hN, zg, zf, fun c2 H4 s4 f2 => ?_⟩
    obtain rfl := bool_iff (e1.trans (off of' og)) f1
    obtain rfl := bool_iff (e2.trans (off og of')) f2
    fail "rd"
    intro l1 n_l1
    generalize g_H5 : upd _ l1 _ = H5
    obtain ⟨s_H5, e_l1⟩ := gen_new n_l1 g_H5
    clear g_H5
    fail "rd"
    intro l2 n_l2
    generalize g_H6 : upd _ l2 _ = H6
    obtain ⟨s_H6, e_l2⟩ := gen_new n_l2 g_H6
    clear g_H6
    refine neLF (s_H6 _ _ e_l1) e_l2 rfl ?_
    have s6 := s3.trans (s4.trans (s_H5.trans s_H6))
    have hF6 := hF2.same s6
    have hG6 := hG2.same s6
    have hp6 := s6 _ _ hp
    clear e_l1 e_l2
    fail "rd"
    refine ⟨p, q, N, f, g, rfl, hF6, hG6, hN, zf.mono, zg.mono, fun c3 H7 s7 f3 => ?_⟩
    have hp7 := s7 _ _ hp6
    fail "rd"
    refine ⟨p, p, N, f, f, rfl, hF6.same s7, hF6.same s7, hN, zf.mono, zf.mono, fun c4 H8 s8 f4 => ?_⟩
    have hp8 := s8 _ _ hp7
    fail "rd"
    refine ⟨p, p, N, f, f, rfl, (hF6.same s7).same s8, (hF6.same s7).same s8, hN, zf, zf, fun c5 H9 s9 f5 => ?_⟩
    have x4 : c4 = true := f4.mpr fun z => rfl
    have x5 : c5 = true := f5.mpr fun z => Int.le_refl _
    subst x4 x5
    have x3 : c3 = (b1 && b2) := by
      refine bool_iff f3 ?_
      rw [Bool.and_eq_true, f1, f2]
      constructor
      · rintro ⟨a, b⟩ z
        have n1 : (f z).2 ≠ 0 := by have := (hF.red z).pos; omega
        have n2 : (g z).2 ≠ 0 := by have := (hG.red z).pos; omega
        have w := nrm_same n1 n2 (Int.le_antisymm (a z) (b z))
        rw [nrm_id (hF.red z), nrm_id (hG.red z)] at w
        exact w
      · intro a
        exact ⟨fun z => by rw [a z]; exact Int.le_refl _, fun z => by rw [a z]; exact Int.le_refl _⟩
    subst x3
    fail "rd"
    intro l3 n_l3
    generalize g_H10 : upd _ l3 _ = H10
    obtain ⟨s_H10, e_l3⟩ := gen_new n_l3 g_H10
    clear g_H10
    have s10 : Same H H10 := s12.trans (s6.trans (s7.trans (s8.trans (s9.trans s_H10))))
    cases b1
    · fail "rd"
      intro l4 n_l4
      generalize g_H11 : upd _ l4 _ = H11
      obtain ⟨s_H11, e_l4⟩ := gen_new n_l4 g_H11
      clear g_H11
      exact eqLF (s_H11 _ _ e_l3) e_l4 rfl (k H11 (s10.trans s_H11))
    · fail "rd"
      intro l4 n_l4
      generalize g_H11 : upd _ l4 _ = H11
      obtain ⟨s_H11, e_l4⟩ := gen_new n_l4 g_H11
      clear g_H11
      exact eqLF (s_H11 _ _ e_l3) e_l4 (by cases b2 <;> rfl) (k H11 (s10.trans s_H11))

abbrev s_l_price : Stmt := top 32
theorem sc_l_price : FnScope ["_law_bag_here", "_law_top_here"] ["_law_bag_here"] (defScope s_l_price) := ⟨rfl, rfl, rfl, by decide +kernel, rfl, by decide +kernel, by decide +kernel⟩
theorem nrm_nn {a b : Int} (h : 0 < b) (k : 0 ≤ a) : 0 ≤ (nrm a b).1 := by
  have c := nrm_cross (a := a) (b := b)
  have r := (nrm_red (a := a) (b := b) (by omega)).pos
  refine Int.not_lt.mp fun n => ?_
  have n1 : (nrm a b).1 * b < 0 := Int.mul_neg_of_neg_of_pos n h
  rw [c] at n1
  exact absurd (Int.mul_nonneg k (Int.le_of_lt r)) (by omega)
def sp_l_price (_ : PySem.W.Frag) (_ : Nat → Addr) : Sp := fun vs H Q _ => ∃ b : Addr, vs = [.ref b] ∧ ∃ L : Addr, Bag H L b ∧ ∀ (x : Int × Int) (p : Addr) (H' : Hp), Red x.1 x.2 → 0 ≤ x.1 → Sz 70 x.1 → Sz 70 x.2 → Keep b H H' → Bag H' L b → H p = none → H' p = some (.tup [.int x.1, .int x.2]) → Q (.ref p) H'
theorem ok_l_price {f : Addr} {fd : FuncData} (F : Fun K "_law_price" "_law_price" s_l_price f fd) (T : Txt K mg ca) (O__law_draw : Own P w K mg base 1 "_law_draw" ["_law_bag_here", "_law_size"] (sp_l_draw K ca)) (O__law_lowest : Own P w K mg base 2 "_law_lowest" ["_law_top_here", "_law_bottom"] (sp_l_lowest K ca)) : FnOk P w K mg base (L2N.CX P w) 3 f fd ["_law_bag_here"] (sp_l_price K ca) := by
  refine okN F sc_l_price (fun vs H Q E h => ?_) (fun cdv A outer s H vs Q E hr h => ?_)
  · obtain ⟨_, rfl, _⟩ := h
    rfl
  · obtain ⟨b, rfl, L, hB, k⟩ := h
    refine ⟨_, pss_cons (ps_set (i := 1) sc_l_price.nd rfl (Or.inl rfl) (pe_own O__law_draw (hr.mono (by decide)) rfl pas0 (pa_cons (pv 0) (pa_cons (pe_ix ix_list (pe_lst (pa_cons pe_int (pa_cons pe_int (pa_cons (pe_op op_pow pe_int pe_int) pa_nil)))) (pe_own O__law_draw (hr.mono (by decide)) rfl pas0 (pa_cons (pv 0) (pa_cons pe_int pa_nil))) (fun _ _ => rfl)) pa_nil)))) (pss_one (ps_ret (pe_own O__law_lowest (hr.mono (by decide)) rfl pas0 (pa_cons (pv 1) (pa_cons (pe_op op_add pe_int (pe_own O__law_draw (hr.mono (by decide)) rfl pas0 (pa_cons (pv 0) (pa_cons (pe_ix ix_list (pe_lst (pa_cons pe_int (pa_cons pe_int pa_nil))) (pe_own O__law_draw (hr.mono (by decide)) rfl pas0 (pa_cons (pv 0) (pa_cons pe_int pa_nil))) (fun _ _ => rfl)) pa_nil)))) pa_nil))))), ?_⟩
    fail "rd"
    intro l n_l
    generalize g_H1 : upd _ l _ = H1
    obtain ⟨s_H1, e_l⟩ := gen_new n_l g_H1
    clear g_H1
    have B1 := hB.same s_H1
    fail "rd"
    refine ⟨L, B1, by decide, by decide, fun c H2 c0 c1 k2 B2 => ?_⟩
    have e_l := k2 _ _ e_l (hB.ne n_l)
    obtain ⟨n, hn, n0, n1⟩ : ∃ n : Int, atI [V.int 2, .int 9, .int (10 ^ 20)] c = some (.int n) ∧ 0 < n ∧ n ≤ 10 ^ 20 := by
      have hc : c = 0 ∨ c = 1 ∨ c = 2 := by omega
      rcases hc with rfl | rfl | rfl
      · exact ⟨2, ix_c rfl, by decide, by decide⟩
      · exact ⟨9, ix_c rfl, by decide, by decide⟩
      · exact ⟨10 ^ 20, ix_c rfl, by decide, by decide⟩
    refine ⟨_, _, _, _, rfl, rfl, SqL.of e_l, hn, ?_⟩
    have e20 : (10 : Int) ^ 20 = 100000000000000000000 := by decide
    have e70 : (2 : Nat) ^ 70 = 1180591620717411303424 := by decide
    rw [e20] at n1
    have hz : ∀ x : Int, 0 ≤ x → x ≤ 1000000000000000000000 → Sz 70 x := fun x a b => by
      show x.natAbs < 2 ^ 70
      rw [e70]
      omega
    fail "rd"
    refine ⟨L, B2, by omega, (hz _ (by omega) (by omega)).lg, fun t H3 t0 t1 k3 B3 => ?_⟩
    fail "rd"
    intro l2 n_l2
    generalize g_H4 : upd _ l2 _ = H4
    obtain ⟨s_H4, e_l2⟩ := gen_new n_l2 g_H4
    clear g_H4
    have B4 := B3.same s_H4
    fail "rd"
    refine ⟨L, B4, by decide, by decide, fun d H5 d0 d1 k5 B5 => ?_⟩
    have e_l2 := k5 _ _ e_l2 (B3.ne n_l2)
    obtain ⟨m, hm, m0, m1⟩ : ∃ m : Int, atI [V.int 1, .int 7] d = some (.int m) ∧ 0 < m ∧ m ≤ 7 := by
      have hc : d = 0 ∨ d = 1 := by omega
      rcases hc with rfl | rfl
      · exact ⟨1, ix_c rfl, by decide, by decide⟩
      · exact ⟨7, ix_c rfl, by decide, by decide⟩
    refine ⟨_, _, _, _, rfl, rfl, SqL.of e_l2, hm, ?_⟩
    fail "rd"
    refine ⟨L, B5, m0, (hz m (by omega) (by omega)).lg, fun e H6 e0 e1 k6 B6 => ?_⟩
    fail "rd"
    have ne : (1 : Int) + e ≠ 0 := by omega
    have ze := hz (1 + e) (by omega) (by omega)
    refine ⟨ne, ze.lg, fun p H7 s7 np e7 => ?_⟩
    have kk := (Keep.of s_H1).trans (k2.trans (k3.trans ((Keep.of s_H4).trans (k5.trans k6))))
    exact k (nrm t (1 + e)) p H7 (nrm_red ne) (nrm_nn (by omega) t0) ((hz t t0 (by omega)).le (nrm_le1 ne)) (ze.le (nrm_le2 ne)) (kk.trans (.of s7)) (B6.same s7) (keep_free kk np (B6.ne np)) e7

abbrev s_l_pick : Stmt := top 21
theorem sc_l_pick : FnScope ["_law_bag_here", "_law_items"] ["_law_bag_here", "_law_items"] (defScope s_l_pick) := ⟨rfl, rfl, rfl, by decide +kernel, rfl, by decide +kernel, by decide +kernel⟩
def sp_l_pick (_ : PySem.W.Frag) (_ : Nat → Addr) : Sp := fun vs H Q _ => ∃ (b a : Addr) (xs : List V), vs = [.ref b, .ref a] ∧ ∃ L : Addr, Bag H L b ∧ H a = some (.lst xs) ∧ a ≠ b ∧ xs ≠ [] ∧ xs.length < 1000 ∧
  ∀ (i : Nat) (x : V) (H' : Hp), xs[i]? = some x → Keep b H H' → Bag H' L b → Q x H'
theorem ok_l_pick {f : Addr} {fd : FuncData} (F : Fun K "_law_pick" "_law_pick" s_l_pick f fd) (T : Txt K mg ca) (O__law_draw : Own P w K mg base 1 "_law_draw" ["_law_bag_here", "_law_size"] (sp_l_draw K ca)) : FnOk P w K mg base (L2N.CX P w) 2 f fd ["_law_bag_here", "_law_items"] (sp_l_pick K ca) := by
  refine okN F sc_l_pick (fun vs H Q E h => ?_) (fun cdv A outer s H vs Q E hr h => ?_)
  · obtain ⟨_, _, _, rfl, _⟩ := h
    rfl
  · obtain ⟨b, a, xs, rfl, L, hB, ha, hne, h0, h1, k⟩ := h
    refine ⟨_, pss_one (ps_ret (pe_ix ix_list (pv 1) (pe_own O__law_draw (hr.mono (by decide)) rfl pas0 (pa_cons (pv 0) (pa_cons (pe_callB call_len_seq (by rfl) T.b_len (by decide +kernel) (pa_cons (pv 1) pa_nil)) pa_nil))) (fun _ _ => rfl))), ?_⟩
    have hu : (0 : Int) < (xs.length : Nat) := by have := List.length_pos_iff.mpr h0; omega
    have h64 : (xs.length : Int).natAbs < 2 ^ 164 := Nat.lt_of_le_of_lt (show (xs.length : Int).natAbs ≤ 1000 by omega) (by decide)
    fail "rd"
    refine ⟨L, hB, hu, lg164 h64, fun d H1 d0 d1 k1 B1 => ?_⟩
    have ha := k1 _ _ ha hne
    obtain ⟨D, rfl⟩ := Int.eq_ofNat_of_zero_le d0
    have hD : D < xs.length := by omega
    refine ⟨a, xs, _, xs[D], rfl, rfl, SqL.of ha, atI_nat (by simp [hD]), ?_⟩
    exact k D _ H1 (by simp [hD]) k1 B1

abbrev s_NoPrice_init : Stmt := inClass (top 6) 0
theorem sc_NoPrice_init : FnScope ["self", "name"] ["self", "name"] (defScope s_NoPrice_init) := ⟨rfl, rfl, rfl, by decide +kernel, rfl, by decide +kernel, by decide +kernel⟩
theorem ok_NoPrice_init {f : Addr} {fd : FuncData} (F : Fun K "__init__" "NoPrice.__init__" s_NoPrice_init f fd) (T : Txt K mg ca)  : FnOk P w K mg base (L2N.CX P w) 1 f fd ["self", "name"] (spErr (ca 5) ["name"]) := by
  refine okN F sc_NoPrice_init (fun vs H Q E h => ?_) (fun cdv A outer s H vs Q E hr h => ?_)
  · obtain ⟨a, us, rfl, hl, _⟩ := h
    exact congrArg Nat.succ hl
  · obtain ⟨a, us, rfl, hl, ha, k⟩ := h
    obtain ⟨x0, rfl⟩ := list_1 hl
    refine ⟨_, pss_one (ps_ost (pv 0) (pv 1)), ?_⟩
    refine ⟨_, rfl, _, rfl, ?_⟩
    refine err_1 T.ox_NoPrice T.nf_NoPrice_name ha fun dx H1 nd ne a1 d1 m1 => ?_
    exact k dx _ nd ne a1 d1 fun b o e n => m1 _ _ e n
abbrev s_Negative_init : Stmt := inClass (top 7) 0
theorem sc_Negative_init : FnScope ["self", "name"] ["self", "name"] (defScope s_Negative_init) := ⟨rfl, rfl, rfl, by decide +kernel, rfl, by decide +kernel, by decide +kernel⟩
theorem ok_Negative_init {f : Addr} {fd : FuncData} (F : Fun K "__init__" "Negative.__init__" s_Negative_init f fd) (T : Txt K mg ca)  : FnOk P w K mg base (L2N.CX P w) 1 f fd ["self", "name"] (spErr (ca 6) ["name"]) := by
  refine okN F sc_Negative_init (fun vs H Q E h => ?_) (fun cdv A outer s H vs Q E hr h => ?_)
  · obtain ⟨a, us, rfl, hl, _⟩ := h
    exact congrArg Nat.succ hl
  · obtain ⟨a, us, rfl, hl, ha, k⟩ := h
    obtain ⟨x0, rfl⟩ := list_1 hl
    refine ⟨_, pss_one (ps_ost (pv 0) (pv 1)), ?_⟩
    refine ⟨_, rfl, _, rfl, ?_⟩
    refine err_1 T.ox_Negative T.nf_Negative_name ha fun dx H1 nd ne a1 d1 m1 => ?_
    exact k dx _ nd ne a1 d1 fun b o e n => m1 _ _ e n
abbrev s_check_prices : Stmt := top 15
theorem sc_check_prices : FnScope ["names", "prices", "name"] ["names", "prices"] (defScope s_check_prices) := ⟨rfl, rfl, rfl, by decide +kernel, rfl, by decide +kernel, by decide +kernel⟩
/-- a dict of prices: g tells the price of each name that has one -/
def PT (ca : Nat → Addr) (H : Hp) (d : Addr) (M : List Str) (g : Str → Option (Int × Int)) : Prop := ∃ kvs, H d = some (.dK kvs) ∧ KOk M kvs ∧ (∀ z v, valV kvs (.inr z) = some v → ∃ x, g z = some x ∧ NumV ca H v x.1 x.2) ∧ ∀ z, valV kvs (.inr z) = none → g z = none
theorem PT.same {ca : Nat → Addr} {H H' : Hp} {d : Addr} {M : List Str} {g : Str → Option (Int × Int)} (h : PT ca H d M g) (s : Same H H') : PT ca H' d M g :=
  let ⟨kvs, e, k, a, b⟩ := h; ⟨kvs, s _ _ e, k, fun z v q => let ⟨x, y, w⟩ := a z v q; ⟨x, y, w.same s⟩, b⟩
def SzP (n : Nat) (g : Str → Option (Int × Int)) : Prop := ∀ z x, g z = some x → Sz n x.1 ∧ Sz n x.2
def missP (g : Str → Option (Int × Int)) (ys : List Str) : Option Str := ys.find? fun y => (g y).isNone
def negB (g : Str → Option (Int × Int)) (y : Str) : Bool := match g y with
  | some x => decide (x.1 < 0)
  | none => false
def negP (g : Str → Option (Int × Int)) (ys : List Str) : Option Str := ys.find? (negB g)
theorem find_at {ys : List Str} {p : Str → Bool} {i : Nat} {y : Str} (h : (ys.take i).find? p = none) (e : ys[i]? = some y) (k : p y = true) : ys.find? p = some y := by
  have hi := (List.getElem?_eq_some_iff.mp e).1
  have : ys = ys.take i ++ y :: ys.drop (i + 1) := by
    have q : ys[i] = y := (List.getElem?_eq_some_iff.mp e).2
    rw [← q, List.getElem_cons_drop, List.take_append_drop]
  rw [this, List.find?_append, h]
  simp [k]
theorem find_next {ys : List Str} {p : Str → Bool} {i : Nat} {y : Str} (h : (ys.take i).find? p = none) (e : ys[i]? = some y) (k : p y = false) : (ys.take (i + 1)).find? p = none := by
  rw [List.take_succ, e, List.find?_append, h]
  simp [k]
def sp_check_prices (_ : PySem.W.Frag) (ca : Nat → Addr) : Sp := fun vs H Q E => ∃ (l d : Addr) (ys M : List Str) (g : Str → Option (Int × Int)), vs = [.ref l, .ref d] ∧ H l = some (.lst (ys.map V.str)) ∧ PT ca H d M g ∧ SzP 3000 g ∧
  (∀ y, missP g ys = some y → ∀ (e : Addr) (H' : Hp), Same H H' → H' e = some (.xd [("name", .str y)]) → E (.ref (ca 5)) (some e) H') ∧
  (missP g ys = none → ∀ y, negP g ys = some y → ∀ (e : Addr) (H' : Hp), Same H H' → H' e = some (.xd [("name", .str y)]) → E (.ref (ca 6)) (some e) H') ∧
  (missP g ys = none → negP g ys = none → ∀ H' : Hp, Same H H' → Q .non H')
theorem ok_check_prices {f : Addr} {fd : FuncData} (F : Fun K "check_prices" "check_prices" s_check_prices f fd) (T : Txt K mg ca) (O_as_ratio : Own P w K mg base 3 "as_ratio" ["number"] (sp_as_ratio K ca)) (O_NoPrice_init : OwnE P w K mg base "NoPrice" (ca 5) ["name"]) (O_Negative_init : OwnE P w K mg base "Negative" (ca 6) ["name"]) (O_Ratio_less : OwnM P w K mg base 4 (ca 2) "less" ["self", "other"] (sp_Ratio_less K ca)) : FnOk P w K mg base (L2N.CX P w) 5 f fd ["names", "prices"] (sp_check_prices K ca) := by
  refine okN F sc_check_prices (fun vs H Q E h => ?_) (fun cdv A outer s H vs Q E hr h => ?_)
  · obtain ⟨_, _, _, _, _, rfl, _⟩ := h
    rfl
  · obtain ⟨l, d, ys, M, g, rfl, hl, hd, hz, k1, k2, k3⟩ := h
    refine ⟨_, pss_cons (ps_for (passes_of rfl) rfl (pi_list (pv 0)) (pg_name (i := 2) sc_check_prices.nd rfl (Or.inl rfl)) (pss_one (ps_if (pt_cmp (pc_dnotin (hu_of (hr.mono (Nat.zero_le _))) (pv 2) (pv 1))) (pss_one (ps_raiseE rfl O_NoPrice_init (hr.mono (by decide)) (L2N.takes_of rfl rfl rfl rfl) rfl (pa_cons (pv 2) pa_nil))) pss_nil))) (pss_one (ps_for (passes_of rfl) rfl (pi_list (pv 0)) (pg_name (i := 2) sc_check_prices.nd rfl (Or.inl rfl)) (pss_one (ps_if (pt_val (pe_ownm O_Ratio_less (pe_own O_as_ratio (hr.mono (by decide)) rfl (pasE (L2N.takes_of rfl rfl rfl rfl)) (pa_cons (pe_dget (hu_of (hr.mono (Nat.zero_le _))) (pv 1) (pv 2) (fun _ _ => rfl)) pa_nil)) (hr.mono (by decide)) (pasE (L2N.takes_of rfl rfl rfl rfl)) (pa_cons pe_int pa_nil))) (pss_one (ps_raiseE rfl O_Negative_init (hr.mono (by decide)) (L2N.takes_of rfl rfl rfl rfl) rfl (pa_cons (pv 2) pa_nil))) pss_nil)))), ?_⟩
    fail "rd"
    refine for_list (K := K) (a := l) (xs := ys.map V.str) (fun i σ' H' => ∃ v, σ' = [some (.ref l), some (.ref d), v] ∧ H' = H ∧ missP g (ys.take i) = none) ⟨none, rfl, rfl, rfl⟩ (fun i σ' H' _ ⟨_, _, e, _⟩ => by rw [e]; exact SqL.of hl) ?_ ?_
    · rintro i x σ' H1 hi ⟨v, rfl, rfl, hm⟩
      obtain ⟨y, hy, rfl⟩ : ∃ y, ys[i]? = some y ∧ V.str y = x := by
        rw [List.getElem?_map] at hi
        exact Option.map_eq_some_iff.mp hi
      obtain ⟨kvs, ed, hk, h1, h2⟩ := hd
      fail "rd"
      refine ⟨d, _, rfl, DGet.k (k := Sum.inr y) ed, _, rfl, ?_⟩
      cases e : valV kvs (Sum.inr y) with
      | none =>
        refine iteBT rfl ?_
        have q : missP g ys = some y := find_at hm hy (by rw [h2 y e]; rfl)
        exact ⟨_, rfl, err_in rfl (by decide) fun e H2 _ s2 e2 => k1 y q e H2 s2 e2⟩
      | some v =>
        refine iteBF rfl ?_
        obtain ⟨x, gx, _⟩ := h1 y v e
        exact ⟨_, rfl, rfl, find_next hm hy (by rw [gx]; rfl)⟩
    · rintro σ' H1 ⟨v, rfl, rfl, hm⟩
      rw [List.length_map, List.take_length] at hm
      fail "rd"
      refine for_list (K := K) (a := l) (xs := ys.map V.str) (fun i σ' H' => ∃ v, σ' = [some (.ref l), some (.ref d), v] ∧ Same H1 H' ∧ negP g (ys.take i) = none) ⟨v, rfl, Same.refl _, rfl⟩ (fun i σ' H' _ ⟨_, _, e, _⟩ => SqL.of (e _ _ hl)) ?_ ?_
      · rintro i x σ' H2 hi ⟨v, rfl, s2, hn⟩
        obtain ⟨y, hy, rfl⟩ : ∃ y, ys[i]? = some y ∧ V.str y = x := by
          rw [List.getElem?_map] at hi
          exact Option.map_eq_some_iff.mp hi
        obtain ⟨kvs, ed, hk, h1, h2⟩ := hd.same s2
        obtain ⟨v, ev⟩ : ∃ v, valV kvs (Sum.inr y) = some v := by
          cases e : valV kvs (Sum.inr y) with
          | some v => exact ⟨v, rfl⟩
          | none =>
            have q : missP g ys = some y ∨ True := .inr True.intro
            have := List.find?_eq_none.mp hm y (List.mem_of_getElem? hy)
            rw [h2 y e] at this
            exact absurd rfl this
        obtain ⟨x, gx, hx⟩ := h1 y v ev
        obtain ⟨z1, z2⟩ := hz y x gx
        fail "rd"
        refine ⟨d, v, rfl, dget (.inl ed) ev, ?_⟩
        refine ⟨v, x.1, x.2, rfl, hx, fun q H3 s3 hq => ?_⟩
        obtain ⟨_, dq, eq⟩ := id hq
        fail "rd"
        refine ⟨q, .int 0, _, _, 0, 1, rfl, hq, .inl ⟨rfl, rfl⟩, mok_r (by decide), mok_l (by decide), fun H4 s4 => ?_⟩
        have nb : negB g y = decide (x.1 * 1 < 0 * x.2) := by
          unfold negB
          rw [gx, Int.mul_one, Int.zero_mul]
        rw [← nb]
        fail "rd"
        have s24 := s2.trans (s3.trans s4)
        cases e : negB g y with
        | true =>
          refine iteBT rfl ?_
          have q : negP g ys = some y := find_at hn hy e
          exact ⟨_, rfl, err_in rfl (by decide) fun e H5 _ s5 e5 => k2 hm y q e H5 (s24.trans s5) e5⟩
        | false =>
          refine iteBF rfl ?_
          exact ⟨_, rfl, s24, find_next hn hy e⟩
      · rintro σ' H2 ⟨v, rfl, s2, hn⟩
        rw [List.length_map, List.take_length] at hn
        fail "rd"
        exact k3 hm hn H2 s2

abbrev s_Ratio_sum_of : Stmt := inClass (top 10) 15
theorem sc_Ratio_sum_of : FnScope ["items", "total", "item"] ["items"] (defScope s_Ratio_sum_of) := ⟨rfl, rfl, rfl, by decide +kernel, rfl, by decide +kernel, by decide +kernel⟩
/-- what sum_of needs: the items are numbers, and all sums on the way are small -/
def sp_Ratio_sum_of (K : PySem.W.Frag) (ca : Nat → Addr) : Sp := fun vs H Q _ => ∃ (l : Addr) (xs : List V) (fs : List (Int × Int)), vs = [.ref l] ∧ SqL K H l xs ∧ xs.length = fs.length ∧ (∀ (i : Nat) (x : V) (f : Int × Int), xs[i]? = some x → fs[i]? = some f → NumQ ca H x f.1 f.2 ∧ Sz 4000 f.1 ∧ Sz 4000 f.2) ∧
  (∀ i, i < fs.length → Sz 4000 (sumQ (0, 1) (fs.take i)).1 ∧ Sz 4000 (sumQ (0, 1) (fs.take i)).2) ∧ ∀ (q : Addr) (H' : Hp), Same H H' → RatQ ca H' q (sumQ (0, 1) fs).1 (sumQ (0, 1) fs).2 → Q (.ref q) H'
theorem ok_Ratio_sum_of {f : Addr} {fd : FuncData} (F : Fun K "sum_of" "Ratio.sum_of" s_Ratio_sum_of f fd) (T : Txt K mg ca) (O_Ratio_2 : OwnI P w K mg base 1 "Ratio" (ca 2) ["self", "top", "bottom"] [] (sp_Ratio_init K ca)) (O_Ratio_1 : OwnI P w K mg base 1 "Ratio" (ca 2) ["self", "top", "bottom"] [.int 1] (sp_Ratio_init K ca)) (O_Ratio___add__ : OwnM P w K mg base 4 (ca 2) "__add__" ["self", "other"] (sp_Ratio_add K ca)) : FnOk P w K mg base (L2N.CX P w) 5 f fd ["items"] (sp_Ratio_sum_of K ca) := by
  refine okN F sc_Ratio_sum_of (fun vs H Q E h => ?_) (fun cdv A outer s H vs Q E hr h => ?_)
  · obtain ⟨_, _, _, rfl, _⟩ := h
    rfl
  · obtain ⟨l, xs, fs, rfl, hl, hlen, hf, hz, k⟩ := h
    refine ⟨_, pss_cons (ps_set (i := 1) sc_Ratio_sum_of.nd rfl (Or.inl rfl) (pe_owni O_Ratio_1 (hr.mono (by decide)) rfl pas0 (pa_cons pe_int pa_nil))) (pss_cons (ps_for (passes_of rfl) rfl (pi_list (pv 0)) (pg_name (i := 2) sc_Ratio_sum_of.nd rfl (Or.inl rfl)) (pss_one (ps_set (i := 1) sc_Ratio_sum_of.nd rfl (Or.inl rfl) (pe_op (op_own .add T.ar_Ratio O_Ratio___add__ (hr.mono (by decide)) passN) (pv 1) (pv 2))))) (pss_one (ps_ret (pv 1)))), ?_⟩
    fail "rd"
    intro t d_t n_t nd_t ne_t
    refine ⟨t, d_t, _, _, rfl, upd_same, (by decide), fun z => absurd z (by decide), fun _ H1 k_t e_t => ⟨rfl, ?_⟩⟩
    have s_H1 := same_made n_t nd_t ne_t k_t
    have R1 : RatQ ca H1 t 0 1 := ⟨by decide, nrm_red (by decide), _, e_t⟩
    fail "rd"
    refine for_list (K := K) (a := l) (xs := xs) (fun i σ' H' => ∃ (p : Addr) (v : Option V), σ' = [some (.ref l), some (.ref p), v] ∧ Same H1 H' ∧ RatQ ca H' p (sumQ (0, 1) (fs.take i)).1 (sumQ (0, 1) (fs.take i)).2) ⟨t, none, rfl, Same.refl _, R1⟩
      (fun i σ' H' _ ⟨_, _, _, s, _⟩ => SqL.same (s_H1.trans s) hl) ?_ ?_
    · rintro i x σ' H' hx ⟨p, v, rfl, sH, R⟩
      have hi : i < fs.length := by
        have := (List.getElem?_eq_some_iff.mp hx).1
        omega
      obtain ⟨n1, z1, z2⟩ := hf i x fs[i] hx (by simp [hi])
      have n1 := n1.same (s_H1.trans sH)
      obtain ⟨z3, z4⟩ := hz i hi
      fail "rd"
      refine rOwn_of R n1 ⟨p, x, _, _, _, _, rfl, R, n1, z3, z4, z1, z2, fun q H2 nq sm hq => ?_⟩
      fail "rd"
      refine ⟨sH.trans sm, ?_⟩
      rw [List.take_succ_eq_append_getElem hi]
      unfold sumQ at hq ⊢
      rw [List.foldl_append]
      exact hq
    · rintro σ' H' ⟨p, v, rfl, sH, R⟩
      fail "rd"
      rw [hlen, List.take_length] at R
      exact k p H' (s_H1.trans sH) R

abbrev s_Form_at : Stmt := inClass (top 16) 10
theorem sc_Form_at : FnScope ["self", "prices", "names", "name"] ["self", "prices"] (defScope s_Form_at) := ⟨rfl, rfl, rfl, by decide +kernel, rfl, by decide +kernel, by decide +kernel⟩
def prodF (f : Fm) (g : Str → Option (Int × Int)) (y : Str) : Int × Int := ((f y).1 * ((g y).getD (0, 1)).1, (f y).2 * ((g y).getD (0, 1)).2)
def sp_Form_at (_ : PySem.W.Frag) (ca : Nat → Addr) : Sp := fun vs H Q E => ∃ (p d : Addr) (N M : List Str) (f : Fm) (g : Str → Option (Int × Int)), vs = [.ref p, .ref d] ∧ FormAt ca H p N f ∧ Uni N ∧ N.length ≤ 12 ∧ SzF 90 f ∧ PT ca H d M g ∧ SzP 90 g ∧
  ∀ ys : List Str, ys.Nodup → sortedS ys = true → (∀ z, z ∈ ys ↔ (f z).1 ≠ 0) →
    (∀ y, missP g ys = some y → ∀ (e : Addr) (H' : Hp), Same H H' → H' e = some (.xd [("name", .str y)]) → E (.ref (ca 5)) (some e) H') ∧
    (missP g ys = none → ∀ y, negP g ys = some y → ∀ (e : Addr) (H' : Hp), Same H H' → H' e = some (.xd [("name", .str y)]) → E (.ref (ca 6)) (some e) H') ∧
    (missP g ys = none → negP g ys = none → ∀ (q : Addr) (H' : Hp), Same H H' → RatQ ca H' q (sumQ (0, 1) (ys.map (prodF f g))).1 (sumQ (0, 1) (ys.map (prodF f g))).2 → Q (.ref q) H')
theorem ok_Form_at {f : Addr} {fd : FuncData} (F : Fun K "at" "Form.at" s_Form_at f fd) (T : Txt K mg ca) (O_check_prices : Own P w K mg base 5 "check_prices" ["names", "prices"] (sp_check_prices K ca)) (O_Form_names : OwnM P w K mg base 1 (ca 3) "names" ["self"] (sp_Form_names K ca)) (O_Ratio___mul__ : OwnM P w K mg base 4 (ca 2) "__mul__" ["self", "other"] (sp_Ratio_mul K ca)) (O_Ratio_sum_of : OwnS P w K mg base 5 (ca 2) "sum_of" ["items"] (sp_Ratio_sum_of K ca)) : FnOk P w K mg base (L2N.CX P w) 6 f fd ["self", "prices"] (sp_Form_at K ca) := by
  refine okN F sc_Form_at (fun vs H Q E h => ?_) (fun cdv A outer s H vs Q E hr h => ?_)
  · obtain ⟨_, _, _, _, _, _, rfl, _⟩ := h
    rfl
  · obtain ⟨p, d, N, M, f, g, rfl, hF, hN, n12, zf, hd, zg, k⟩ := h
    refine ⟨_, pss_cons (ps_set (i := 2) sc_Form_at.nd rfl (Or.inl rfl) (pe_ownm0 O_Form_names (pv 0) (hr.mono (by decide)) (pasE (L2N.takes_of rfl rfl rfl rfl)))) (pss_cons (ps_expr (pe_own O_check_prices (hr.mono (by decide)) rfl (pasE (L2N.takes_of rfl rfl rfl rfl)) (pa_cons (pv 2) (pa_cons (pv 1) pa_nil)))) (pss_one (ps_ret (pe_owns O_Ratio_sum_of (pe_glob (v := .ref (ca 2)) (by rfl) T.g_Ratio rfl) (hr.mono (by decide)) (pasE (L2N.takes_of rfl rfl rfl rfl)) (pa_cons (pe_lc (own := [("name", 3)]) (g := gName 3) (tt := tYes) rfl sc_Form_at.nd (pi_list (pv 2)) (blkOk_by (N := ["self", "prices", "names", "name"]) (sc := defScope s_Form_at) (by decide +kernel)) (fun _ _ _ _ _ => pg_name (i := 3) sc_Form_at.nd rfl (Or.inl rfl)) (fun _ _ _ _ _ => pts_nil) (fun _ _ _ _ _ => pe_op (op_own .mul T.ar_Ratio O_Ratio___mul__ (hr.mono (by decide)) passN) (pe_dget (hu_of (hr.mono (Nat.zero_le _))) (pe_fldK (K := K) (pv 0) rfl rfl) (pv 3) (fun _ _ => rfl)) (pe_dget (hu_of (hr.mono (Nat.zero_le _))) (pv 1) (pv 3) (fun _ _ => rfl)))) pa_nil))))), ?_⟩
    fail "rd"
    obtain ⟨dx, sd, hp⟩ := hF.ins
    fail "rd"
    refine ⟨p, N, f, rfl, hF, hN, fun ys l H1 ny so hm h60 nl s1 hl => ?_⟩
    obtain ⟨k1, k2, k3⟩ := k ys ny so hm
    have l12 : ys.length ≤ 12 := Nat.le_trans (nodup_len ny fun z m => Classical.byContradiction fun n => (hm z).mp m (by rw [hF.off n])) n12
    fail "rd"
    refine ⟨l, d, ys, M, g, rfl, hl, hd.same s1, fun z x e => let ⟨a, b⟩ := zg z x e; ⟨a.mono, b.mono⟩, fun y e a H' s q => k1 y e a H' (s1.trans s) q, fun m y e a H' s q => k2 m y e a H' (s1.trans s) q, fun m n H2 s2 => ?_⟩
    have hl := s2 _ _ hl
    have hF := (hF.same s1).same s2
    have hd := (hd.same s1).same s2
    have s12 := s1.trans s2
    have k3 := k3 m n
    obtain ⟨dx2, sd2, hp2, kvs, hsd, t⟩ := id hF
    obtain ⟨kp, ep, hkp, h1, h2⟩ := id hd
    have hg : ∀ y ∈ ys, ∃ x, g y = some x := fun y my => by
      have := List.find?_eq_none.mp m y my
      cases e : g y with
      | none => rw [e] at this; exact absurd rfl this
      | some x => exact ⟨x, rfl⟩
    fail "rd"
    intro D nD
    refine lc_list (K := K) (a := l) (xs := ys.map V.str) (fun i H' => Same H2 H' ∧ ∃ xs, H' D = some (.lst xs) ∧ Paired (fun x y => NumQ ca H' x (prodF f g y).1 (prodF f g y).2) xs (ys.take i)) ⟨same_upd nD, [], upd_same, .nil⟩ (fun i H' _ s => SqL.of (s.1 _ _ hl)) ?_ ?_
    · rintro i x H3 hi ⟨s3, xs, eD, hP⟩
      obtain ⟨y, hy, rfl⟩ : ∃ y, ys[i]? = some y ∧ V.str y = x := by
        rw [List.getElem?_map] at hi
        exact Option.map_eq_some_iff.mp hi
      have my := List.mem_of_getElem? hy
      obtain ⟨x, gx⟩ := hg y my
      have hp2 := s3 _ _ hp2
      have hsd := s3 _ _ hsd
      have ep := s3 _ _ ep
      obtain ⟨v, hv⟩ := (FormSh.mem t y).mpr ((hm y).mp my)
      obtain ⟨q, rfl, hq, _⟩ := t.r y v hv
      obtain ⟨w, hw⟩ : ∃ w, valV kp (.inr y) = some w := by
        cases e : valV kp (.inr y) with
        | none => rw [h2 y e] at gx; cases gx
        | some w => exact ⟨w, rfl⟩
      obtain ⟨x', gx', hx⟩ := h1 y w hw
      rw [gx] at gx'
      cases gx'
      fail "rd"
      refine ⟨sd2, _, rfl, dget (.inl hsd) hv, ?_⟩
      fail "rd"
      refine ⟨d, w, rfl, dget (.inl ep) hw, ?_⟩
      obtain ⟨z1, z2⟩ := zf y
      obtain ⟨z3, z4⟩ := zg y x gx
      have hq := ((hq.same s3).q)
      have hn : NumQ ca H3 w x.1 x.2 := (hx.same s3).imp id fun ⟨p, e, r⟩ => ⟨p, e, r.q⟩
      refine rOwn_of hq hn ⟨q, w, _, _, x.1, x.2, rfl, hq, hn, z1.mono, z2.mono, z3.mono, z4.mono, fun r H4 nr s4 hr => ?_⟩
      have e4 := s4 _ _ eD
      have li : i < ys.length := (List.getElem?_eq_some_iff.mp hy).1
      have lx : xs.length = i := by rw [hP.length, List.length_take]; omega
      refine ⟨xs, e4, Nat.lt_of_lt_of_le (show xs.length < 100 by omega) (line_le (by decide)), ?_⟩
      have s5 : Same H2 (upd H4 D (.lst (xs ++ [.ref r]))) := fun b o e => by
        rw [upd_ne (ne_of_none e nD)]
        exact s4 _ _ (s3 _ _ e)
      refine ⟨s5, _, upd_same, ?_⟩
      rw [List.take_succ, hy]
      refine Paired.snoc (Paired.mapP hP fun x y n => (n.same s4).put e4 keep_upd) (.inr ⟨r, rfl, ?_⟩)
      have pe : prodF f g y = ((f y).1 * x.1, (f y).2 * x.2) := by unfold prodF; rw [gx]; rfl
      rw [pe]
      exact hr.put e4 keep_upd
    · rintro H3 ⟨s3, xs, eD, hP⟩
      fail "rd"
      rw [List.length_map, List.take_length] at hP
      have zz : ∀ y ∈ ys, Sz 200 (prodF f g y).1 ∧ Sz 200 (prodF f g y).2 := fun y my => by
        obtain ⟨x, gx⟩ := hg y my
        obtain ⟨z1, z2⟩ := zf y
        obtain ⟨z3, z4⟩ := zg y x gx
        have pe : prodF f g y = ((f y).1 * x.1, (f y).2 * x.2) := by unfold prodF; rw [gx]; rfl
        rw [pe]
        exact ⟨(z1.mul z3).mono, (z2.mul z4).mono⟩
      refine ⟨D, xs, ys.map (prodF f g), rfl, SqL.of eD, by rw [hP.length, List.length_map], fun i x u hx hu => ?_, fun i hi => ?_, fun q H4 s4 hq => k3 q H4 (s12.trans (s3.trans s4)) hq⟩
      · rw [List.getElem?_map] at hu
        obtain ⟨y, hy, rfl⟩ := Option.map_eq_some_iff.mp hu
        obtain ⟨a, b⟩ := zz y (List.mem_of_getElem? hy)
        exact ⟨paired_get (F := fun x y => NumQ ca H3 x (prodF f g y).1 (prodF f g y).2) hP hx hy, a.mono, b.mono⟩
      · obtain ⟨w1, w2⟩ := sumQ_size ((ys.map (prodF f g)).take i) (0, 1) 1 (fun u m => by
          obtain ⟨y, my, rfl⟩ := List.mem_map.mp (List.mem_of_mem_take m)
          exact zz y my) Sz.zero Sz.one
        have : ((ys.map (prodF f g)).take i).length ≤ 12 := by rw [List.length_take, List.length_map]; omega
        exact ⟨w1.mono (by omega), w2.mono (by omega)⟩

abbrev s_l_refusal : Stmt := top 33
theorem sc_l_refusal : FnScope ["_law_form", "_law_prices", "_law_told", "e"] ["_law_form", "_law_prices"] (defScope s_l_refusal) := ⟨rfl, rfl, rfl, by decide +kernel, rfl, by decide +kernel, by decide +kernel⟩
def refV (H : Hp) (r : V) (g : Str → Option (Int × Int)) (ys : List Str) : Prop := match missP g ys with
  | some y => ∃ t, r = .ref t ∧ H t = some (.tup [.str "none", .str y, .bl true])
  | none => match negP g ys with
    | some y => ∃ t, r = .ref t ∧ H t = some (.tup [.str "below", .str y, .bl true])
    | none => r = .non
def sp_l_refusal (_ : PySem.W.Frag) (ca : Nat → Addr) : Sp := fun vs H Q _ => ∃ (p d : Addr) (N M : List Str) (f : Fm) (g : Str → Option (Int × Int)), vs = [.ref p, .ref d] ∧ FormAt ca H p N f ∧ Uni N ∧ N.length ≤ 12 ∧ SzF 90 f ∧ PT ca H d M g ∧ SzP 90 g ∧
  ∀ (r : V) (H' : Hp), Same H H' → (∀ ys : List Str, ys.Nodup → sortedS ys = true → (∀ z, z ∈ ys ↔ (f z).1 ≠ 0) → refV H' r g ys) → Q r H'
theorem ok_l_refusal {f : Addr} {fd : FuncData} (F : Fun K "_law_refusal" "_law_refusal" s_l_refusal f fd) (T : Txt K mg ca) (O_Form_at : OwnM P w K mg base 6 (ca 3) "at" ["self", "prices"] (sp_Form_at K ca)) : FnOk P w K mg base (L2N.CX P w) 7 f fd ["_law_form", "_law_prices"] (sp_l_refusal K ca) := by
  refine okN F sc_l_refusal (fun vs H Q E h => ?_) (fun cdv A outer s H vs Q E hr h => ?_)
  · obtain ⟨_, _, _, _, _, _, rfl, _⟩ := h
    rfl
  · obtain ⟨p, d, N, M, f, g, rfl, hF, hN, n12, zf, hd, zg, k⟩ := h
    refine ⟨_, pss_cons (ps_set (i := 2) sc_l_refusal.nd rfl (Or.inl rfl) pe_non) (pss_cons (ps_try_all (out := fun _ _ _ _ => False) rfl rfl sc_l_refusal.nd takesN (fun W pn xe tk _ => pss_one (ps_set (i := 2) sc_l_refusal.nd rfl (Or.inl rfl) (pe_ownm O_Form_at (pv 0) (hr.mono (by decide)) (fun σ => L2N.passAt tk σ) (pa_cons (pv 1) pa_nil)))) (Clauses.cons (i := 3) rfl rfl ⟨rfl, by decide, Or.inl T.g_NoPrice⟩ (fun a oe cls d pn hzn hf => have hz := hzn.zc; pss_one (ps_ret (pe_tup (pa_cons pe_str (pa_cons (pe_xf T.xf_NoPrice T.nf_NoPrice_name hz hf (pv 3)) (pa_cons (pe_and (pe_callB (call_isD T.ec_NoPrice hz hf) (by rfl) T.b_isinstance (by decide +kernel) (pa_cons (pv 3) (pa_cons (pe_glob (v := .ref (ca 0)) (by rfl) T.g_CostError rfl) pa_nil))) (pe_one (pe_cmpR op_isN (pv 2) pe_non (nomark _)))) pa_nil)))))) (Clauses.cons (i := 3) rfl rfl ⟨rfl, by decide, Or.inl T.g_Negative⟩ (fun a oe cls d pn hzn hf => have hz := hzn.zc; pss_one (ps_ret (pe_tup (pa_cons pe_str (pa_cons (pe_xf T.xf_Negative T.nf_Negative_name hz hf (pv 3)) (pa_cons (pe_and (pe_callB (call_isD T.ec_Negative hz hf) (by rfl) T.b_isinstance (by decide +kernel) (pa_cons (pv 3) (pa_cons (pe_glob (v := .ref (ca 0)) (by rfl) T.g_CostError rfl) pa_nil))) (pe_one (pe_cmpR op_isN (pv 2) pe_non (nomark _)))) pa_nil)))))) (Clauses.nil)))) (pss_one (ps_ret pe_non))), ?_⟩
    obtain ⟨dx, sd, hp⟩ := hF.ins
    fail "rd"
    refine ⟨p, d, N, M, f, g, rfl, hF, hN, n12, zf, hd, zg, fun ys ny so hm => ⟨fun y e a H1 s1 e1 => ?_, fun m y e a H1 s1 e1 => ?_, fun m n q H1 s1 hq => ?_⟩⟩
    · have uq : ∀ ws : List Str, ws.Nodup → sortedS ws = true → (∀ z, z ∈ ws ↔ (f z).1 ≠ 0) → ws = ys := fun ws nw sw hw => sorted_uniq sw so (nodup_perm nw ny fun z => (hw z).trans (hm z).symm)
      refine ⟨true, T.te_NoPrice, fun _ b nb => ?_, fun q => Bool.noConfusion q⟩
      fail "rd"
      refine ⟨_, _, true, rfl, rfl, fun x hx => by cases hx; exact ⟨_, e1⟩, fun u r => r, T.ki_NoPrice_CostError, ?_⟩
      fail "rd"
      intro t n_t
      generalize g_H2 : upd _ t _ = H2
      obtain ⟨s_H2, e_t⟩ := gen_new n_t g_H2
      clear g_H2
      refine k (.ref t) H2 (s1.trans s_H2) fun ws nw sw hw => ?_
      rw [uq ws nw sw hw]
      unfold refV
      rw [e]
      exact ⟨t, rfl, e_t⟩
    · have uq : ∀ ws : List Str, ws.Nodup → sortedS ws = true → (∀ z, z ∈ ws ↔ (f z).1 ≠ 0) → ws = ys := fun ws nw sw hw => sorted_uniq sw so (nodup_perm nw ny fun z => (hw z).trans (hm z).symm)
      refine ⟨false, T.tx_Negative_NoPrice, fun q => Bool.noConfusion q, fun _ => ?_⟩
      refine ⟨true, T.te_Negative, fun _ b nb => ?_, fun q => Bool.noConfusion q⟩
      fail "rd"
      refine ⟨_, _, true, rfl, rfl, fun x hx => by cases hx; exact ⟨_, e1⟩, fun u r => r, T.ki_Negative_CostError, ?_⟩
      fail "rd"
      intro t n_t
      generalize g_H2 : upd _ t _ = H2
      obtain ⟨s_H2, e_t⟩ := gen_new n_t g_H2
      clear g_H2
      refine k (.ref t) H2 (s1.trans s_H2) fun ws nw sw hw => ?_
      rw [uq ws nw sw hw]
      unfold refV
      rw [m, e]
      exact ⟨t, rfl, e_t⟩
    · have uq : ∀ ws : List Str, ws.Nodup → sortedS ws = true → (∀ z, z ∈ ws ↔ (f z).1 ≠ 0) → ws = ys := fun ws nw sw hw => sorted_uniq sw so (nodup_perm nw ny fun z => (hw z).trans (hm z).symm)
      fail "rd"
      refine k .non H1 s1 fun ws nw sw hw => ?_
      rw [uq ws nw sw hw]
      unfold refV
      rw [m, n]

abbrev s_l_refused_right : Stmt := top 36
theorem sc_l_refused_right : FnScope ["_law_bag_here", "_law_left", "_law_handed_here", "_law_names_here", "_law_spot", "_law_name"] ["_law_bag_here", "_law_left", "_law_handed_here"] (defScope s_l_refused_right) := ⟨rfl, rfl, rfl, by decide +kernel, rfl, by decide +kernel, by decide +kernel⟩
/-- all but b and d is as it was -/
def Kp2 (b d : Addr) (H H' : Hp) : Prop := ∀ a o, H a = some o → a ≠ b → a ≠ d → H' a = some o
theorem Kp2.same {b d : Addr} {H H' : Hp} (s : Same H H') : Kp2 b d H H' := fun a o e _ _ => s a o e
theorem Kp2.l {b d : Addr} {H H' : Hp} (s : Keep b H H') : Kp2 b d H H' := fun a o e n _ => s a o e n
theorem Kp2.r {b d : Addr} {H H' : Hp} (s : Keep d H H') : Kp2 b d H H' := fun a o e _ n => s a o e n
theorem Kp2.trans {b d : Addr} {H H1 H2 : Hp} (s : Kp2 b d H H1) (t : Kp2 b d H1 H2) : Kp2 b d H H2 := fun a o e n m => t a o (s a o e n m) n m
theorem RatAt.k2 {ca : Nat → Addr} {H H' : Hp} {b d p : Addr} {xs : List V} {kvs : List (Key × V)} {t u : Int} (h : RatAt ca H p t u) (eb : H b = some (.lst xs)) (ed : H d = some (.dK kvs)) (k : Kp2 b d H H') : RatAt ca H' p t u :=
  ⟨h.1, let ⟨dx, e⟩ := h.2; ⟨dx, k _ _ e (ne_of e eb fun z => nomatch z) (ne_of e ed fun z => nomatch z)⟩⟩
/-- a form whose shares lie apart from the dict d -/
def FormBy (ca : Nat → Addr) (H : Hp) (p d : Addr) (N : List Str) (f : Fm) : Prop := ∃ dx sd, H p = some (.ins (ca 3) dx [("_shares", .ref sd)]) ∧ FormSh ca H sd N f ∧ sd ≠ d
theorem FormBy.at_ {ca : Nat → Addr} {H : Hp} {p d : Addr} {N : List Str} {f : Fm} (h : FormBy ca H p d N f) : FormAt ca H p N f := let ⟨dx, sd, e, F, _⟩ := h; ⟨dx, sd, e, F⟩
theorem FormBy.k2 {ca : Nat → Addr} {H H' : Hp} {b d p : Addr} {N : List Str} {f : Fm} {xs : List V} {kvs : List (Key × V)} (h : FormBy ca H p d N f) (eb : H b = some (.lst xs)) (ed : H d = some (.dK kvs)) (k : Kp2 b d H H') : FormBy ca H' p d N f := by
  obtain ⟨dx, sd, e, ⟨ks, e1, t⟩, n⟩ := h
  exact ⟨dx, sd, k _ _ e (ne_of e eb fun z => nomatch z) (ne_of e ed fun z => nomatch z), ⟨ks, k _ _ e1 (ne_of e1 eb fun z => nomatch z) n, t.mono (fun z v ⟨q, a, r, c⟩ => ⟨q, a, r.k2 eb ed k, c⟩) fun _ z => z⟩, n⟩
theorem FormBy.same {ca : Nat → Addr} {H H' : Hp} {d p : Addr} {N : List Str} {f : Fm} (h : FormBy ca H p d N f) (s : Same H H') : FormBy ca H' p d N f := let ⟨dx, sd, e, F, n⟩ := h; ⟨dx, sd, s _ _ e, F.same s, n⟩
theorem PT.keepL {ca : Nat → Addr} {H H' : Hp} {b d : Addr} {M : List Str} {g : Str → Option (Int × Int)} {xs : List V} (h : PT ca H d M g) (eb : H b = some (.lst xs)) (k : Keep b H H') : PT ca H' d M g :=
  let ⟨kvs, e, q, a, c⟩ := h; ⟨kvs, k _ _ e (ne_of e eb fun z => nomatch z), q, fun z v y => let ⟨x, w, n⟩ := a z v y; ⟨x, w, n.keep eb (fun _ _ _ z => nomatch z) k⟩, c⟩
def setP (g : Str → Option (Int × Int)) (y : Str) (x : Option (Int × Int)) : Str → Option (Int × Int) := fun z => if z = y then x else g z
theorem PT.put {ca : Nat → Addr} {H : Hp} {d : Addr} {M : List Str} {g : Str → Option (Int × Int)} {kvs : List (Key × V)} {y : Str} {v : V} {x : Int × Int} (e : H d = some (.dK kvs)) (q : KOk M kvs) (a : ∀ z v, valV kvs (.inr z) = some v → ∃ x, g z = some x ∧ NumV ca H v x.1 x.2)
    (c : ∀ z, valV kvs (.inr z) = none → g z = none) (hy : y ∈ M) (hv : NumV ca H v x.1 x.2) : PT ca (upd H d (.dK (putK kvs (.inr y) v))) d M (setP g y (some x)) := by
  refine ⟨_, upd_same, q.put hy v, fun z w h => ?_, fun z h => ?_⟩
  · rw [valV_put] at h
    unfold setP
    by_cases r : (Sum.inr z : Key) = Sum.inr y
    · rw [if_pos r] at h
      cases h
      rw [if_pos (Sum.inr.inj r)]
      exact ⟨x, rfl, hv.keep e nd keep_upd⟩
    · rw [if_neg r] at h
      rw [if_neg fun e => r (by rw [e])]
      obtain ⟨x, w, n⟩ := a z w h
      exact ⟨x, w, n.keep e nd keep_upd⟩
  · rw [valV_put] at h
    unfold setP
    by_cases r : (Sum.inr z : Key) = Sum.inr y
    · rw [if_pos r] at h
      cases h
    · rw [if_neg r] at h
      rw [if_neg fun e => r (by rw [e])]
      exact c z h
theorem PT.pop {ca : Nat → Addr} {H : Hp} {d : Addr} {M : List Str} {g : Str → Option (Int × Int)} {kvs : List (Key × V)} {y : Str} (e : H d = some (.dK kvs)) (q : KOk M kvs) (a : ∀ z v, valV kvs (.inr z) = some v → ∃ x, g z = some x ∧ NumV ca H v x.1 x.2)
    (c : ∀ z, valV kvs (.inr z) = none → g z = none) : PT ca (upd H d (.dK (dropK kvs (.inr y)))) d M (setP g y none) := by
  refine ⟨_, upd_same, ⟨nd_dropK q.nd, fun kv m => q.mem kv (dropK_mem m)⟩, fun z w h => ?_, fun z h => ?_⟩
  · rw [valV_drop] at h
    unfold setP
    by_cases r : (Sum.inr z : Key) = Sum.inr y
    · rw [if_pos r] at h
      cases h
    · rw [if_neg r] at h
      rw [if_neg fun e => r (by rw [e])]
      obtain ⟨x, w, n⟩ := a z w h
      exact ⟨x, w, n.keep e nd keep_upd⟩
  · rw [valV_drop] at h
    unfold setP
    by_cases r : (Sum.inr z : Key) = Sum.inr y
    · rw [if_pos (Sum.inr.inj r)]
    · rw [if_neg r] at h
      rw [if_neg fun e => r (by rw [e])]
      exact c z h
theorem find_first {ys : List Str} {p : Str → Bool} {S : Nat} {y : Str} (e : ys[S]? = some y) (h : ∀ i z, i < S → ys[i]? = some z → p z = false) (k : p y = true) : ys.find? p = some y := by
  refine find_at (i := S) (List.find?_eq_none.mpr fun z m => ?_) e k
  obtain ⟨i, hi, q⟩ := List.mem_iff_getElem.mp m
  rw [List.getElem_take] at q
  rw [List.length_take] at hi
  rw [h i z (by omega) (by rw [← q]; exact List.getElem?_eq_getElem (by omega))]
  decide
def sp_l_refused_right (_ : PySem.W.Frag) (ca : Nat → Addr) : Sp := fun vs H Q _ => ∃ (b p dh : Addr) (N M : List Str) (f : Fm) (g : Str → Option (Int × Int)), vs = [.ref b, .ref p, .ref dh] ∧ ∃ L : Addr, Bag H L b ∧ FormBy ca H p dh N f ∧ Uni N ∧ N.length ≤ 12 ∧ SzF 90 f ∧ PT ca H dh M g ∧ SzP 90 g ∧ (∀ z ∈ N, z ∈ M) ∧ Uni M ∧
  (∀ z, (f z).1 ≠ 0 → ∃ x, g z = some x ∧ 0 ≤ x.1) ∧ ∀ H' : Hp, Kp2 b dh H H' → Bag H' L b → Q (.bl true) H'
theorem ok_l_refused_right {f : Addr} {fd : FuncData} (F : Fun K "_law_refused_right" "_law_refused_right" s_l_refused_right f fd) (T : Txt K mg ca) (O__law_draw : Own P w K mg base 1 "_law_draw" ["_law_bag_here", "_law_size"] (sp_l_draw K ca)) (O__law_refusal : Own P w K mg base 7 "_law_refusal" ["_law_form", "_law_prices"] (sp_l_refusal K ca)) (O_Ratio_2 : OwnI P w K mg base 1 "Ratio" (ca 2) ["self", "top", "bottom"] [] (sp_Ratio_init K ca)) (O_Ratio_1 : OwnI P w K mg base 1 "Ratio" (ca 2) ["self", "top", "bottom"] [.int 1] (sp_Ratio_init K ca)) (O_Form_names : OwnM P w K mg base 1 (ca 3) "names" ["self"] (sp_Form_names K ca)) : FnOk P w K mg base (L2N.CX P w) 8 f fd ["_law_bag_here", "_law_left", "_law_handed_here"] (sp_l_refused_right K ca) := by
  refine okN F sc_l_refused_right (fun vs H Q E h => ?_) (fun cdv A outer s H vs Q E hr h => ?_)
  · obtain ⟨_, _, _, _, _, _, _, rfl, _⟩ := h
    rfl
  · obtain ⟨b, p, dh, N, M, f, g, rfl, L, hB, hF, hN, n12, zf, hd, zg, sub, hM, pos, k⟩ := h
    refine ⟨_, pss_cons (ps_set (i := 3) sc_l_refused_right.nd rfl (Or.inl rfl) (pe_ownm0 O_Form_names (pv 1) (hr.mono (by decide)) pas0)) (pss_cons (ps_if (pt_cmpR (op_eqD (Room.units (hr.mono (Nat.zero_le _)))) (pv 3) (pe_lst pa_nil) (nomark _)) (pss_one (ps_ret (pe_cmpR op_isN (pe_own O__law_refusal (hr.mono (by decide)) rfl pas0 (pa_cons (pv 1) (pa_cons pe_dnewK pa_nil))) pe_non (nomark _)))) pss_nil) (pss_cons (ps_set (i := 4) sc_l_refused_right.nd rfl (Or.inl rfl) (pe_own O__law_draw (hr.mono (by decide)) rfl pas0 (pa_cons (pv 0) (pa_cons (pe_callB call_len_seq (by rfl) T.b_len (by decide +kernel) (pa_cons (pv 3) pa_nil)) pa_nil)))) (pss_cons (ps_for (passes_of rfl) rfl (pi_list (pe_slice sl_list (pv 3) (po_some (pv 4)) po_none)) (pg_name (i := 5) sc_l_refused_right.nd rfl (Or.inl rfl)) (pss_one (ps_if (pt_mid (PW.pt (pw_or (pt_cmpR op_eq (pv 5) (pe_ix ix_list (pv 3) (pv 4) (fun _ _ => rfl)) (nomark _)) (pw_or1 (pt_cmpR op_eq (pe_own O__law_draw (hr.mono (by decide)) rfl pas0 (pa_cons (pv 0) (pa_cons pe_int pa_nil))) pe_int (nomark _)))))) (pss_one (ps_dput (hu_of (hr.mono (Nat.zero_le _))) (pv 2) (pv 5) (pe_owni O_Ratio_2 (hr.mono (by decide)) rfl pas0 (pa_cons (pe_un un_neg pe_int) (pa_cons (pe_op op_add pe_int (pe_own O__law_draw (hr.mono (by decide)) rfl pas0 (pa_cons (pv 0) (pa_cons pe_int pa_nil)))) pa_nil))) rfl)) pss_nil))) (pss_cons (ps_if (pt_cmpR (op_neD (Room.units (hr.mono (Nat.zero_le _)))) (pe_own O__law_refusal (hr.mono (by decide)) rfl pas0 (pa_cons (pv 1) (pa_cons (pv 2) pa_nil))) (pe_tup (pa_cons pe_str (pa_cons (pe_ix ix_list (pv 3) (pv 4) (fun _ _ => rfl)) (pa_cons pe_bl pa_nil)))) (nomark _)) (pss_one (ps_ret pe_bl)) pss_nil) (pss_cons (ps_set (i := 4) sc_l_refused_right.nd rfl (Or.inl rfl) (pe_own O__law_draw (hr.mono (by decide)) rfl pas0 (pa_cons (pv 0) (pa_cons (pe_callB call_len_seq (by rfl) T.b_len (by decide +kernel) (pa_cons (pv 3) pa_nil)) pa_nil)))) (pss_cons (ps_for (passes_of rfl) rfl (pi_list (pe_slice sl_list (pv 3) (po_some (pv 4)) po_none)) (pg_name (i := 5) sc_l_refused_right.nd rfl (Or.inl rfl)) (pss_one (ps_if (pt_mid (PW.pt (pw_or (pt_cmpR op_eq (pv 5) (pe_ix ix_list (pv 3) (pv 4) (fun _ _ => rfl)) (nomark _)) (pw_or1 (pt_cmpR op_eq (pe_own O__law_draw (hr.mono (by decide)) rfl pas0 (pa_cons (pv 0) (pa_cons pe_int pa_nil))) pe_int (nomark _)))))) (pss_one (ps_expr (pe_dpop1 (pv 2) (pv 5) ⟨rfl, rfl, rfl, rfl⟩))) pss_nil))) (pss_one (ps_ret (pe_cmpR (op_eqD (Room.units (hr.mono (Nat.zero_le _)))) (pe_own O__law_refusal (hr.mono (by decide)) rfl pas0 (pa_cons (pv 1) (pa_cons (pv 2) pa_nil))) (pe_tup (pa_cons pe_str (pa_cons (pe_ix ix_list (pv 3) (pv 4) (fun _ _ => rfl)) (pa_cons pe_bl pa_nil)))) (nomark _)))))))))), ?_⟩
    obtain ⟨dx, sd, hp, _, _⟩ := id hF
    fail "rd"
    refine ⟨p, N, f, rfl, hF.at_, hN, fun ys l H1 ny so hm h60 nl s1 hl => ?_⟩
    have hd1 := hd.same s1
    have hF1 := hF.same s1
    have B1 := hB.same s1
    have lets : ∀ z ∈ ys, NameOk z := fun z m => hN.ok z (Classical.byContradiction fun n => (hm z).mp m (by rw [hF.at_.off n]))
    fail "rd"
    intro l0 n_l0
    generalize g_H2 : upd _ l0 _ = H2
    obtain ⟨s_H2, e_l0⟩ := gen_new n_l0 g_H2
    clear g_H2
    refine eq_nilS (s_H2 _ _ hl) e_l0 (fun z m => (lets z m).ls) ?_
    fail "rd"
    refine iteD (fun c => ?_) (fun c => ?_)
    · fail "rd"
      refine fun d0 n0 => ?_
      generalize g0 : upd H2 d0 (.dK []) = H3
      obtain ⟨s3, e0⟩ := gen_new n0 g0
      clear g0
      have s13 := s_H2.trans s3
      refine ⟨p, d0, N, [], f, fun _ => none, rfl, (hF1.same s13).at_, hN, n12, zf, ⟨[], e0, .nil, fun z v e => (by rw [valV_nil] at e; cases e), fun _ _ => rfl⟩, (fun z x e => nomatch e), fun r H4 s4 hr => ?_⟩
      have hr := hr ys ny so hm
      rw [c] at hr
      obtain rfl : r = .non := hr
      fail "rd"
      exact k H4 (.same (s1.trans (s13.trans s4))) (B1.same (s13.trans s4))
    · have hl2 := s_H2 _ _ hl
      have B2 := B1.same s_H2
      have s02 := s1.trans s_H2
      have hd2 := hd1.same s_H2
      have hF2 := hF1.same s_H2
      have lb : l ≠ b := hB.ne nl
      have ldh : l ≠ dh := by
        obtain ⟨kv, e, _⟩ := hd
        exact ne_of_none e nl |>.symm
      have pos1 : 0 < ys.length := List.length_pos_iff.mpr c
      clear e_l0 n_l0 s_H2
      fail "rd"
      refine ⟨L, B2, by rw [List.length_map]; omega, (show (((ys.map V.str).length : Nat) : Int).natAbs.log2 < 9000 by rw [List.length_map]; exact lg164 (Nat.lt_of_le_of_lt (show ((ys.length : Nat) : Int).natAbs ≤ 60 by omega) (by decide))), fun sp0 H3 p0 p1 k3 B3 => ?_⟩
      rw [List.length_map] at p1
      obtain ⟨S, rfl⟩ := Int.eq_ofNat_of_zero_le p0
      have hS : S < ys.length := by omega
      obtain ⟨yS, hyS⟩ : ∃ y, ys[S]? = some y := ⟨_, List.getElem?_eq_getElem hS⟩
      obtain ⟨xb, hxb⟩ := B2.lst
      have hl3 := k3 _ _ hl2 lb
      have hd3 := hd2.keepL hxb k3
      obtain ⟨kv2, ekv2, _⟩ := id hd2
      have hF3 : FormBy ca H3 p dh N f := hF2.k2 hxb ekv2 (.l k3)
      have q03 : Kp2 b dh H H3 := (Kp2.same s02).trans (.l k3)
      fail "rd"
      refine ⟨l, _, rfl, SqL.of hl3, ?_⟩
      rw [cut_from, ← List.map_drop]
      intro l2 n_l2
      generalize g_H4 : upd _ l2 _ = H4
      obtain ⟨s_H4, e_l2⟩ := gen_new n_l2 g_H4
      clear g_H4
      have hl4 := s_H4 _ _ hl3
      have hd4 := hd3.same s_H4
      have hF4 := hF3.same s_H4
      have B4 := B3.same s_H4
      have q04 := q03.trans (.same s_H4)
      have l2b : l2 ≠ b := B3.ne n_l2
      have l2dh : l2 ≠ dh := by
        obtain ⟨kv, e, _⟩ := hd3
        exact (ne_of_none e n_l2).symm
      have itm : ∀ {j : Nat} {x : V}, ((ys.drop S).map V.str)[j]? = some x → ∃ y, ys[S + j]? = some y ∧ V.str y = x := fun {j x} h => by
        rw [List.getElem?_map, List.getElem?_drop] at h
        exact Option.map_eq_some_iff.mp h
      have sc : ∀ {y : Str} {i : Nat}, ys[i]? = some y → y ∈ ys := fun h => List.mem_of_getElem? h
      have inM : ∀ y ∈ ys, y ∈ M := fun y m => sub y (Classical.byContradiction fun n => (hm y).mp m (by rw [hF.at_.off n]))
      have inj : ∀ {i j : Nat} {y : Str}, ys[i]? = some y → ys[j]? = some y → i = j := fun {i j y} h1 h2 => nd_ix ny h1 h2
      have len2 : ((ys.drop S).map V.str).length = ys.length - S := by rw [List.length_map, List.length_drop]
      refine ⟨_, rfl, ⟨_, SqL.of e_l2⟩, for_list (D := ⟨_, _, fun _ _ => True, fun _ _ => True⟩) (K := K) (a := l2) (xs := (ys.drop S).map V.str) (fun j σ' H' => ∃ v, σ' = [some (.ref b), some (.ref p), some (.ref dh), some (.ref l), some (.int S), v] ∧ Bag H' L b ∧ Kp2 b dh H4 H' ∧ ∃ g', PT ca H' dh M g' ∧ SzP 90 g' ∧
        (∀ i y, i < S → ys[i]? = some y → g' y = g y) ∧ (∀ y ∈ ys, g' y ≠ none) ∧ (0 < j → negB g' yS = true)) ⟨none, rfl, B4, .same (Same.refl _), g, hd4, zg, fun _ _ _ _ => rfl, fun y m e => ?_, fun z => absurd z (Nat.lt_irrefl _)⟩ (fun j σ' H' _ ⟨_, _, _, q, _⟩ => SqL.of (q _ _ e_l2 l2b l2dh)) ?_ ?_⟩
      · obtain ⟨x, gx, _⟩ := pos y ((hm y).mp m)
        rw [gx] at e
        cases e
      · rintro j x σ' H5 hj ⟨v, rfl, B5, q5, g', hd5, zg', pre, all, neg⟩
        obtain ⟨y, hy, rfl⟩ := itm hj
        have my := sc hy
        have hl5 := q5 _ _ hl4 lb ldh
        obtain ⟨xb5, hxb5⟩ := B5.lst
        fail "rd"
        refine ⟨fun c H6 => Kp2 b dh H4 H6 ∧ Bag H6 L b ∧ PT ca H6 dh M g' ∧ (c = false → y ≠ yS), ?_, ?_⟩
        · fail "rd"
          refine ⟨l, _, _, _, rfl, rfl, SqL.of hl5, atI_nat (v := .str yS) (by rw [List.getElem?_map, hyS]; rfl), ?_⟩
          fail "rd"
          refine iteD (fun c => ⟨q5, B5, hd5, fun z => nomatch z⟩) (fun c => ?_)
          fail "rd"
          refine ⟨L, B5, by decide, by decide, fun c2 H6 _ _ k6 B6 => ?_⟩
          fail "rd"
          exact ⟨q5.trans (.l k6), B6, hd5.keepL hxb5 k6, fun _ e => c (by rw [e])⟩
        rintro c H6 ⟨q6, B6, hd6, hc⟩
        cases c
        · refine iteBF rfl ?_
          refine ⟨_, rfl, B6, q6, g', hd6, zg', pre, all, fun _ => ?_⟩
          cases j with
          | zero =>
            rw [Nat.add_zero, hyS] at hy
            cases hy
            exact absurd rfl (hc rfl)
          | succ j => exact neg (Nat.succ_pos j)
        · refine iteBT rfl ?_
          fail "rd"
          refine ⟨L, B6, by decide, by decide, fun e H7 e0 e1 k7 B7 => ?_⟩
          obtain ⟨xb6, hxb6⟩ := B6.lst
          obtain ⟨kv, ekv, kok, ha, hn⟩ := hd6.keepL hxb6 k7
          have ne : (1 : Int) + e ≠ 0 := by omega
          have zs : Sz 4 (1 + e) := by show (1 + e).natAbs < 2 ^ 4; omega
          fail "rd"
          intro r d_r n_r nd_r ne_r
          refine ⟨r, d_r, _, _, rfl, upd_same, zs.lg, fun z => absurd z ne, fun _ H8 k_r e_r => ⟨rfl, ?_⟩⟩
          have s_H8 := same_made n_r nd_r ne_r k_r
          have hr : RatAt ca H8 r (nrm (-1) (1 + e)).1 (nrm (-1) (1 + e)).2 := .of ne e_r
          have q8 : Kp2 b dh H4 H8 := (q6.trans (.l k7)).trans (.same s_H8)
          have B8 := B7.same s_H8
          have ekv := s_H8 _ _ ekv
          have ha : ∀ z v, valV kv (.inr z) = some v → ∃ x, g' z = some x ∧ NumV ca H8 v x.1 x.2 := fun z v q => let ⟨x, w, n⟩ := ha z v q; ⟨x, w, n.same s_H8⟩
          fail "rd"
          refine ⟨dh, _, rfl, DPut.k (k := Sum.inr y) ekv (kok.line hM), ?_⟩
          have P9 := PT.put (x := nrm (-1) (1 + e)) ekv kok ha hn (inM y my) (.inr ⟨r, rfl, hr⟩)
          generalize gh : upd H8 dh (.dK (putK kv (Sum.inr y) (.ref r))) = H9 at P9 ⊢
          obtain ⟨k_H9, e_H9⟩ := gen_put gh
          clear gh
          obtain ⟨bd1, bd2⟩ := B8.ned ekv
          refine ⟨_, rfl, B8.keep k_H9 bd1 bd2, q8.trans (.r k_H9), _, P9, fun z x q => ?_, fun i z hi hz => ?_, fun z m q => ?_, fun _ => ?_⟩
          · unfold setP at q
            by_cases c : z = y
            · rw [if_pos c] at q
              cases q
              exact ⟨(Sz.one.neg.le (nrm_le1 ne)).mono, (zs.le (nrm_le2 ne)).mono⟩
            · rw [if_neg c] at q
              exact zg' z x q
          · unfold setP
            rw [if_neg fun c => by
              subst c
              have := inj hz hy
              omega]
            exact pre i z hi hz
          · unfold setP at q
            by_cases c : z = y
            · rw [if_pos c] at q
              cases q
            · rw [if_neg c] at q
              exact all z m q
          · unfold negB setP
            by_cases c : yS = y
            · rw [if_pos c]
              exact decide_eq_true ((nrm_lt (by omega)).mpr (by decide))
            · rw [if_neg c]
              cases j with
              | zero =>
                rw [Nat.add_zero, hyS] at hy
                cases hy
                exact absurd rfl c
              | succ j =>
                have := neg (Nat.succ_pos j)
                unfold negB at this
                exact this
      · rintro σ' H5 ⟨v, rfl, B5, q5, g', hd5, zg', pre, all, neg⟩
        have q05 := q04.trans q5
        obtain ⟨kvF, ekvF, _⟩ := id hd4
        obtain ⟨xbF, hxbF⟩ := B4.lst
        have hF5 := hF4.k2 hxbF ekvF q5
        have hl5 := q5 _ _ hl4 lb ldh
        have neg1 : negB g' yS = true := neg (by rw [len2]; omega)
        have ms : missP g' ys = none := List.find?_eq_none.mpr fun z m => by
          have := all z m
          cases e : g' z with
          | none => exact absurd e this
          | some x => simp
        have ng : negP g' ys = some yS := find_first hyS (fun i z hi hz => by
          obtain ⟨x, gx, x0⟩ := pos z ((hm z).mp (sc hz))
          unfold negB
          rw [pre i z hi hz, gx]
          exact decide_eq_false (by omega)) neg1
        have okS := lets yS (sc hyS)
        have fS : ∀ w : Str, PyData.strOk w = true → ([V.str w, .str yS, .bl true] : List V).all fdB = true := fun w hw => by
          have := (strs_lay (zs := [yS]) (fun y m => (List.mem_singleton.mp m) ▸ okS.ls)).1
          have : PyData.strOk yS = true := by simpa [PyData.canLayAll0, PyData.canLay0] using this
          simp [fdB, hw, this]
        fail "rd"
        refine ⟨p, dh, N, M, f, g', rfl, hF5.at_, hN, n12, zf, hd5, zg', fun r H6 s6 hr => ?_⟩
        have hr := hr ys ny so hm
        unfold refV at hr
        rw [ms, ng] at hr
        obtain ⟨t, rfl, et⟩ := hr
        have hl6 := s6 _ _ hl5
        fail "rd"
        refine ⟨l, _, _, _, rfl, rfl, SqL.of hl6, atI_nat (v := .str yS) (by rw [List.getElem?_map, hyS]; rfl), ?_⟩
        fail "rd"
        intro t2 n_t2
        generalize g_H7 : upd _ t2 _ = H7
        obtain ⟨s_H7, e_t2⟩ := gen_new n_t2 g_H7
        clear g_H7
        refine neTF (s_H7 _ _ et) e_t2 (fS _ (by decide +kernel)) ?_
        refine ⟨_, rfl, iteBF rfl ?_⟩
        have s57 := s6.trans s_H7
        have hl7 := s57 _ _ hl5
        have hd7 := hd5.same s57
        have hF7 := hF5.same s57
        have B7 := B5.same s57
        have q07 := q05.trans (.same s57)
        clear et e_t2 n_t2 s_H7 s6 hl6
        fail "rd"
        refine ⟨L, B7, by rw [List.length_map]; omega, (show (((ys.map V.str).length : Nat) : Int).natAbs.log2 < 9000 by rw [List.length_map]; exact lg164 (Nat.lt_of_le_of_lt (show ((ys.length : Nat) : Int).natAbs ≤ 60 by omega) (by decide))), fun sp1 H8 r0 r1 k8 B8 => ?_⟩
        rw [List.length_map] at r1
        obtain ⟨S', rfl⟩ := Int.eq_ofNat_of_zero_le r0
        have hS' : S' < ys.length := by omega
        obtain ⟨yT, hyT⟩ : ∃ y, ys[S']? = some y := ⟨_, List.getElem?_eq_getElem hS'⟩
        obtain ⟨xb7, hxb7⟩ := B7.lst
        obtain ⟨kv7, ekv7, _⟩ := id hd7
        have hl8 := k8 _ _ hl7 lb
        have hd8 := hd7.keepL hxb7 k8
        have hF8 : FormBy ca H8 p dh N f := hF7.k2 hxb7 ekv7 (.l k8)
        have q08 := q07.trans (.l k8)
        fail "rd"
        refine ⟨l, _, rfl, SqL.of hl8, ?_⟩
        rw [cut_from, ← List.map_drop]
        intro l3 n_l3
        generalize g_H9 : upd _ l3 _ = H9
        obtain ⟨s_H9, e_l3⟩ := gen_new n_l3 g_H9
        clear g_H9
        have hl9 := s_H9 _ _ hl8
        have hd9 := hd8.same s_H9
        have hF9 := hF8.same s_H9
        have B9 := B8.same s_H9
        have q09 := q08.trans (.same s_H9)
        have l3b : l3 ≠ b := B8.ne n_l3
        have l3dh : l3 ≠ dh := by
          obtain ⟨kv, e, _⟩ := hd8
          exact (ne_of_none e n_l3).symm
        have itm2 : ∀ {j : Nat} {x : V}, ((ys.drop S').map V.str)[j]? = some x → ∃ y, ys[S' + j]? = some y ∧ V.str y = x := fun {j x} h => by
          rw [List.getElem?_map, List.getElem?_drop] at h
          exact Option.map_eq_some_iff.mp h
        have len3 : ((ys.drop S').map V.str).length = ys.length - S' := by rw [List.length_map, List.length_drop]
        refine ⟨_, rfl, ⟨_, SqL.of e_l3⟩, for_list (D := ⟨_, _, fun _ _ => True, fun _ _ => True⟩) (K := K) (a := l3) (xs := (ys.drop S').map V.str) (fun j σ' H' => ∃ v, σ' = [some (.ref b), some (.ref p), some (.ref dh), some (.ref l), some (.int S'), v] ∧ Bag H' L b ∧ Kp2 b dh H9 H' ∧ ∃ h', PT ca H' dh M h' ∧ SzP 90 h' ∧
          (∀ i y, ys[i]? = some y → (i < S' ∨ S' + j ≤ i) → h' y ≠ none) ∧ (0 < j → h' yT = none)) ⟨_, rfl, B9, .same (Same.refl _), g', hd9, zg', fun i y hy _ => all y (sc hy), fun z => absurd z (Nat.lt_irrefl _)⟩ (fun j σ' H' _ ⟨_, _, _, q, _⟩ => SqL.of (q _ _ e_l3 l3b l3dh)) ?_ ?_⟩
        · rintro j x σ' H10 hj ⟨v, rfl, B10, q10, h', hd10, zh', pres, gone⟩
          obtain ⟨y, hy, rfl⟩ := itm2 hj
          have hl10 := q10 _ _ hl9 lb ldh
          obtain ⟨xb10, hxb10⟩ := B10.lst
          fail "rd"
          refine ⟨fun c H6 => Kp2 b dh H9 H6 ∧ Bag H6 L b ∧ PT ca H6 dh M h' ∧ (c = false → y ≠ yT), ?_, ?_⟩
          · fail "rd"
            refine ⟨l, _, _, _, rfl, rfl, SqL.of hl10, atI_nat (v := .str yT) (by rw [List.getElem?_map, hyT]; rfl), ?_⟩
            fail "rd"
            refine iteD (fun c => ⟨q10, B10, hd10, fun z => nomatch z⟩) (fun c => ?_)
            fail "rd"
            refine ⟨L, B10, by decide, by decide, fun c2 H6 _ _ k6 B6 => ?_⟩
            fail "rd"
            exact ⟨q10.trans (.l k6), B6, hd10.keepL hxb10 k6, fun _ e => c (by rw [e])⟩
          rintro c H6 ⟨q6, B6, hd6, hc⟩
          cases c
          · refine iteBF rfl ?_
            refine ⟨_, rfl, B6, q6, h', hd6, zh', fun i z hz hi => pres i z hz (by omega), fun _ => ?_⟩
            cases j with
            | zero =>
              rw [Nat.add_zero, hyT] at hy
              cases hy
              exact absurd rfl (hc rfl)
            | succ j => exact gone (Nat.succ_pos j)
          · refine iteBT rfl ?_
            obtain ⟨kv, ekv, kok, ha, hn⟩ := hd6
            obtain ⟨w, hw⟩ : ∃ w, valV kv (.inr y) = some w := by
              cases e : valV kv (.inr y) with
              | some w => exact ⟨w, rfl⟩
              | none => exact absurd (hn y e) (pres _ y hy (.inr (Nat.le_refl _)))
            have P7 := PT.pop (H := H6) (y := y) ekv kok ha hn
            fail "rd"
            refine ⟨.inl ⟨kv, .inl ekv⟩, ?_⟩
            fail "rd"
            refine ⟨kv, .inr y, w, ekv, rfl, hw, ?_⟩
            generalize gh : upd H6 dh (.dK (dropK kv (.inr y))) = H7 at P7 ⊢
            obtain ⟨k_H7, e_H7⟩ := gen_put gh
            clear gh
            obtain ⟨bd1, bd2⟩ := B6.ned ekv
            refine ⟨_, rfl, B6.keep k_H7 bd1 bd2, q6.trans (.r k_H7), _, P7, fun z x q => ?_, fun i z hz hi => ?_, fun _ => ?_⟩
            · unfold setP at q
              by_cases c : z = y
              · rw [if_pos c] at q
                cases q
              · rw [if_neg c] at q
                exact zh' z x q
            · unfold setP
              rw [if_neg fun c => by
                subst c
                have := inj hz hy
                omega]
              exact pres i z hz (by omega)
            · unfold setP
              by_cases c : yT = y
              · rw [if_pos c]
              · rw [if_neg c]
                cases j with
                | zero =>
                  rw [Nat.add_zero, hyT] at hy
                  cases hy
                  exact absurd rfl c
                | succ j => exact gone (Nat.succ_pos j)
        · rintro σ' H10 ⟨v, rfl, B10, q10, h', hd10, zh', pres, gone⟩
          have goneT : h' yT = none := gone (by rw [len3]; omega)
          obtain ⟨kvG, ekvG, _⟩ := id hd9
          obtain ⟨xbG, hxbG⟩ := B9.lst
          have hF10 := hF9.k2 hxbG ekvG q10
          have hl10 := q10 _ _ hl9 lb ldh
          have ms2 : missP h' ys = some yT := find_first hyT (fun i z hi hz => by
            have := pres i z hz (.inl hi)
            cases e : h' z with
            | none => exact absurd e this
            | some x => rfl) (by rw [goneT]; rfl)
          have okT := lets yT (sc hyT)
          have fT : ∀ w : Str, PyData.strOk w = true → ([V.str w, .str yT, .bl true] : List V).all fdB = true := fun w hw => by
            have := (strs_lay (zs := [yT]) (fun y m => (List.mem_singleton.mp m) ▸ okT.ls)).1
            have : PyData.strOk yT = true := by simpa [PyData.canLayAll0, PyData.canLay0] using this
            simp [fdB, hw, this]
          fail "rd"
          refine ⟨p, dh, N, M, f, h', rfl, hF10.at_, hN, n12, zf, hd10, zh', fun r H11 s11 hr => ?_⟩
          have hr := hr ys ny so hm
          unfold refV at hr
          rw [ms2] at hr
          obtain ⟨t, rfl, et⟩ := hr
          have hl11 := s11 _ _ hl10
          fail "rd"
          refine ⟨l, _, _, _, rfl, rfl, SqL.of hl11, atI_nat (v := .str yT) (by rw [List.getElem?_map, hyT]; rfl), ?_⟩
          fail "rd"
          intro t3 n_t3
          generalize g_H12 : upd _ t3 _ = H12
          obtain ⟨s_H12, e_t3⟩ := gen_new n_t3 g_H12
          clear g_H12
          refine eqTF (s_H12 _ _ et) e_t3 (fT _ (by decide +kernel)) ?_
          have s12 := s11.trans s_H12
          exact k H12 ((q09.trans q10).trans (.same s12)) (B10.same s12)

abbrev s_l_mixed : Stmt := top 22
theorem sc_l_mixed : FnScope ["_law_bag_here", "_law_items", "_law_left", "_law_found", "_law_k"] ["_law_bag_here", "_law_items"] (defScope s_l_mixed) := ⟨rfl, rfl, rfl, by decide +kernel, rfl, by decide +kernel, by decide +kernel⟩
def sp_l_mixed (K : PySem.W.Frag) (_ : Nat → Addr) : Sp := fun vs H Q _ => ∃ (b a : Addr) (xs : List V), vs = [.ref b, .ref a] ∧ ∃ L : Addr, Bag H L b ∧ H a = some (.lst xs) ∧ a ≠ b ∧ xs.length ≤ 1000 ∧
  ∀ (ys : List V) (p : Addr) (H' : Hp), ys.Perm xs → H p = none → Keep b H H' → Bag H' L b → H' p = some (.lst ys) → Q (.ref p) H'
theorem ok_l_mixed {f : Addr} {fd : FuncData} (F : Fun K "_law_mixed" "_law_mixed" s_l_mixed f fd) (T : Txt K mg ca) (O__law_draw : Own P w K mg base 1 "_law_draw" ["_law_bag_here", "_law_size"] (sp_l_draw K ca)) : FnOk P w K mg base (L2N.CX P w) 2 f fd ["_law_bag_here", "_law_items"] (sp_l_mixed K ca) := by
  refine okN F sc_l_mixed (fun vs H Q E h => ?_) (fun cdv A outer s H vs Q E hr h => ?_)
  · obtain ⟨_, _, _, rfl, _⟩ := h
    rfl
  · obtain ⟨b, a, xs, rfl, L, hB, ha, hne, hl, k⟩ := h
    refine ⟨_, pss_cons (ps_set (i := 2) sc_l_mixed.nd rfl (Or.inl rfl) (pe_callTy call_list_of (by rfl) T.b_list (by decide +kernel) (pa_cons (pv 1) pa_nil))) (pss_cons (ps_set (i := 3) sc_l_mixed.nd rfl (Or.inl rfl) (pe_lst pa_nil)) (pss_cons (ps_for (passes_of rfl) rfl (pi_range1 rfl T.b_range (pa_cons (pe_callB call_len_seq (by rfl) T.b_len (by decide +kernel) (pa_cons (pv 1) pa_nil)) pa_nil)) (pg_name (i := 4) sc_l_mixed.nd rfl (Or.inl rfl)) (pss_one (ps_expr (pe_bm PySem.F.plainAttrs_list PySem.F.slot_list_append PySem.F.type_list_append mt_append (pv 3) (pa_cons (pe_bm PySem.F.plainAttrs_list PySem.F.slot_list_pop PySem.F.type_list_pop mt_popAt (pv 2) (pa_cons (pe_own O__law_draw (hr.mono (by decide)) rfl pas0 (pa_cons (pv 0) (pa_cons (pe_callB call_len_seq (by rfl) T.b_len (by decide +kernel) (pa_cons (pv 2) pa_nil)) pa_nil))) pa_nil)) pa_nil))))) (pss_one (ps_ret (pv 3))))), ?_⟩
    fail "rd"
    intro l n_l
    generalize g_H1 : upd _ l _ = H1
    obtain ⟨s_H1, e_l⟩ := gen_new n_l g_H1
    clear g_H1
    fail "rd"
    intro f n_f
    generalize g_H2 : upd _ f _ = H2
    obtain ⟨s_H2, e_f⟩ := gen_new n_f g_H2
    clear g_H2
    fail "rd"
    have hz : (xs.length : Int) < 2 ^ 62 := by
      have e : (2 : Int) ^ 62 = 4611686018427387904 := by decide
      omega
    have B2 := (hB.same s_H1).same s_H2
    have lb := (hB.same s_H1).ne n_f
    have lc' : l ≠ b := hB.ne n_l
    have lf := ne_of_none e_l n_f
    have lL : l ≠ L := hB.neL n_l
    have fL : f ≠ L := (hB.same s_H1).neL n_f
    refine ⟨by omega, hz, for_range (n := xs.length) (fun i σ' H' => ∃ (us ys : List V) (v : Option V), σ' = [some (.ref b), some (.ref a), some (.ref l), some (.ref f), v] ∧ Keep b H H' ∧ Bag H' L b ∧ H' l = some (.lst us) ∧ H' f = some (.lst ys) ∧ us.length + i = xs.length ∧ ys.length = i ∧ (ys ++ us).Perm xs)
      ⟨xs, [], none, rfl, .of (s_H1.trans s_H2), B2, s_H2 _ _ e_l, e_f, rfl, rfl, .refl _⟩ ?_ ?_⟩
    · rintro i σ' H' hi ⟨us, ys, v, rfl, kp, B, hl, hf, u1, u2, hperm⟩
      fail "rd"
      have hu : (0 : Int) < (us.length : Nat) := by omega
      have h64 : (us.length : Int).natAbs < 2 ^ 164 := Nat.lt_of_le_of_lt (show (us.length : Int).natAbs ≤ 1000 by omega) (by decide)
      refine ⟨L, B, hu, lg164 h64, fun d H3 d0 d1 k3 B3 => ?_⟩
      have hl3 := k3 _ _ hl lc'
      have hf3 := k3 _ _ hf lb
      obtain ⟨D, rfl⟩ := Int.eq_ofNat_of_zero_le d0
      have hD : D < us.length := by omega
      fail "rd"
      have hq : seqIndex? ((D : Nat) : Int) us.length = some D := by
        unfold seqIndex?
        have e1 : ¬ ((D : Int) < 0) := by omega
        simp only [e1, if_false]
        have e2 : (decide ((0 : Int) ≤ (D : Int)) && decide ((D : Int) < (us.length : Int))) = true := by simp; exact hD
        rw [if_pos e2]
        rfl
      have e63 : (2 : Int) ^ 63 = 9223372036854775808 := by decide
      refine ⟨l, us, _, D, us[D], rfl, rfl, hl3, by omega, by omega, hq, by simp [hD], ?_⟩
      generalize g_H4 : upd _ l _ = H4
      obtain ⟨k_H4, e_H4⟩ := gen_put g_H4
      clear g_H4
      have hf4 := k_H4 _ _ hf3 lf.symm
      fail "rd"
      refine ⟨f, ys, _, rfl, rfl, hf4, Nat.lt_of_lt_of_le (show ys.length < 2000 by omega) (line_le (by decide)), ?_⟩
      generalize g_H5 : upd _ f _ = H5
      obtain ⟨k_H5, e_H5⟩ := gen_put g_H5
      clear g_H5
      refine ⟨_, _, _, rfl, fun a o e n => ?_, (B3.keep k_H4 lc' lL).keep k_H5 lb fL, k_H5 _ _ e_H4 lf, e_H5, ?_, ?_, ?_⟩
      · exact k_H5 _ _ (k_H4 _ _ (k3 _ _ (kp _ _ e n) n) (ne_of_none e n_l)) (ne_of_none e (s_H1.free n_f))
      · rw [List.length_eraseIdx_of_lt hD]
        omega
      · rw [List.length_append, u2]
        rfl
      · refine .trans ?_ hperm
        rw [List.append_assoc]
        exact (List.perm_append_left_iff ys).mpr (erase_perm hD)
    · rintro σ' H' ⟨us, ys, v, rfl, kp, B, hl, hf, u1, u2, hperm⟩
      fail "rd"
      have e : us = [] := List.eq_nil_of_length_eq_zero (by omega)
      subst e
      rw [List.append_nil] at hperm
      exact k ys f H' hperm (s_H1.free n_f) kp B hf

abbrev s_Form_of : Stmt := inClass (top 16) 1
theorem sc_Form_of : FnScope ["cls", "name"] ["cls", "name"] (defScope s_Form_of) := ⟨rfl, rfl, rfl, by decide +kernel, rfl, by decide +kernel, by decide +kernel⟩
def sp_Form_of (_ : PySem.W.Frag) (ca : Nat → Addr) : Sp := fun vs H Q E => ∃ z : Str, vs = [.ref (ca 3), .str z] ∧ ((∃ N : List Str, z ∈ N ∧ Uni N ∧ ∀ (r : Addr) (H' : Hp), H r = none → Same H H' → FormAt ca H' r N (oneF z) → Q (.ref r) H') ∨
  (nmB z = false ∧ z.length ≤ 1000 ∧ ∀ (e : Addr) (H' : Hp), Same H H' → H' e = some (.xd [("name", .str z)]) → E (.ref (ca 4)) (some e) H'))
theorem ok_Form_of {f : Addr} {fd : FuncData} (F : Fun K "of" "Form.of" s_Form_of f fd) (T : Txt K mg ca) (O_Form_1 : OwnI P w K mg base 5 "Form" (ca 3) ["self", "shares"] [] (sp_Form_init K ca)) (O_Form_0 : OwnI P w K mg base 5 "Form" (ca 3) ["self", "shares"] [.non] (sp_Form_init K ca)) : FnOk P w K mg base (L2N.CX P w) 7 f fd ["cls", "name"] (sp_Form_of K ca) := by
  refine okN F sc_Form_of (fun vs H Q E h => ?_) (fun cdv A outer s H vs Q E hr h => ?_)
  · obtain ⟨_, rfl, _⟩ := h
    rfl
  · obtain ⟨z, rfl, h⟩ := h
    refine ⟨_, pss_one (ps_ret (pe_ownl (i := 0) O_Form_1 (hr.mono (by decide)) rfl (.inl rfl) (pasE (L2N.takes_of rfl rfl rfl rfl)) (pa_cons (pe_disp (pps_cons (pv 1) pe_int pps_nil) (by rfl) (by rfl) (fun z => by cases z) (by decide)) pa_nil))), ?_⟩
    fail "rd"
    intro d nd
    fail "rd"
    refine ⟨upd_same, [(.inr z, .int 1)], rfl, Nat.le_of_ble_eq_true rfl, ?_⟩
    have s1 : Same H (upd (upd H d (.dK [])) d (.dK (mergeK [] [(.inr z, .int 1)]))) := (same_put nd (same_upd nd))
    rcases h with ⟨N, hz, hN, k⟩ | ⟨hb, hl, kE⟩
    · refine form_made (f := oneF z) hN (.inr ⟨d, _, rfl, upd_same, ?_⟩) fun r H' nr sm F => k r H' (s1.free nr) (s1.trans sm) F
      refine Tab.set (R := fun _ _ => False) (Z := fun _ => True) (.nil fun _ => True.intro) hz ?_ (fun _ _ _ h => h.elim) fun y c _ => oneF_ne c
      show NumV ca _ _ (oneF z z).1 (oneF z z).2
      rw [oneF_self]
      exact .inl ⟨rfl, rfl⟩
    · intro p dx n nd' ne
      refine form_bad n nd' ne ⟨d, [(.inr z, .int 1)], [z], z, rfl, upd_same, ⟨by simp, fun kv m => ?_⟩, fun y m => ?_, by simp, fun y m => ?_, ⟨by simp, hb, fun y m _ => ?_⟩, fun e H' s' q => kE e H' (s1.trans s') q⟩
      · rw [List.mem_singleton.mp m]
        exact ⟨z, List.mem_singleton.mpr rfl, rfl⟩
      · rw [List.mem_singleton.mp m]
        simp
      · rw [List.mem_singleton.mp m]
        exact hl
      · rw [List.mem_singleton.mp m]
        exact List.lt_irrefl _

abbrev s_l_bad_names : Stmt := top 34
theorem sc_l_bad_names : FnScope ["_law_bag_here", "_law_names_here", "_law_pool", "_law_odd", "_law_shares_here", "_law_name", "_law_told", "e"] ["_law_bag_here", "_law_names_here"] (defScope s_l_bad_names) := ⟨rfl, rfl, rfl, by decide +kernel, rfl, by decide +kernel, by decide +kernel⟩
def sp_l_bad_names (_ : PySem.W.Frag) (ca : Nat → Addr) : Sp := fun vs H Q _ => ∃ (b ln : Addr) (N : List Str), vs = [.ref b, .ref ln] ∧ ∃ L : Addr, Bag H L b ∧ H ln = some (.lst (N.map V.str)) ∧ ln ≠ b ∧ Uni N ∧ N.length ≤ 12 ∧ ∀ H' : Hp, Q (.bl true) H'
theorem perm_strs {ys : List V} {P : List Str} (h : ys.Perm (P.map V.str)) : ∃ zs : List Str, ys = zs.map V.str ∧ zs.Perm P := by
  let g : V → Str := fun v => match v with | .str z => z | _ => Str.empty
  have e : (P.map V.str).map g = P := by rw [List.map_map]; exact List.map_id'' (fun _ => rfl) P
  refine ⟨ys.map g, ?_, e ▸ h.map g⟩
  rw [List.map_map]
  refine ((List.map_congr_left (g := id) fun v m => ?_).trans (List.map_id ys)).symm
  obtain ⟨z, _, rfl⟩ := List.mem_map.mp (h.subset m)
  rfl
theorem four : ∀ m : Nat, m < 4 → ∃ c : Nat, [V.int 1, V.int 1, V.int 2, V.int 5][m]? = some (.int c) ∧ 0 < c ∧ c ≤ 5
  | 0, _ => ⟨1, rfl, by decide, by decide⟩
  | 1, _ => ⟨1, rfl, by decide, by decide⟩
  | 2, _ => ⟨2, rfl, by decide, by decide⟩
  | 3, _ => ⟨5, rfl, by decide, by decide⟩
  | n + 4, h => absurd h (by omega)
theorem four' (a b c d : V) : ∀ m : Nat, m < 4 → ∃ v : V, [a, b, c, d][m]? = some v
  | 0, _ => ⟨a, rfl⟩
  | 1, _ => ⟨b, rfl⟩
  | 2, _ => ⟨c, rfl⟩
  | 3, _ => ⟨d, rfl⟩
  | n + 4, h => absurd h (by omega)
theorem least_of : ∀ l : List Str, l ≠ [] → ∃ w ∈ l, ∀ y ∈ l, ¬ TL.tl y < TL.tl w
  | [], h => absurd rfl h
  | [a], _ => ⟨a, List.mem_cons_self, fun y m => by rw [List.mem_singleton.mp m]; exact List.lt_irrefl _⟩
  | a :: b :: l, _ => by
    obtain ⟨w, mw, hw⟩ := least_of (b :: l) (by simp)
    by_cases c : TL.tl a < TL.tl w
    · refine ⟨a, List.mem_cons_self, fun y m => ?_⟩
      rcases List.mem_cons.mp m with rfl | m
      · exact List.lt_irrefl _
      · exact fun z => hw y m (List.lt_trans z c)
    · refine ⟨w, List.mem_cons_of_mem _ mw, fun y m => ?_⟩
      rcases List.mem_cons.mp m with rfl | m
      · exact c
      · exact hw y m
theorem mul12 : MulOk "b" 12 := by first | decide | (unfold MulOk; decide) | exact ⟨by decide, by decide⟩
theorem ok_l_bad_names {f : Addr} {fd : FuncData} (F : Fun K "_law_bad_names" "_law_bad_names" s_l_bad_names f fd) (T : Txt K mg ca) (O__law_mixed : Own P w K mg base 2 "_law_mixed" ["_law_bag_here", "_law_items"] (sp_l_mixed K ca)) (O__law_draw : Own P w K mg base 1 "_law_draw" ["_law_bag_here", "_law_size"] (sp_l_draw K ca)) (O_Form_1 : OwnI P w K mg base 5 "Form" (ca 3) ["self", "shares"] [] (sp_Form_init K ca)) (O_Form_0 : OwnI P w K mg base 5 "Form" (ca 3) ["self", "shares"] [.non] (sp_Form_init K ca)) (O_Ratio_2 : OwnI P w K mg base 1 "Ratio" (ca 2) ["self", "top", "bottom"] [] (sp_Ratio_init K ca)) (O_Ratio_1 : OwnI P w K mg base 1 "Ratio" (ca 2) ["self", "top", "bottom"] [.int 1] (sp_Ratio_init K ca)) (O_Form_of : OwnC P w K mg base 7 (ca 3) "of" ["cls", "name"] (sp_Form_of K ca)) : FnOk P w K mg base (L2N.CX P w) 8 f fd ["_law_bag_here", "_law_names_here"] (sp_l_bad_names K ca) := by
  refine okN F sc_l_bad_names (fun vs H Q E h => ?_) (fun cdv A outer s H vs Q E hr h => ?_)
  · obtain ⟨_, _, _, rfl, _⟩ := h
    rfl
  · obtain ⟨b, ln, N, rfl, L, hB, hln, hne, hU, hl, k⟩ := h
    refine ⟨_, pss_cons (ps_set (i := 2) sc_l_bad_names.nd rfl (Or.inl rfl) (pe_lst (pa_cons pe_str (pa_cons pe_str (pa_cons pe_str (pa_cons pe_str (pa_cons pe_str (pa_cons pe_str (pa_cons pe_str (pa_cons pe_str (pa_cons (pe_op op_add_str (pe_op op_mulS pe_str pe_int) pe_str) pa_nil))))))))))) (pss_cons (ps_set (i := 3) sc_l_bad_names.nd rfl (Or.inl rfl) (pe_slice sl_list (pe_own O__law_mixed (hr.mono (by decide)) rfl pas0 (pa_cons (pv 0) (pa_cons (pv 2) pa_nil))) po_none (po_some (pe_ix ix_list (pe_lst (pa_cons pe_int (pa_cons pe_int (pa_cons pe_int (pa_cons pe_int pa_nil))))) (pe_own O__law_draw (hr.mono (by decide)) rfl pas0 (pa_cons (pv 0) (pa_cons pe_int pa_nil))) (fun _ _ => rfl))))) (pss_cons (ps_set (i := 4) sc_l_bad_names.nd rfl (Or.inl rfl) pe_dnewK) (pss_cons (ps_for (passes_of rfl) rfl (pi_list (pe_own O__law_mixed (hr.mono (by decide)) rfl pas0 (pa_cons (pv 0) (pa_cons (pe_op op_cat (pv 1) (pv 3)) pa_nil)))) (pg_name (i := 5) sc_l_bad_names.nd rfl (Or.inl rfl)) (pss_one (ps_dput (hu_of (hr.mono (Nat.zero_le _))) (pv 4) (pv 5) (pe_ix ix_list (pe_lst (pa_cons pe_int (pa_cons pe_int (pa_cons (pe_owni O_Ratio_1 (hr.mono (by decide)) rfl pas0 (pa_cons pe_int pa_nil)) (pa_cons (pe_un un_neg pe_int) pa_nil))))) (pe_own O__law_draw (hr.mono (by decide)) rfl pas0 (pa_cons (pv 0) (pa_cons pe_int pa_nil))) (fun _ _ => rfl)) rfl))) (pss_cons (ps_set (i := 6) sc_l_bad_names.nd rfl (Or.inl rfl) pe_non) (pss_cons (L2N.ps_try_as (i := 7) (Wout := fun _ _ _ _ => False) rfl rfl sc_l_bad_names.nd rfl rfl ⟨rfl, by decide, Or.inl T.g_BadName⟩ takesN (fun W pn xe tk _ => pss_cons (ps_expr (pe_owncS O_Form_of (pe_glob (v := .ref (ca 3)) (by rfl) T.g_Form rfl) (hr.mono (by decide)) (fun σ => L2N.passAt tk σ) (pa_cons (pe_ix (r := rIxL K) ix_list (pv 3) pe_int (fun _ _ => rfl)) pa_nil))) (pss_one (ps_ret pe_bl))) (fun a oe cls d pn hzn hf => have hz := hzn.zc; pss_one (ps_if (pt_cmpR op_ne (pe_xf T.xf_BadName T.nf_BadName_name hz hf (pv 7)) (pe_ix (r := rIxL K) ix_list (pv 3) pe_int (fun _ _ => rfl)) (nomark _)) (pss_one (ps_ret pe_bl)) pss_nil))) (pss_cons (L2N.ps_try_as (i := 7) (Wout := fun _ _ _ _ => False) rfl rfl sc_l_bad_names.nd rfl rfl ⟨rfl, by decide, Or.inl T.g_BadName⟩ takesN (fun W pn xe tk _ => pss_one (ps_set (i := 6) sc_l_bad_names.nd rfl (Or.inl rfl) (pe_owni O_Form_1 (hr.mono (by decide)) rfl (fun σ => L2N.passAt tk σ) (pa_cons (pv 4) pa_nil)))) (fun a oe cls d pn hzn hf => have hz := hzn.zc; pss_one (ps_ret (pe_and (pe_cmpR op_eq (pe_xf T.xf_BadName T.nf_BadName_name hz hf (pv 7)) (pe_callB (r := rMinS K) (cr_minH (hot_suite (by rfl) (by exact List.mem_cons_self) hzn hf)) (by rfl) T.b_min (by decide +kernel) (pa_cons (pe_strsH (K := K) rfl (hot_suite (by rfl) (by exact List.mem_cons_self) hzn hf) (by decide) (by decide) rfl (by decide) rfl (fun _ => rfl) (fun _ => rfl) T.b_str (pv 3)) pa_nil)) (nomark _)) (pe_and (pe_callB (call_isD T.ec_BadName hz hf) (by rfl) T.b_isinstance (by decide +kernel) (pa_cons (pv 7) (pa_cons (pe_glob (v := .ref (ca 0)) (by rfl) T.g_CostError rfl) pa_nil))) (pe_one (pe_cmpR op_isN (pv 6) pe_non (nomark _)))))))) (pss_one (ps_ret pe_bl)))))))), ?_⟩
    fail "rd"
    refine ⟨mul12, ?_⟩
    fail "rd"
    intro pl n_pl
    generalize g_H1 : upd _ pl _ = H1
    obtain ⟨s_H1, e_pl⟩ := gen_new n_pl g_H1
    clear g_H1
    fail "rd"
    obtain ⟨xs1, e1⟩ : ∃ x, H1 pl = some (.lst x) := ⟨_, e_pl⟩
    rw [e_pl] at e1
    have e1 := (HO.lst.inj (Option.some.inj e1)).symm
    rw [← e1] at e_pl
    obtain ⟨W, eP, hP, lP⟩ : ∃ W : List Str, xs1 = W.map V.str ∧ (∀ z ∈ W, nmB z = false ∧ z.length ≤ 1000) ∧ W.length = 9 := ⟨[_, _, _, _, _, _, _, _, _], e1, by decide +kernel, rfl⟩
    subst eP
    refine ⟨b, pl, _, rfl, L, hB.same s_H1, e_pl, hB.ne n_pl, by rw [List.length_map, lP]; decide, fun ys p H2 hperm np k2 B2 e_p => ?_⟩
    obtain ⟨zs, rfl, hzs⟩ := perm_strs hperm
    fail "rd"
    have pb : p ≠ b := (hB.same s_H1).ne np
    clear e1 np
    intro q4 n_q4
    generalize g_H3 : upd _ q4 _ = H3
    obtain ⟨s_H3, e_q4⟩ := gen_new n_q4 g_H3
    clear g_H3
    fail "rd"
    have B3 := B2.same s_H3
    refine ⟨L, B3, by decide, by decide, fun d H4 d0 d1 k4 B4 => ?_⟩
    obtain ⟨m, rfl⟩ := Int.eq_ofNat_of_zero_le d0
    obtain ⟨c, atc, c1, c5⟩ := four m (by omega)
    have hq4 := k4 _ _ e_q4 (B2.ne n_q4)
    have hp4 := k4 _ _ (s_H3 _ _ e_p) pb
    fail "rd"
    refine ⟨q4, _, _, _, rfl, rfl, SqL.of hq4, atI_nat atc, ?_⟩
    fail "rd"
    refine ⟨p, _, rfl, SqL.of hp4, ?_⟩
    rw [cut_to, ← List.map_take]
    intro o n_o
    generalize g_H5 : upd _ o _ = H5
    obtain ⟨s_H5, e_o⟩ := gen_new n_o g_H5
    clear g_H5
    have B5 := B4.same s_H5
    have ob : o ≠ b := B4.ne n_o
    fail "rd"
    intro g n_g
    generalize g_H6 : upd _ g _ = H6
    obtain ⟨s_H6, e_g⟩ := gen_new n_g g_H6
    clear g_H6
    have B6 := B5.same s_H6
    have gb : g ≠ b := B5.ne n_g
    have hln6 : H6 ln = some (.lst (N.map V.str)) := s_H6 _ _ (s_H5 _ _ (k4 _ _ (s_H3 _ _ (k2 _ _ (s_H1 _ _ hln) hne)) hne))
    fail "rd"
    have ho6 := s_H6 _ _ e_o
    refine ⟨ln, o, _, _, rfl, rfl, hln6, ho6, by rw [List.length_map, List.length_map, List.length_take, sizeLine_eq]; omega, ?_⟩
    rw [← List.map_append]
    intro u n_u
    generalize g_H7 : upd _ u _ = H7
    obtain ⟨s_H7, e_u⟩ := gen_new n_u g_H7
    clear g_H7
    fail "rd"
    have B7 := B6.same s_H7
    have ho7 := s_H7 _ _ ho6
    refine ⟨b, u, _, rfl, L, B7, e_u, B6.ne n_u, by rw [List.length_map, List.length_append, List.length_take]; omega, fun ys r H8 hperm2 nr k8 B8 e_r => ?_⟩
    obtain ⟨vs, rfl, hvs⟩ := perm_strs hperm2
    have ho8 := k8 _ _ ho7 ob
    have hg8 := k8 _ _ (s_H7 _ _ e_g) gb
    have rb : r ≠ b := B7.ne nr
    have rg : r ≠ g := (ne_of_none (s_H7 _ _ e_g) nr).symm
    have ro : r ≠ o := (ne_of_none ho7 nr).symm
    have og : o ≠ g := ne_of_none e_o n_g
    have gL : g ≠ L := B5.neL n_g
    have oL : o ≠ L := B4.neL n_o
    have lv : vs.length ≤ 21 := by
      have := hvs.length_eq
      rw [List.length_append, List.length_take] at this
      omega
    refine ⟨_, rfl, ⟨_, SqL.of e_r⟩, for_list (D := ⟨_, _, fun _ _ => True, fun _ _ => True⟩) (K := K) (a := r) (xs := vs.map V.str) (fun j σ' H' => ∃ v kvs, σ' = [some (.ref b), some (.ref ln), some (.ref pl), some (.ref o), some (.ref g), v, none, none] ∧ Bag H' L b ∧ H' o = some (.lst ((zs.take c).map V.str)) ∧
      H' r = some (.lst (vs.map V.str)) ∧ H' g = some (.dK kvs) ∧ KOk vs kvs ∧ ∀ i z, i < j → vs[i]? = some z → ∃ v, valV kvs (.inr z) = some v)
      ⟨none, [], rfl, B8, ho8, e_r, hg8, .nil, fun _ _ h => absurd h (Nat.not_lt_zero _)⟩ (fun j σ' H' _ ⟨_, _, _, _, _, q, _⟩ => SqL.of q) ?_ ?_⟩
    · rintro j x σ' H9 hj ⟨v, kvs, rfl, B9, ho9, hr9, hg9, kok, all⟩
      obtain ⟨z, hz, rfl⟩ : ∃ z, vs[j]? = some z ∧ V.str z = x := by
        rw [List.getElem?_map] at hj
        exact Option.map_eq_some_iff.mp hj
      fail "rd"
      intro q0 d_q0 n_q0 nd_q0 ne_q0
      refine ⟨q0, d_q0, _, _, rfl, upd_same, (show (0 : Int).natAbs.log2 < 9000 by decide), fun z => absurd z (show (1 : Int) ≠ 0 by decide), fun _ H10 k_q0 e_q0 => ⟨rfl, ?_⟩⟩
      have s_H10 := same_made n_q0 nd_q0 ne_q0 k_q0
      fail "rd"
      intro q1 n_q1
      generalize g_H11 : upd _ q1 _ = H11
      obtain ⟨s_H11, e_q1⟩ := gen_new n_q1 g_H11
      clear g_H11
      have B11 := (B9.same s_H10).same s_H11
      have B10 := B9.same s_H10
      have s911 := s_H10.trans s_H11
      fail "rd"
      refine ⟨L, B11, by decide, by decide, fun e H12 e0 e1 k12 B12 => ?_⟩
      obtain ⟨i, rfl⟩ := Int.eq_ofNat_of_zero_le e0
      obtain ⟨y, aty⟩ := four' (V.int 0) (V.int 1) (V.ref q0) (V.int (-2)) i (by omega)
      have hq1 := k12 _ _ e_q1 (B10.ne n_q1)
      have ho12 := k12 _ _ (s911 _ _ ho9) ob
      have hr12 := k12 _ _ (s911 _ _ hr9) rb
      have hg12 := k12 _ _ (s911 _ _ hg9) gb
      fail "rd"
      refine ⟨q1, _, _, _, rfl, rfl, SqL.of hq1, atI_nat aty, ?_⟩
      fail "rd"
      have line : kvs.length < sizeLine := by
        have := kok.len
        rw [sizeLine_eq]
        omega
      refine ⟨g, _, rfl, DPut.k (k := Sum.inr z) hg12 line, ?_⟩
      generalize g_H13 : upd _ g _ = H13
      obtain ⟨k_H13, e_H13⟩ := gen_put g_H13
      clear g_H13
      refine ⟨_, _, rfl, B12.keep k_H13 gb gL, k_H13 _ _ ho12 og, k_H13 _ _ hr12 rg, e_H13, kok.put (List.mem_of_getElem? hz) _, fun i2 z2 h2 hz2 => ?_⟩
      rw [valV_put]
      by_cases e : (Sum.inr z2 : Key) = .inr z
      · rw [if_pos e]
        exact ⟨_, rfl⟩
      · rw [if_neg e]
        refine all i2 z2 ?_ hz2
        rcases Nat.lt_succ_iff_lt_or_eq.mp h2 with h | h
        · exact h
        · subst h
          rw [hz] at hz2
          cases hz2
          exact absurd rfl e
    · rintro σ' H9 ⟨v, kvs, rfl, B9, ho9, hr9, hg9, kok, all⟩
      have hod : ∀ y ∈ zs.take c, nmB y = false ∧ y.length ≤ 1000 := fun y m => hP y (hzs.subset (List.mem_of_mem_take m))
      have sel : ∀ y ∈ zs.take c, y ∈ vs := fun y m => hvs.mem_iff.mpr (List.mem_append_right _ m)
      have nod : (zs.take c) ≠ [] := fun e => by
        have l1 := congrArg List.length e
        have l2 := hzs.length_eq
        rw [List.length_take] at l1
        simp only [List.length_nil] at l1
        omega
      have lod : (zs.take c).length ≤ 5 := by rw [List.length_take]; omega
      generalize zs.take c = od at *
      obtain ⟨z0, od', rfl⟩ : ∃ z0 l, od = z0 :: l := by
        cases od with
        | nil => exact absurd rfl nod
        | cons a l => exact ⟨a, l, rfl⟩
      fail "rd"
      refine .inr ⟨(hod z0 List.mem_cons_self).1, (hod z0 List.mem_cons_self).2, fun ex H10 s10 e10 => ?_⟩
      refine ⟨true, T.te_BadName, fun _ a na => ?_, fun q => Bool.noConfusion q⟩
      fail "rd"
      refine iteBF (by simp) ?_
      fail "rd"
      have bad : ∀ y ∈ vs, nmB y = false → y ∈ z0 :: od' := fun y m hb => by
        rcases List.mem_append.mp (hvs.subset m) with h | h
        · rw [(hU.ok y h).nm] at hb
          cases hb
        · exact h
      obtain ⟨w0, mw, lw⟩ := least_of (z0 :: od') nod
      have hw : Bad1 vs w0 := ⟨sel w0 mw, (hod w0 mw).1, fun y m hb => lw y (bad y m hb)⟩
      intro x dx nx ndx nxd
      refine form_bad nx ndx nxd ⟨g, kvs, vs, w0, rfl, s10 _ _ hg9, kok, fun z m => ?_, by omega, fun z m => ?_, hw, fun ex2 H11 s11 e11 => ?_⟩
      · obtain ⟨i, hi⟩ := List.mem_iff_getElem?.mp m
        obtain ⟨v, hv⟩ := all i z (by rw [List.length_map]; exact (List.getElem?_eq_some_iff.mp hi).1) hi
        exact List.mem_map.mpr ⟨_, valV_mem hv, rfl⟩
      · rcases List.mem_append.mp (hvs.subset m) with h | h
        · have e := (hU.ok z h).nm
          unfold nmB at e
          simp only [Bool.and_eq_true, decide_eq_true_eq] at e
          omega
        · exact (hod z h).2
      · refine ⟨true, T.te_BadName, fun _ a2 na2 => ?_, fun q => Bool.noConfusion q⟩
        have ho11 := s11 _ _ (s10 _ _ ho9)
        fail "rd"
        refine ⟨o, z0 :: od', rfl, SqL.of ho11, by omega, ?_⟩
        intro m1 n_m1
        generalize g_H12 : upd _ m1 _ = H12
        obtain ⟨s_H12, e_m1⟩ := gen_new n_m1 g_H12
        clear g_H12
        fail "rd"
        refine ⟨m1, z0 :: od', rfl, SqL.of e_m1, nod, fun z mz lz => ?_⟩
        have hz : Bad1 vs z := ⟨sel z mz, (hod z mz).1, fun y m hb => lz y (bad y m hb)⟩
        obtain rfl := bad1_uniq hw hz
        fail "rd"
        refine iteBT (by simp) ?_
        fail "rd"
        have e12 := s_H12 _ _ e11
        refine ⟨_, _, true, rfl, rfl, fun x hx => by cases hx; exact ⟨_, e12⟩, fun u r => r, T.ki_BadName_CostError, ?_⟩
        fail "rd"
        exact k _

abbrev s_l_value : Stmt := top 31
theorem sc_l_value : FnScope ["_law_shares_here", "_law_prices", "_law_top_here", "_law_bottom", "_law_name", "_law_more", "_law_part"] ["_law_shares_here", "_law_prices"] (defScope s_l_value) := ⟨rfl, rfl, rfl, by decide +kernel, rfl, by decide +kernel, by decide +kernel⟩
/-- a dict that has a fraction for each name of M -/
def TP (H : Hp) (d : Addr) (M : List Str) (pf : Fm) : Prop := ∃ kvs, H d = some (.dK kvs) ∧ KOk M kvs ∧ ∀ z ∈ M, ∃ t, valV kvs (.inr z) = some (.ref t) ∧ H t = some (.tup [.int (pf z).1, .int (pf z).2])
theorem TP.same {H H' : Hp} {d : Addr} {M : List Str} {pf : Fm} (h : TP H d M pf) (s : Same H H') : TP H' d M pf := let ⟨kvs, e, k, a⟩ := h; ⟨kvs, s _ _ e, k, fun z m => let ⟨t, q, w⟩ := a z m; ⟨t, q, s _ _ w⟩⟩
def prodT (f pf : Fm) (z : Str) : Int × Int := ((f z).1 * (pf z).1, (f z).2 * (pf z).2)
theorem step_comm (z x y : Int × Int) : ((z.1 * x.2 + x.1 * z.2) * y.2 + y.1 * (z.2 * x.2), z.2 * x.2 * y.2) = ((z.1 * y.2 + y.1 * z.2) * x.2 + x.1 * (z.2 * y.2), z.2 * y.2 * x.2) := by
  refine Prod.ext ?_ ?_
  · show (z.1 * x.2 + x.1 * z.2) * y.2 + y.1 * (z.2 * x.2) = (z.1 * y.2 + y.1 * z.2) * x.2 + x.1 * (z.2 * y.2)
    rw [Int.add_mul, Int.add_mul, Int.add_assoc, Int.add_assoc]
    congr 1
    · ac_rfl
    · rw [Int.add_comm]
      congr 1 <;> ac_rfl
  · show z.2 * x.2 * y.2 = z.2 * y.2 * x.2
    ac_rfl
theorem sumQ_perm {fs gs : List (Int × Int)} (h : fs.Perm gs) (z : Int × Int) : sumQ z fs = sumQ z gs := by
  unfold sumQ
  exact h.foldl_eq' (fun x _ y _ z => step_comm z x y) z
theorem sumQ_zeros : ∀ (fs : List (Int × Int)) (z : Int × Int), (∀ f ∈ fs, f.1 = 0 ∧ f.2 ≠ 0) → z.2 ≠ 0 → nrm (sumQ z fs).1 (sumQ z fs).2 = nrm z.1 z.2
  | [], _, _, _ => rfl
  | f :: fs, z, h, n => by
    obtain ⟨h1, h2⟩ := h f List.mem_cons_self
    have n2 : z.2 * f.2 ≠ 0 := Int.mul_ne_zero n h2
    have ih := sumQ_zeros fs (z.1 * f.2 + f.1 * z.2, z.2 * f.2) (fun g m => h g (List.mem_cons_of_mem _ m)) n2
    show nrm (sumQ (z.1 * f.2 + f.1 * z.2, z.2 * f.2) fs).1 (sumQ (z.1 * f.2 + f.1 * z.2, z.2 * f.2) fs).2 = _
    rw [ih]
    refine nrm_same n2 n ?_
    show (z.1 * f.2 + f.1 * z.2) * z.2 = z.1 * (z.2 * f.2)
    rw [h1, Int.zero_mul, Int.add_zero]
    ac_rfl
/-- sums over all keys and over those with shares alone are the same -/
theorem sum_keys {f pf : Fm} {ks ys : List Str} (rf : RedF f) (np : ∀ z ∈ ks, (pf z).2 ≠ 0) (nk : ks.Nodup) (ny : ys.Nodup) (hy : ∀ z, z ∈ ys ↔ (f z).1 ≠ 0) (off : ∀ z, z ∉ ks → f z = (0, 1)) :
    nrm (sumQ (0, 1) (ks.map (prodT f pf))).1 (sumQ (0, 1) (ks.map (prodT f pf))).2 = nrm (sumQ (0, 1) (ys.map (prodT f pf))).1 (sumQ (0, 1) (ys.map (prodT f pf))).2 := by
  have sub : ∀ z ∈ ys, z ∈ ks := fun z m => Classical.byContradiction fun n => (hy z).mp m (by rw [off z n])
  have pm : ks.Perm (ys ++ ks.filter fun z => decide ((f z).1 = 0)) := by
    refine nodup_perm nk ?_ fun z => ?_
    · refine List.nodup_append.mpr ⟨ny, nk.filter _, fun a ha b hb e => ?_⟩
      subst e
      exact (hy a).mp ha (of_decide_eq_true (List.mem_filter.mp hb).2)
    · rw [List.mem_append, List.mem_filter]
      constructor
      · intro m
        by_cases c : (f z).1 = 0
        · exact .inr ⟨m, decide_eq_true c⟩
        · exact .inl ((hy z).mpr c)
      · rintro (m | m)
        · exact sub z m
        · exact m.1
  have nf : ∀ z, (f z).2 ≠ 0 := fun z => by have := (rf z).pos; omega
  rw [sumQ_perm (pm.map (prodT f pf)) (0, 1), List.map_append]
  have app : ∀ (a b : List (Int × Int)), sumQ (0, 1) (a ++ b) = sumQ (sumQ (0, 1) a) b := fun a b => by
    unfold sumQ
    exact List.foldl_append
  rw [app]
  refine sumQ_zeros _ _ (fun g m => ?_) (sumQ_ne _ _ (fun g m => ?_) (by decide))
  · obtain ⟨z, mz, rfl⟩ := List.mem_map.mp m
    obtain ⟨m1, m2⟩ := List.mem_filter.mp mz
    refine ⟨?_, Int.mul_ne_zero (nf z) (np z m1)⟩
    show (f z).1 * (pf z).1 = 0
    rw [of_decide_eq_true m2, Int.zero_mul]
  · obtain ⟨z, mz, rfl⟩ := List.mem_map.mp m
    exact Int.mul_ne_zero (nf z) (np z (sub z mz))
def sp_l_value (_ : PySem.W.Frag) (ca : Nat → Addr) : Sp := fun vs H Q _ => ∃ (d1 d2 : Addr) (N M : List Str) (f pf : Fm), vs = [.ref d1, .ref d2] ∧ TabAt H d1 N f ∧ TP H d2 M pf ∧ (∀ z ∈ N, z ∈ M) ∧ Uni N ∧ N.length ≤ 12 ∧ RedF f ∧ SzF 90 f ∧ (∀ z ∈ M, (pf z).2 ≠ 0) ∧ SzF 90 pf ∧
  ∀ (p : Addr) (H' : Hp) (ks : List Str), Same H H' → ks.Nodup → (∀ z, z ∉ ks → f z = (0, 1)) → (∀ z ∈ ks, z ∈ M) → H' p = some (.tup [.int (nrm (sumQ (0, 1) (ks.map (prodT f pf))).1 (sumQ (0, 1) (ks.map (prodT f pf))).2).1, .int (nrm (sumQ (0, 1) (ks.map (prodT f pf))).1 (sumQ (0, 1) (ks.map (prodT f pf))).2).2]) → Q (.ref p) H'
theorem ok_l_value {f : Addr} {fd : FuncData} (F : Fun K "_law_value" "_law_value" s_l_value f fd) (T : Txt K mg ca) (O__law_lowest : Own P w K mg base 2 "_law_lowest" ["_law_top_here", "_law_bottom"] (sp_l_lowest K ca)) : FnOk P w K mg base (L2N.CX P w) 3 f fd ["_law_shares_here", "_law_prices"] (sp_l_value K ca) := by
  refine okN F sc_l_value (fun vs H Q E h => ?_) (fun cdv A outer s H vs Q E hr h => ?_)
  · obtain ⟨_, _, _, _, _, _, rfl, _⟩ := h
    rfl
  · obtain ⟨d1, d2, N, M, f, pf, rfl, hT, hP, hNM, hN, n12, rf, zf, np, zp, k⟩ := h
    refine ⟨_, pss_cons (ps_set (i := 2) sc_l_value.nd rfl (Or.inl rfl) pe_int) (pss_cons (ps_set (i := 3) sc_l_value.nd rfl (Or.inl rfl) pe_int) (pss_cons (ps_lk (ps_for (passes_of rfl) rfl (pi_keys (pv 0)) (pg_name (i := 4) sc_l_value.nd rfl (Or.inl rfl)) (pss_cons (ps_set (i := 5) sc_l_value.nd rfl (Or.inl rfl) (pe_op op_mulI (pe_ix ix_tup (pe_dget (hu_of (hr.mono (Nat.zero_le _))) (pv 0) (pv 4) (fun _ _ => rfl)) pe_int (fun _ _ => rfl)) (pe_ix ix_tup (pe_dget (hu_of (hr.mono (Nat.zero_le _))) (pv 1) (pv 4) (fun _ _ => rfl)) pe_int (fun _ _ => rfl)))) (pss_cons (ps_set (i := 6) sc_l_value.nd rfl (Or.inl rfl) (pe_op op_mulI (pe_ix ix_tup (pe_dget (hu_of (hr.mono (Nat.zero_le _))) (pv 0) (pv 4) (fun _ _ => rfl)) pe_int (fun _ _ => rfl)) (pe_ix ix_tup (pe_dget (hu_of (hr.mono (Nat.zero_le _))) (pv 1) (pv 4) (fun _ _ => rfl)) pe_int (fun _ _ => rfl)))) (pss_one (ps_asg (pe_own O__law_lowest (hr.mono (by decide)) rfl pas0 (pa_cons (pe_op op_add (pe_op op_mulI (pv 2) (pv 6)) (pe_op op_mulI (pv 5) (pv 3))) (pa_cons (pe_op op_mulI (pv 3) (pv 6)) pa_nil))) (pg_tup rfl (pgs_cons (pg_name (i := 2) sc_l_value.nd rfl (Or.inl rfl)) (pgs_cons (pg_name (i := 3) sc_l_value.nd rfl (Or.inl rfl)) pgs_nil))))))))) (pss_one (ps_ret (pe_tup (pa_cons (pv 2) (pa_cons (pv 3) pa_nil))))))), ?_⟩
    obtain ⟨kvs, e1, t1⟩ := hT
    obtain ⟨ks, ek, nk, hm, lk⟩ := t1.k.names
    have offk : ∀ z, z ∉ ks → f z = (0, 1) := fun z n => t1.z z (by
      cases e : valV kvs (.inr z) with
      | none => rfl
      | some v => exact absurd ((hm z).mpr ⟨v, e⟩) n)
    have sub : ∀ z ∈ ks, z ∈ N := fun z m => by
      obtain ⟨v, hv⟩ := (hm z).mp m
      obtain ⟨y, hy, q⟩ := t1.k.mem _ (valV_mem hv)
      cases q
      exact hy
    have k12 : ks.length ≤ 12 := by rw [lk]; exact Nat.le_trans t1.k.len n12
    have zz : ∀ z ∈ ks, Sz 200 (prodT f pf z).1 ∧ Sz 200 (prodT f pf z).2 := fun z m => ⟨((zf z).1.mul (zp z).1).mono, ((zf z).2.mul (zp z).2).mono⟩
    have nz : ∀ z ∈ ks, (prodT f pf z).2 ≠ 0 := fun z m => Int.mul_ne_zero (by have := (rf z).pos; omega) (np z (hNM z (sub z m)))
    fail "rd"
    refine ⟨.inl ⟨d1, _, e1, True.intro, fun od => ?_⟩⟩
    have size : ∀ i, Sz 2500 (sumQ (0, 1) ((ks.take i).map (prodT f pf))).1 ∧ Sz 2500 (sumQ (0, 1) ((ks.take i).map (prodT f pf))).2 := fun i => by
      obtain ⟨w1, w2⟩ := sumQ_size ((ks.take i).map (prodT f pf)) (0, 1) 1 (fun u m => by
        obtain ⟨y, my, rfl⟩ := List.mem_map.mp m
        exact zz y (List.mem_of_mem_take my)) Sz.zero Sz.one
      have : ((ks.take i).map (prodT f pf)).length ≤ 12 := by rw [List.length_map, List.length_take]; omega
      exact ⟨w1.mono (by omega), w2.mono (by omega)⟩
    have nS : ∀ i, (sumQ (0, 1) ((ks.take i).map (prodT f pf))).2 ≠ 0 := fun i => sumQ_ne _ _ (fun u m => by
      obtain ⟨y, my, rfl⟩ := List.mem_map.mp m
      exact nz y (List.mem_of_mem_take my)) (by decide)
    have n0 : nrm 0 1 = (0, 1) := nrm_0 (by decide)
    obtain ⟨kp, ep, hkp, hap⟩ := id hP
    refine ⟨_, rfl, d1, od, rfl, .inl ⟨kvs, upd_same, for_names t1.k (D := ⟨_, _, fun _ _ => True, fun _ _ => True⟩) (fun i σ' H' => ∃ (v1 v2 v3 : Option V), σ' = [some (.ref d1), some (.ref d2), some (.int (nrm (sumQ (0, 1) ((ks.take i).map (prodT f pf))).1 (sumQ (0, 1) ((ks.take i).map (prodT f pf))).2).1), some (.int (nrm (sumQ (0, 1) ((ks.take i).map (prodT f pf))).1 (sumQ (0, 1) ((ks.take i).map (prodT f pf))).2).2), v1, v2, v3] ∧ Same (upd H d1 (.frz od (.dK kvs))) H')
      ⟨none, none, none, by show _ = [_, _, some (V.int (nrm 0 1).1), some (V.int (nrm 0 1).2), _, _, _]; rw [n0]; rfl, Same.refl _⟩ (fun i σ' H' _ ⟨_, _, _, _, s⟩ => s _ _ upd_same) ?_ ?_⟩⟩
    · rintro i z v σ' H' hi hz hv ⟨v1, v2, v3, rfl, sH⟩
      obtain ⟨t, rfl, ht⟩ := (TupF.keep (H' := upd H d1 (.frz od (.dK kvs))) e1 ndt keep_upd (t1.r z v hv)).same sH
      obtain ⟨u, eu, hu⟩ := hap z (hNM z hz)
      have hu := sH _ _ (show upd H d1 (.frz od (.dK kvs)) u = _ by rw [upd_ne (ne_of hu e1 fun z => nomatch z)]; exact hu)
      have hks : ks[i]? = some z := by
        have a := congrArg (fun l => l[i]?) ek
        simp only [List.getElem?_map, hi] at a
        cases b : ks[i]? with
        | none => rw [b] at a; cases a
        | some y => rw [b] at a; cases a; rfl
      have mz := List.mem_of_getElem? hks
      have fd1 : DGet H' d1 (.str z) (some (.ref t)) := dget (.inr ⟨od, sH _ _ upd_same⟩) hv
      have fd2 : DGet H' d2 (.str z) (some (.ref u)) := dget (rd_same sH (rd_lock ep e1)) eu
      obtain ⟨s1, s2⟩ := size i
      have s1' := s1.le (nrm_le1 (nS i))
      have s2' := s2.le (nrm_le2 (a := (sumQ (0, 1) ((ks.take i).map (prodT f pf))).1) (nS i))
      have n2' := nrm_ne (a := (sumQ (0, 1) ((ks.take i).map (prodT f pf))).1) (nS i)
      obtain ⟨q1, q2⟩ := zz z mz
      have q0 := nz z mz
      have m1 : IntMulOk (f z).1 (pf z).1 := (zf z).1.mok (zp z).1
      have m2 : IntMulOk (f z).2 (pf z).2 := (zf z).2.mok (zp z).2
      have ec : nrm ((nrm (sumQ (0, 1) ((ks.take i).map (prodT f pf))).1 (sumQ (0, 1) ((ks.take i).map (prodT f pf))).2).1 * (prodT f pf z).2 + (prodT f pf z).1 * (nrm (sumQ (0, 1) ((ks.take i).map (prodT f pf))).1 (sumQ (0, 1) ((ks.take i).map (prodT f pf))).2).2) ((nrm (sumQ (0, 1) ((ks.take i).map (prodT f pf))).1 (sumQ (0, 1) ((ks.take i).map (prodT f pf))).2).2 * (prodT f pf z).2) =
          nrm (sumQ (0, 1) ((ks.take (i + 1)).map (prodT f pf))).1 (sumQ (0, 1) ((ks.take (i + 1)).map (prodT f pf))).2 := by
        rw [nrm_addL (nS i) q0, List.take_succ, hks, List.map_append]
        show _ = nrm (sumQ (0, 1) (_ ++ [prodT f pf z])).1 (sumQ (0, 1) (_ ++ [prodT f pf z])).2
        rw [sumQ_app]
      unfold prodT at q1 q2 q0
      generalize nrm (sumQ (0, 1) ((ks.take i).map (prodT f pf))).1 (sumQ (0, 1) ((ks.take i).map (prodT f pf))).2 = w at *
      have m3 : IntMulOk w.1 ((f z).2 * (pf z).2) := s1'.mok q2
      have m4 : IntMulOk ((f z).1 * (pf z).1) w.2 := q1.mok s2'
      have m5 : IntMulOk w.2 ((f z).2 * (pf z).2) := s2'.mok q2
      fail "rd"
      refine ⟨d1, _, rfl, fd1, ?_⟩
      fail "rd"
      refine ⟨d2, _, rfl, fd2, ?_⟩
      fail "rd"
      refine ⟨d1, _, rfl, fd1, ?_⟩
      fail "rd"
      refine ⟨d2, _, rfl, fd2, ?_⟩
      fail "rd"
      refine ⟨Int.mul_ne_zero n2' q0, (s2'.mul q2).lg, fun p H3 s3 np3 e3 => ?_⟩
      fail "rd"
      rw [show (w.1 * ((f z).2 * (pf z).2) + (f z).1 * (pf z).1 * w.2) = (w.1 * (prodT f pf z).2 + (prodT f pf z).1 * w.2) from rfl, show w.2 * ((f z).2 * (pf z).2) = w.2 * (prodT f pf z).2 from rfl, ec]
      exact ⟨_, _, _, rfl, sH.trans s3⟩
    · rintro σ' H' ⟨v1, v2, v3, rfl, sH⟩
      refine ⟨sH _ _ upd_same, ?_⟩
      have sA := same_lock e1 sH
      rw [show ks.take kvs.length = ks by rw [← lk, List.take_length]]
      generalize upd H' d1 (.dK kvs) = H2 at *
      fail "rd"
      intro p n_p
      generalize g_H3 : upd _ p _ = H3
      obtain ⟨s_H3, e_p⟩ := gen_new n_p g_H3
      clear g_H3
      exact k p H3 ks (sA.trans s_H3) nk offk (fun z m => hNM z (sub z m)) e_p

abbrev s_law : Stmt := top 37
theorem sc_law : FnScope ["_law_script", "_law_bag_here", "_law_names_here", "_law_one", "_law_other", "_law_more", "_law_name", "_law_top_here", "_law_bottom", "_law_left", "_law_prices", "_law_handed_here", "_law_turn", "_law_kept", "_law_told", "_law_spot"] ["_law_script"] (defScope s_law) := ⟨rfl, rfl, rfl, by decide +kernel, rfl, by decide +kernel, by decide +kernel⟩
theorem sumF_red2 {s : Int} {f g : Fm} (rf : RedF f) (rg : ∀ z, 0 < (g z).2) : RedF (sumF s f g) := fun z => nrm_red (Int.mul_ne_zero (by have := (rf z).pos; omega) (by have := rg z; omega))
theorem FormBy.putD {ca : Nat → Addr} {H H' : Hp} {p d e : Addr} {N : List Str} {f : Fm} {kvs : List (Key × V)} (h : FormBy ca H p d N f) (h2 : FormBy ca H p e N f) (ee : H e = some (.dK kvs)) (k : Keep e H H') : FormBy ca H' p d N f ∧ FormBy ca H' p e N f := by
  obtain ⟨dx, sd, a, F, n⟩ := h
  obtain ⟨dy, se, b, G, m⟩ := h2
  rw [a] at b
  cases b
  have a' := k _ _ a (ne_of a ee fun z => nomatch z)
  exact ⟨⟨dx, sd, a', F.putD ee m k, n⟩, ⟨dx, sd, a', F.putD ee m k, m⟩⟩
theorem PT.putD {ca : Nat → Addr} {H H' : Hp} {d e : Addr} {M : List Str} {g : Str → Option (Int × Int)} {kvs : List (Key × V)} (h : PT ca H d M g) (ee : H e = some (.dK kvs)) (n : d ≠ e) (k : Keep e H H') : PT ca H' d M g :=
  let ⟨ks, q, a, b, c⟩ := h; ⟨ks, k _ _ q n, a, fun z v y => let ⟨x, w, r⟩ := b z v y; ⟨x, w, r.keep ee nd k⟩, c⟩
theorem TP.putD {H H' : Hp} {d e : Addr} {M : List Str} {pf : Fm} {kvs : List (Key × V)} (h : TP H d M pf) (ee : H e = some (.dK kvs)) (n : d ≠ e) (k : Keep e H H') : TP H' d M pf :=
  let ⟨ks, q, a, b⟩ := h; ⟨ks, k _ _ q n, a, fun z m => let ⟨t, y, w⟩ := b z m; ⟨t, y, k _ _ w (ne_of w ee fun z => nomatch z)⟩⟩
theorem TP.put {H : Hp} {d t : Addr} {M : List Str} {pf : Fm} {kvs : List (Key × V)} {y : Str} {x : Int × Int} (e : H d = some (.dK kvs)) (k : KOk M kvs) (a : ∀ z ∈ M, ∃ t, valV kvs (.inr z) = some (.ref t) ∧ H t = some (.tup [.int (pf z).1, .int (pf z).2])) (hy : y ∈ M) (ht : H t = some (.tup [.int x.1, .int x.2])) :
    TP (upd H d (.dK (putK kvs (.inr y) (.ref t)))) d M (setF pf y x) := by
  refine ⟨_, upd_same, k.put hy _, fun z m => ?_⟩
  rw [valV_put]
  unfold setF
  by_cases c : (Sum.inr z : Key) = Sum.inr y
  · rw [if_pos c, if_pos (Sum.inr.inj c)]
    refine ⟨t, rfl, ?_⟩
    rw [upd_ne (ne_of ht e fun z => nomatch z)]
    exact ht
  · rw [if_neg c, if_neg fun q => c (by rw [q])]
    obtain ⟨u, h1, h2⟩ := a z m
    refine ⟨u, h1, ?_⟩
    rw [upd_ne (ne_of h2 e fun z => nomatch z)]
    exact h2
theorem ok_law {f : Addr} {fd : FuncData} (F : Fun K "law" "law" s_law f fd) (T : Txt K mg ca) (O__law_bag : Own P w K mg base 1 "_law_bag" ["_law_script"] (sp_l_bag K ca)) (O__law_names : Own P w K mg base 2 "_law_names" ["_law_bag_here", "_law_count", "_law_words"] (sp_l_names K ca)) (O__law_shares : Own P w K mg base 4 "_law_shares" ["_law_bag_here", "_law_names_here"] (sp_l_shares K ca)) (O__law_handed : Own P w K mg base 3 "_law_handed" ["_law_bag_here", "_law_shares_here"] (sp_l_handed K ca)) (O__law_draw : Own P w K mg base 1 "_law_draw" ["_law_bag_here", "_law_size"] (sp_l_draw K ca)) (O__law_sum : Own P w K mg base 3 "_law_sum" ["_law_one", "_law_other", "_law_sign"] (sp_l_sum K ca)) (O__law_order_right : Own P w K mg base 11 "_law_order_right" ["_law_left", "_law_right", "_law_one", "_law_other", "_law_names_here"] (sp_l_order_right K ca)) (O__law_price : Own P w K mg base 3 "_law_price" ["_law_bag_here"] (sp_l_price K ca)) (O__law_pick : Own P w K mg base 2 "_law_pick" ["_law_bag_here", "_law_items"] (sp_l_pick K ca)) (O__law_refused_right : Own P w K mg base 8 "_law_refused_right" ["_law_bag_here", "_law_left", "_law_handed_here"] (sp_l_refused_right K ca)) (O__law_bad_names : Own P w K mg base 8 "_law_bad_names" ["_law_bag_here", "_law_names_here"] (sp_l_bad_names K ca)) (O__law_share : Own P w K mg base 3 "_law_share" ["_law_bag_here"] (sp_l_share K ca)) (O__law_value : Own P w K mg base 3 "_law_value" ["_law_shares_here", "_law_prices"] (sp_l_value K ca)) (O_Form_1 : OwnI P w K mg base 5 "Form" (ca 3) ["self", "shares"] [] (sp_Form_init K ca)) (O_Form_0 : OwnI P w K mg base 5 "Form" (ca 3) ["self", "shares"] [.non] (sp_Form_init K ca)) (O_Ratio_2 : OwnI P w K mg base 1 "Ratio" (ca 2) ["self", "top", "bottom"] [] (sp_Ratio_init K ca)) (O_Ratio_1 : OwnI P w K mg base 1 "Ratio" (ca 2) ["self", "top", "bottom"] [.int 1] (sp_Ratio_init K ca)) (O_Form_at : OwnM P w K mg base 6 (ca 3) "at" ["self", "prices"] (sp_Form_at K ca)) (O_Form_names : OwnM P w K mg base 1 (ca 3) "names" ["self"] (sp_Form_names K ca)) : FnOk P w K mg base (L2N.CX P w) 12 f fd ["_law_script"] (sp_law K ca) := by
  refine okN F sc_law (fun vs H Q E h => ?_) (fun cdv A outer s H vs Q E hr h => ?_)
  · obtain ⟨_, _, rfl, _⟩ := h
    rfl
  · obtain ⟨s0, ns, rfl, hs, k⟩ := h
    refine ⟨_, pss_cons (ps_set (i := 1) sc_law.nd rfl (Or.inl rfl) (pe_own O__law_bag (hr.mono (by decide)) rfl pas0 (pa_cons (pv 0) pa_nil))) (pss_cons (ps_set (i := 2) sc_law.nd rfl (Or.inl rfl) (pe_own O__law_names (hr.mono (by decide)) rfl pas0 (pa_cons (pv 1) (pa_cons (pe_op op_add pe_int (pe_own O__law_draw (hr.mono (by decide)) rfl pas0 (pa_cons (pv 1) (pa_cons pe_int pa_nil)))) (pa_cons (pe_lst (pa_cons pe_str (pa_cons pe_str (pa_cons pe_str (pa_cons pe_str pa_nil))))) pa_nil))))) (pss_cons (ps_set (i := 3) sc_law.nd rfl (Or.inl rfl) (pe_own O__law_shares (hr.mono (by decide)) rfl pas0 (pa_cons (pv 1) (pa_cons (pv 2) pa_nil)))) (pss_cons (ps_set (i := 4) sc_law.nd rfl (Or.inl rfl) (pe_own O__law_shares (hr.mono (by decide)) rfl pas0 (pa_cons (pv 1) (pa_cons (pv 2) pa_nil)))) (Evl.pss_cut (ps_if (pt_cmpR op_eq (pe_own O__law_draw (hr.mono (by decide)) rfl pas0 (pa_cons (pv 1) (pa_cons pe_int pa_nil))) pe_int (nomark _)) (pss_cons (ps_set (i := 5) sc_law.nd rfl (Or.inl rfl) pe_dnewK) (pss_cons (ps_for (passes_of rfl) rfl (pi_list (pv 2)) (pg_name (i := 6) sc_law.nd rfl (Or.inl rfl)) (pss_cons (ps_asg (pe_own O__law_share (hr.mono (by decide)) rfl pas0 (pa_cons (pv 1) pa_nil)) (pg_tup rfl (pgs_cons (pg_name (i := 7) sc_law.nd rfl (Or.inl rfl)) (pgs_cons (pg_name (i := 8) sc_law.nd rfl (Or.inl rfl)) pgs_nil)))) (pss_one (ps_dput (hu_of (hr.mono (Nat.zero_le _))) (pv 5) (pv 6) (pe_tup (pa_cons (pe_op op_mulI (pe_callB call_abs (by rfl) T.b_abs (by decide +kernel) (pa_cons (pv 7) pa_nil)) (pe_own O__law_draw (hr.mono (by decide)) rfl pas0 (pa_cons (pv 1) (pa_cons pe_int pa_nil)))) (pa_cons (pv 8) pa_nil))) rfl)))) (pss_one (ps_set (i := 4) sc_law.nd rfl (Or.inl rfl) (pe_own O__law_sum (hr.mono (by decide)) rfl pas0 (pa_cons (pv 3) (pa_cons (pv 5) (pa_cons pe_int pa_nil)))))))) pss_nil) (pss_cons (ps_set (i := 9) sc_law.nd rfl (Or.inr rfl) (pe_owni O_Form_1 (hr.mono (by decide)) rfl pas0 (pa_cons (pe_own O__law_handed (hr.mono (by decide)) rfl pas0 (pa_cons (pv 1) (pa_cons (pv 3) pa_nil))) pa_nil))) (pss_cons (ps_if (pt_not (pt_val (pe_own O__law_order_right (hr.mono (by decide)) rfl pas0 (pa_cons (pv 9) (pa_cons (pe_owni O_Form_1 (hr.mono (by decide)) rfl pas0 (pa_cons (pe_own O__law_handed (hr.mono (by decide)) rfl pas0 (pa_cons (pv 1) (pa_cons (pv 4) pa_nil))) pa_nil)) (pa_cons (pv 3) (pa_cons (pv 4) (pa_cons (pv 2) pa_nil)))))))) (pss_one (ps_ret pe_bl)) pss_nil) (pss_cons (ps_set (i := 10) sc_law.nd rfl (Or.inl rfl) pe_dnewK) (pss_cons (ps_for (passes_of rfl) rfl (pi_list (pe_op op_cat (pv 2) (pe_lst (pa_cons pe_str pa_nil)))) (pg_name (i := 6) sc_law.nd rfl (Or.inl rfl)) (pss_one (ps_dput (hu_of (hr.mono (Nat.zero_le _))) (pv 10) (pv 6) (pe_own O__law_price (hr.mono (by decide)) rfl pas0 (pa_cons (pv 1) pa_nil)) rfl))) (pss_cons (ps_set (i := 11) sc_law.nd rfl (Or.inl rfl) (pe_own O__law_handed (hr.mono (by decide)) rfl pas0 (pa_cons (pv 1) (pa_cons (pv 10) pa_nil)))) (pss_cons (ps_for (passes_of rfl) rfl (pi_list (pe_lk (pe_lc (own := [("_law_name", 6)]) (g := gName 6) rfl sc_law.nd (pi_keys (pv 11)) (blkOk_by (N := ["_law_script", "_law_bag_here", "_law_names_here", "_law_one", "_law_other", "_law_more", "_law_name", "_law_top_here", "_law_bottom", "_law_left", "_law_prices", "_law_handed_here", "_law_turn", "_law_kept", "_law_told", "_law_spot"]) (sc := defScope s_law) (by decide +kernel)) (fun _ _ _ _ _ => pg_name (i := 6) sc_law.nd rfl (Or.inl rfl)) (fun _ _ _ _ _ => pts_one (pt_cmpR (show OpR _ _ (rIn K true) from op_notIn_seq) (pv 6) (pe_ownm0 O_Form_names (pv 9) (hr.mono (by decide)) pas0) (by with_unfolding_all rfl))) (fun _ _ _ _ _ => pv 6)))) (pg_name (i := 6) sc_law.nd rfl (Or.inl rfl)) (pss_one (ps_dput (hu_of (hr.mono (Nat.zero_le _))) (pv 11) (pv 6) (pe_un un_neg pe_int) rfl))) (pss_cons (ps_for (passes_of rfl) rfl (pi_range1 rfl T.b_range (pa_cons pe_int pa_nil)) (pg_name (i := 12) sc_law.nd rfl (Or.inl rfl)) (pss_cons (ps_set (i := 13) sc_law.nd rfl (Or.inl rfl) (pe_callTy call_dictD (by rfl) T.b_dict (by decide +kernel) (pa_cons (pv 11) pa_nil))) (pss_cons (ps_set (i := 14) sc_law.nd rfl (Or.inl rfl) (pe_ownm O_Form_at (pv 9) (hr.mono (by decide)) pas0 (pa_cons (pv 11) pa_nil))) (pss_cons (ps_if (PW.pt (pw_or (pt_cmpR (op_neD (Room.units (hr.mono (Nat.zero_le _)))) (pe_tup (pa_cons (pe_fld (pv 14) rfl) (pa_cons (pe_fld (pv 14) rfl) pa_nil))) (pe_own O__law_value (hr.mono (by decide)) rfl pas0 (pa_cons (pv 3) (pa_cons (pv 10) pa_nil))) (nomark _)) (pw_or1 (pt_cmpR (op_ne_copy (Nat.lt_of_succ_lt (hu_of (hr.mono (Nat.zero_le _))))) (pv 11) (pv 13) (nomark _))))) (pss_one (ps_ret pe_bl)) pss_nil) (pss_cons (ps_set (i := 15) sc_law.nd rfl (Or.inl rfl) (pe_own O__law_pick (hr.mono (by decide)) rfl pas0 (pa_cons (pv 1) (pa_cons (pv 2) pa_nil)))) (pss_one (ps_if (PW.pt (pw_and (pt_cmpR op_gt (pv 12) pe_int (nomark _)) (pw_and1 (pt_cmpR op_in_seq (pv 15) (pe_ownm0 O_Form_names (pv 9) (hr.mono (by decide)) pas0) (by with_unfolding_all rfl))))) (pss_cons (ps_dput (hu_of (hr.mono (Nat.zero_le _))) (pv 10) (pv 15) (pe_own O__law_price (hr.mono (by decide)) rfl pas0 (pa_cons (pv 1) pa_nil)) rfl) (pss_one (ps_dput (hu_of (hr.mono (Nat.zero_le _))) (pv 11) (pv 15) (pe_owni O_Ratio_2 (hr.mono (by decide)) rfl pas0 (pa_cons (pe_ix ix_tup (pe_dget (hu_of (hr.mono (Nat.zero_le _))) (pv 10) (pv 15) (fun _ _ => rfl)) pe_int (fun _ _ => rfl)) (pa_cons (pe_ix ix_tup (pe_dget (hu_of (hr.mono (Nat.zero_le _))) (pv 10) (pv 15) (fun _ _ => rfl)) pe_int (fun _ _ => rfl)) pa_nil))) rfl))) pss_nil))))))) (pss_one (ps_ret (pe_and (pe_own O__law_refused_right (hr.mono (by decide)) rfl pas0 (pa_cons (pv 1) (pa_cons (pv 9) (pa_cons (pv 11) pa_nil)))) (pe_one (pe_own O__law_bad_names (hr.mono (by decide)) rfl pas0 (pa_cons (pv 1) (pa_cons (pv 2) pa_nil)))))))))))))))))), ?_⟩
    fail "rd"
    refine ⟨s0, ns, rfl, hs, fun L bag H1 nb nL s1 B1 => ?_⟩
    fail "rd"
    refine ⟨L, B1, by decide, by decide, fun c H2 c0 c1 k2 B2 => ?_⟩
    fail "rd"
    intro lw n_lw
    generalize g_H3 : upd _ lw _ = H3
    obtain ⟨s_H3, e_lw⟩ := gen_new n_lw g_H3
    clear g_H3
    have B3 := B2.same s_H3
    obtain ⟨n, rfl⟩ := Int.eq_ofNat_of_zero_le c0
    fail "rd"
    refine ⟨bag, lw, 1 + n, ["silk", "form", "names", "share"], rfl, L, B3, e_lw, B2.ne n_lw, namesB_ok (by decide +kernel), by simp, by simp, by omega, by omega, fun N ln H4 hlen hok n4 k4 B4 e4 => ?_⟩
    have hN : Uni N := ⟨by omega, hok⟩
    have n7 : N.length ≤ 6 := by omega
    have lb : ln ≠ bag := B3.ne n4
    fail "rd"
    refine ⟨bag, ln, N, rfl, L, B4, e4, lb, hN, fun f d1 H5 rf sf hT1 k5 B5 n5 => ?_⟩
    have e4 := k5 _ _ e4 lb
    have db1 : d1 ≠ bag := B4.ne n5
    fail "rd"
    refine ⟨bag, ln, N, rfl, L, B5, e4, lb, hN, fun g0 d20 H6 rg0 sg0 hT20 k6 B6 n6 => ?_⟩
    have e4 := k6 _ _ e4 lb
    obtain ⟨xb5, hxb5⟩ := B5.lst
    have hT1 := hT1.put hxb5 k6
    clear k2 k4 k5 k6 s_H3 n_lw e_lw B1 B2 B3 B4 B5 hxb5 n6 n4 s1 nb nL n5
    refine ⟨fun σ' H' => ∃ (d2 : Addr) (g : Fm) (v5 v6 v7 v8 : Option V), σ' = [some (.ref s0), some (.ref bag), some (.ref ln), some (.ref d1), some (.ref d2), v5, v6, v7, v8, none, none, none, none, none, none, none] ∧ Bag H' L bag ∧ H' ln = some (.lst (N.map V.str)) ∧ TabAt H' d1 N f ∧ TabAt H' d2 N g ∧ RedF g ∧ SzF 400 g, ?_, ?_⟩
    · fail "rd"
      refine ⟨L, B6, by decide, by decide, fun c H7 c0 c1 k7 B7 => ?_⟩
      obtain ⟨xb6, hxb6⟩ := B6.lst
      have e4 := k7 _ _ e4 lb
      have hT1 := hT1.put hxb6 k7
      have hT20 := hT20.put hxb6 k7
      fail "rd"
      refine iteI (fun y => ?_) (fun y => ?_)
      · fail "rd"
        intro dm n_dm
        generalize g_H8 : upd _ dm _ = H8
        obtain ⟨s_H8, e_dm⟩ := gen_new n_dm g_H8
        clear g_H8
        have ndm : d1 ≠ dm := hT1.ne n_dm
        have ndm2 : d20 ≠ dm := hT20.ne n_dm
        have B8 := B7.same s_H8
        have e4 := s_H8 _ _ e4
        have hT1 := hT1.same s_H8
        have dmb := B7.ne n_dm
        have dmL := B7.neL n_dm
        have dml : ln ≠ dm := by
          have e5 := k7
          exact ne_of_none (by assumption) n_dm
        fail "rd"
        refine for_list (D := ⟨_, _, fun _ _ => True, fun _ _ => True⟩) (K := K) (a := ln) (xs := N.map V.str) (fun i σ' H' => ∃ (v6 v7 v8 : Option V) (g1 : Fm), σ' = [some (.ref s0), some (.ref bag), some (.ref ln), some (.ref d1), some (.ref d20), some (.ref dm), v6, v7, v8, none, none, none, none, none, none, none] ∧ Bag H' L bag ∧ H' ln = some (.lst (N.map V.str)) ∧
          TabAt H' d1 N f ∧ TabAt H' d20 N g0 ∧ TabAt H' dm N g1 ∧ (∀ z, 0 < (g1 z).2) ∧ SzF 80 g1) ⟨_, _, _, fun _ => (0, 1), rfl, B8, e4, hT1, hT20.same s_H8, ⟨[], e_dm, .nil fun _ => rfl⟩, fun _ => by show (0 : Int) < 1; decide, zeroF_sz⟩ (fun i σ' H' _ ⟨_, _, _, _, _, _, q, _⟩ => SqL.of q) ?_ ?_
        · rintro i x σ' H9 hx ⟨v6, v7, v8, g1, rfl, B9, e4, hT1, hT20, hTm, pg, zg⟩
          obtain ⟨y, hy, rfl⟩ : ∃ y, N[i]? = some y ∧ V.str y = x := by
            rw [List.getElem?_map] at hx
            exact Option.map_eq_some_iff.mp hx
          have hyN := List.mem_of_getElem? hy
          fail "rd"
          refine ⟨L, B9, fun x t1 H10 rx zx1 zx2 k10 B10 n10 e10 => ?_⟩
          obtain ⟨xb9, hxb9⟩ := B9.lst
          have e4 := k10 _ _ e4 lb
          have hT1 := hT1.put hxb9 k10
          have hT20 := hT20.put hxb9 k10
          have hTm := hTm.put hxb9 k10
          fail "rd"
          refine ⟨L, B10, by decide, by decide, fun c H11 c0 c1 k11 B11 => ?_⟩
          obtain ⟨xb10, hxb10⟩ := B10.lst
          have e4 := k11 _ _ e4 lb
          have hT1 := hT1.put hxb10 k11
          have hT20 := hT20.put hxb10 k11
          have hTm := hTm.put hxb10 k11
          have zc : Sz 2 c := by show c.natAbs < 2 ^ 2; omega
          have za : Sz 70 (if x.1 < 0 then -x.1 else x.1) := by
            split
            · exact zx1.neg
            · exact zx1
          have m1 : IntMulOk (if x.1 < 0 then -x.1 else x.1) c := za.mok zc
          fail "rd"
          obtain ⟨w, hw⟩ : ∃ w : Int, (if x.1 < 0 then -x.1 else x.1) * c = w := ⟨_, rfl⟩
          have zw : Sz 72 w := by rw [← hw]; exact za.mul zc
          intro t2 n_t2
          generalize g_H12 : upd _ t2 _ = H12
          obtain ⟨s_H12, e_t2⟩ := gen_new n_t2 g_H12
          clear g_H12
          have e_t2 : H12 t2 = some (.tup [.int w, .int x.2]) := by rw [← hw]; exact e_t2
          have e4 := s_H12 _ _ e4
          have hT1 := hT1.same s_H12
          have hT20 := hT20.same s_H12
          obtain ⟨kvm, hdm, tm⟩ := hTm.same s_H12
          have B12 := B11.same s_H12
          fail "rd"
          refine ⟨dm, _, rfl, DPut.k (k := Sum.inr y) hdm (tm.k.line hN), ?_⟩
          have T13 := Tab.setT (x := (w, x.2)) tm hdm hyN e_t2
          generalize gh : upd H12 dm (.dK (putK kvm (.inr y) (.ref t2))) = H13 at T13 ⊢
          obtain ⟨k13, e13⟩ := gen_put gh
          clear gh
          obtain ⟨bd1, bd2⟩ := B12.ned hdm
          refine ⟨_, _, _, setF g1 y (w, x.2), rfl, B12.keep k13 bd1 bd2, k13 _ _ e4 (ne_of e4 hdm fun z => nomatch z), hT1.putD hdm ndm k13, hT20.putD hdm ndm2 k13, T13, fun z => ?_, setF_sz zg ⟨zw.mono, zx2.mono⟩⟩
          unfold setF
          split
          · exact rx.pos
          · exact pg z
        · rintro σ' H9 ⟨v6, v7, v8, g1, rfl, B9, e4, hT1, hT20, hTm, pg, zg⟩
          fail "rd"
          refine ⟨d1, dm, 1, N, f, g1, rfl, .inl rfl, hT1, hTm, rf, pg, sf.mono, zg.mono, hN, fun d2 H10 n10 s10 hT2 => ?_⟩
          refine ⟨d2, sumF 1 f g1, _, _, _, _, rfl, B9.same s10, s10 _ _ e4, hT1.same s10, hT2, sumF_red2 rf pg, fun z => ?_⟩
          have nz : (f z).2 * (g1 z).2 ≠ 0 := Int.mul_ne_zero (by have := (rf z).pos; omega) (by have := pg z; omega)
          exact ⟨((((sf z).1.mul (zg z).2).add ((Sz.one.mul (zg z).1).mul (sf z).2)).le (nrm_le1 nz)).mono (by decide), (((sf z).2.mul (zg z).2).le (nrm_le2 nz)).mono (by decide)⟩
      · exact ⟨d20, g0, _, _, _, _, rfl, B7, e4, hT1, hT20, rg0, sg0.mono⟩
    rintro _ H7 ⟨d2, g, v5, v6, v7, v8, rfl, B7, e4, hT1, hT2, rg, sg⟩
    obtain ⟨kv0, hd1, t1⟩ := id hT1
    fail "rd"
    refine ⟨bag, d1, N, f, kv0, rfl, L, B7, hd1, t1, rf, sf.mono, hN, fun hd kvs H8 ehd tk _ k8 B8 n8 => ?_⟩
    obtain ⟨xb7, hxb7⟩ := B7.lst
    have e4 := k8 _ _ e4 lb
    have hT1 := hT1.put hxb7 k8
    have hT2 := hT2.put hxb7 k8
    fail "rd"
    intro p dxp n_p nd_p ne_p
    refine form_in n_p nd_p ne_p hN (.inr ⟨hd, kvs, rfl, ehd, tk⟩) fun dp H9 ndp s9 ep fp => ⟨rfl, ?_⟩
    have B9 := B8.same s9
    have hT1 := hT1.same s9
    have hT2 := hT2.same s9
    have e4 := s9 _ _ e4
    have hF : FormAt ca H9 p N f := ⟨dxp, dp, ep, fp⟩
    have epd : H9 p = some (.ins (ca 3) dxp [("_shares", .ref dp)]) := ep
    clear B8 ehd tk s9 n_p nd_p ne_p ndp ep fp hd1 t1 k8 n8 hxb7 B7
    obtain ⟨kv1, hd2, t2⟩ := id hT2
    fail "rd"
    refine ⟨bag, d2, N, g, kv1, rfl, L, B9, hd2, t2, rg, sg.mono, hN, fun he kvs2 H10 ehd tk _ k10 B10 n10 => ?_⟩
    obtain ⟨xb9, hxb9⟩ := B9.lst
    have hT1 := hT1.put hxb9 k10
    have hT2 := hT2.put hxb9 k10
    have hF : FormAt ca H10 p N f := hF.put hxb9 k10
    have epd := k10 _ _ epd (ne_of epd hxb9 fun z => nomatch z)
    have e4 := k10 _ _ e4 lb
    clear k10 n10 hxb9 B9 hd2 t2
    fail "rd"
    intro q dxq n_q nd_q ne_q
    refine form_in n_q nd_q ne_q hN (.inr ⟨he, kvs2, rfl, ehd, tk⟩) fun dq H11 ndq s11 eq fq => ⟨rfl, ?_⟩
    have B11 := B10.same s11
    have hT1 := hT1.same s11
    have hT2 := hT2.same s11
    have e4 := s11 _ _ e4
    have hF := hF.same s11
    have epd := s11 _ _ epd
    have hG : FormAt ca H11 q N g := ⟨dxq, dq, eq, fq⟩
    clear B10 ehd tk s11 n_q nd_q ne_q ndq eq fq
    fail "rd"
    refine ⟨p, q, d1, d2, ln, N, f, g, rfl, hF, hG, hT1, hT2, e4, hN, sf.mono, sg.mono, fun H12 s12 => ?_⟩
    have B12 := B11.same s12
    have hT1 := hT1.same s12
    have e4 := s12 _ _ e4
    have hF := hF.same s12
    have epd := s12 _ _ epd
    clear hG hT2 s12 B11
    fail "rd"
    have hS : FormSh ca H12 dp N f := by
      obtain ⟨a, b, e, F⟩ := hF
      rw [epd] at e
      cases e
      exact F
    intro pd n_pd
    generalize g_H13 : upd _ pd _ = H13
    obtain ⟨s_H13, e_pd⟩ := gen_new n_pd g_H13
    clear g_H13
    have B13 := B12.same s_H13
    have ndp1 : d1 ≠ pd := hT1.ne n_pd
    have ndp2 : dp ≠ pd := by
      obtain ⟨kv, e, _⟩ := hS
      exact ne_of_none e n_pd
    have hT1 := hT1.same s_H13
    have e4 := s_H13 _ _ e4
    have hS := hS.same s_H13
    have epd := s_H13 _ _ epd
    clear hF
    fail "rd"
    intro lz n_lz
    generalize g_H14 : upd _ lz _ = H14
    obtain ⟨s_H14, e_lz⟩ := gen_new n_lz g_H14
    clear g_H14
    refine ⟨ln, lz, _, _, rfl, rfl, s_H14 _ _ e4, e_lz, line_le (by rw [List.length_map]; simp; omega), ?_⟩
    intro lm n_lm
    generalize g_H15 : upd _ lm _ = H15
    obtain ⟨s_H15, e_lm⟩ := gen_new n_lm g_H15
    clear g_H15
    have s15 := s_H14.trans s_H15
    have B15 := B13.same s15
    have hT1 := hT1.same s15
    have e4 := s15 _ _ e4
    have hS := hS.same s15
    have epd := s15 _ _ epd
    have e_pd := s15 _ _ e_pd
    have lmb : lm ≠ bag := (B13.same s_H14).ne n_lm
    obtain ⟨M, hMd⟩ : ∃ M, M = N ++ [Str.ofString "zzzzzzzzz"] := ⟨_, rfl⟩
    have e_lm : H15 lm = some (.lst (M.map V.str)) := by rw [hMd, List.map_append]; exact e_lm
    have hM : Uni M := ⟨by rw [hMd, List.length_append]; simp; omega, fun z m => by
      rw [hMd] at m
      rcases List.mem_append.mp m with m | m
      · exact hN.ok z m
      · rw [List.mem_singleton.mp m]
        exact nameB_ok (by decide +kernel)⟩
    have subM : ∀ z ∈ N, z ∈ M := fun z m => by rw [hMd]; exact List.mem_append_left _ m
    clear s_H13 s_H14 s_H15 s15 n_lm n_lz e_lz B13 B12 n_pd
    refine ⟨_, rfl, ⟨_, SqL.of e_lm⟩, for_list (D := ⟨_, _, fun _ _ => True, fun _ _ => True⟩) (K := K) (a := lm) (xs := M.map V.str) (fun i σ' H' => ∃ (d2' : V) (v6 v7 v8 v9 : Option V) (pf : Fm) (kv : List (Key × V)), σ' = [some (.ref s0), some (.ref bag), some (.ref ln), some (.ref d1), some d2', v6, v7, v8, v9, some (.ref p), some (.ref pd), none, none, none, none, none] ∧ Bag H' L bag ∧ H' ln = some (.lst (N.map V.str)) ∧ H' lm = some (.lst (M.map V.str)) ∧
      TabAt H' d1 N f ∧ FormSh ca H' dp N f ∧ H' p = some (.ins (ca 3) dxp [("_shares", .ref dp)]) ∧ H' pd = some (.dK kv) ∧ Tab M (TupF pf H') (ShZ pf) kv ∧ RedF pf ∧ (∀ z, 0 ≤ (pf z).1) ∧ SzF 70 pf ∧ ∀ z ∈ M.take i, ∃ v, valV kv (.inr z) = some v)
      ⟨_, _, _, _, _, fun _ => (0, 1), [], rfl, B15, e4, e_lm, hT1, hS, epd, e_pd, .nil fun _ => rfl, fun _ => red01, fun _ => Int.le_refl _, zeroF_sz, fun z m => nomatch m⟩ (fun i σ' H' _ ⟨_, _, _, _, _, _, _, _, _, _, q, _⟩ => SqL.of q) ?_ ?_⟩
    · rintro i x σ' H16 hx ⟨d2', v6, v7, v8, v9, pf, kv, rfl, B16, e4, e_lm, hT1, hS, epd, e_pd, tp, rp, pp, zp, all⟩
      obtain ⟨y, hy, rfl⟩ : ∃ y, M[i]? = some y ∧ V.str y = x := by
        rw [List.getElem?_map] at hx
        exact Option.map_eq_some_iff.mp hx
      have hyM := List.mem_of_getElem? hy
      fail "rd"
      refine ⟨L, B16, fun x t1 H17 rx nx zx1 zx2 k17 B17 n17 e17 => ?_⟩
      obtain ⟨xb, hxb⟩ := B16.lst
      have e4 := k17 _ _ e4 lb
      have e_lm := k17 _ _ e_lm lmb
      have hT1 := hT1.put hxb k17
      have hS := hS.putL hxb k17
      have epd := k17 _ _ epd (ne_of epd hxb fun z => nomatch z)
      have e_pd := k17 _ _ e_pd (ne_of e_pd hxb fun z => nomatch z)
      have tp : Tab M (TupF pf H17) (ShZ pf) kv := tp.mono (fun _ _ => TupF.keep hxb (fun _ z => nomatch z) k17) fun _ z => z
      fail "rd"
      refine ⟨pd, _, rfl, DPut.k (k := Sum.inr y) e_pd (tp.k.line hM), ?_⟩
      obtain ⟨kvT, eT, T18⟩ := Tab.setT (x := x) tp e_pd hyM e17
      rw [upd_same] at eT
      cases eT
      generalize gh : upd H17 pd (.dK (putK kv (.inr y) (.ref t1))) = H18 at T18 ⊢
      obtain ⟨k18, e18⟩ := gen_put gh
      clear gh
      obtain ⟨bd1, bd2⟩ := B17.ned e_pd
      refine ⟨_, _, _, _, _, setF pf y x, _, rfl, B17.keep k18 bd1 bd2, k18 _ _ e4 (ne_of e4 e_pd fun z => nomatch z), k18 _ _ e_lm (ne_of e_lm e_pd fun z => nomatch z), hT1.putD e_pd ndp1 k18, hS.putD e_pd ndp2 k18, k18 _ _ epd (ne_of epd e_pd fun z => nomatch z), e18, T18, setF_red rp rx, fun z => ?_, setF_sz zp ⟨zx1, zx2⟩, fun z m => ?_⟩
      · unfold setF
        split
        · exact nx
        · exact pp z
      · rw [valV_put]
        by_cases c : (Sum.inr z : Key) = Sum.inr y
        · rw [if_pos c]
          exact ⟨_, rfl⟩
        · rw [if_neg c]
          rw [List.take_succ, hy] at m
          rcases List.mem_append.mp m with m | m
          · exact all z m
          · exact absurd (by rw [show z = y by simpa using m]) c
    · rintro σ' H16 ⟨d2', v6, v7, v8, v9, pf, kv, rfl, B16, e4, e_lm, hT1, hS, epd, e_pd, tp, rp, pp, zp, all⟩
      rw [List.length_map, List.take_length] at all
      clear e_lm hMd
      fail "rd"
      refine ⟨bag, pd, M, pf, kv, rfl, L, B16, e_pd, tp, rp, zp.mono, hM, fun dh kvh H17 ehd tk pres k17 B17 n17 => ?_⟩
      obtain ⟨xb, hxb⟩ := B16.lst
      have hTP : TP H16 pd M pf := ⟨kv, e_pd, tp.k, fun z m => by
        obtain ⟨v, hv⟩ := all z m
        obtain ⟨t, rfl, ht⟩ := tp.r z v hv
        exact ⟨t, hv, ht⟩⟩
      have npd : pd ≠ dh := ne_of_none e_pd n17
      have ndh : dp ≠ dh := by
        obtain ⟨kk, e, _⟩ := hS
        exact ne_of_none e n17
      have nd1 : d1 ≠ dh := hT1.ne n17
      have dhb : dh ≠ bag := B16.ne n17
      have hTP : TP H17 pd M pf := by
        obtain ⟨kk, e, a, b⟩ := hTP
        exact ⟨kk, k17 _ _ e (ne_of e hxb fun z => nomatch z), a, fun z m => let ⟨t, q, w⟩ := b z m; ⟨t, q, k17 _ _ w (ne_of w hxb fun z => nomatch z)⟩⟩
      have e4 := k17 _ _ e4 lb
      have hT1 := hT1.put hxb k17
      have hS := hS.putL hxb k17
      have epd := k17 _ _ epd (ne_of epd hxb fun z => nomatch z)
      have allh : ∀ z ∈ M, ∃ v, valV kvh (.inr z) = some v := fun z m => pres z (all z m)
      obtain ⟨g, hg⟩ : ∃ g : Str → Option (Int × Int), g = fun z => (valV kvh (.inr z)).map fun _ => pf z := ⟨_, rfl⟩
      have hPT : PT ca H17 dh M g := ⟨kvh, ehd, tk.k, fun z v e => ⟨pf z, by rw [hg]; show (valV kvh (.inr z)).map _ = _; rw [e]; rfl, tk.r z v e⟩, fun z e => by rw [hg]; show (valV kvh (.inr z)).map _ = _; rw [e]; rfl⟩
      have gM : ∀ z ∈ M, g z = some (pf z) := fun z m => by
        obtain ⟨v, hv⟩ := allh z m
        rw [hg]
        show (valV kvh (.inr z)).map _ = _
        rw [hv]
        rfl
      have zg : SzP 90 g := fun z x e => by
        rw [hg] at e
        obtain ⟨v, _, rfl⟩ := Option.map_eq_some_iff.mp e
        exact ⟨(zp z).1.mono, (zp z).2.mono⟩
      clear hg pres all tp e_pd hxb k17 n17
      fail "rd"
      refine ⟨.inl ⟨dh, _, ehd, True.intro, fun od => ?_⟩⟩
      have hpl : upd H17 dh (.frz od (.dK kvh)) p = some (.ins (ca 3) dxp [("_shares", .ref dp)]) := une (ne_of epd ehd fun z => nomatch z) epd
      have hFl : FormAt ca (upd H17 dh (.frz od (.dK kvh))) p N f := ⟨dxp, dp, hpl, hS.putD ehd ndh keep_upd⟩
      refine ⟨_, rfl, dh, od, rfl, .inl ⟨kvh, upd_same, fun D hD => lc_names tk.k (fun i H' => Same (upd H17 dh (.frz od (.dK kvh))) H' ∧ ∃ ws : List Str, H' D = some (.lst (ws.map V.str)) ∧ ws.length ≤ i ∧ (∀ w ∈ ws, w ∈ M ∧ (f w).1 = 0)) ⟨same_upd hD, [], upd_same, Nat.le_refl _, fun w m => nomatch m⟩ (fun i H' _ s => s.1 _ _ upd_same) ?_ ?_⟩⟩
      · rintro i z v H' hi hz hv ⟨sH, ws, eD, lw, hw⟩
        have hpl := sH _ _ hpl
        fail "rd"
        refine ⟨p, N, f, rfl, hFl.same sH, hN, fun ys l H1 ny so hm h60 nl s1 hl => ?_⟩
        refine ⟨l, _, rfl, .inl (SqL.of hl), rfl, flat_strs, ?_⟩
        rw [inV_strs]
        fail "rd"
        have eD1 := s1 _ _ eD
        have li : i < kvh.length := (List.getElem?_eq_some_iff.mp hi).1
        have lk := tk.k.len
        have lM := hM.len
        show if (!decide (z ∈ ys)) = true then _ else _
        refine iteDn (fun c => ?_) (fun c => ?_)
        · fail "rd"
          refine ⟨_, eD1, Nat.lt_of_lt_of_le (show (ws.map V.str).length < 100 by rw [List.length_map]; omega) (line_le (by decide)), fun b o e => ?_, ws ++ [z], ?_, ?_, fun w m => ?_⟩
          · rw [upd_ne (ne_of_none e hD)]
            exact s1 _ _ (sH _ _ e)
          · rw [upd_same]
            simp
          · rw [List.length_append]
            exact Nat.succ_le_succ lw
          · rcases List.mem_append.mp m with m | m
            · exact hw w m
            · rw [List.mem_singleton.mp m]
              exact ⟨hz, Classical.byContradiction fun n => c ((hm z).mpr n)⟩
        · exact ⟨sH.trans s1, ws, eD1, by omega, hw⟩
      · rintro H' ⟨sH, ws, eD, lw, hw⟩
        refine ⟨sH _ _ upd_same, ?_⟩
        have sA := same_lock ehd sH
        have nDh : D ≠ dh := fun e => by rw [e, upd_same] at hD; cases hD
        have eD : upd H' dh (.dK kvh) D = some (.lst (ws.map V.str)) := by rw [upd_ne nDh]; exact eD
        have nDH : H17 D = none := by rw [upd_ne nDh] at hD; exact hD
        clear sH hFl hpl
        generalize upd H' dh (.dK kvh) = H18 at *
        have B18 := B17.same sA
        have hTP := hTP.same sA
        have hPT := hPT.same sA
        have e4 := sA _ _ e4
        have hT1 := hT1.same sA
        have hS := hS.same sA
        have epd := sA _ _ epd
        have Db : D ≠ bag := B17.ne nDH
        refine ⟨_, rfl, ⟨_, SqL.of eD⟩, for_list (D := ⟨_, _, fun _ _ => True, fun _ _ => True⟩) (K := K) (a := D) (xs := ws.map V.str) (fun i σ' H' => ∃ (d2' : V) (v6 v7 v8 v9 : Option V) (g : Str → Option (Int × Int)), σ' = [some (.ref s0), some (.ref bag), some (.ref ln), some (.ref d1), some d2', v6, v7, v8, v9, some (.ref p), some (.ref pd), some (.ref dh), none, none, none, none] ∧ Kp2 bag dh H18 H' ∧ Bag H' L bag ∧ PT ca H' dh M g ∧ (∀ z, (f z).1 ≠ 0 → z ∈ M → g z = some (pf z)) ∧ SzP 90 g)
          ⟨_, _, _, _, _, g, rfl, .same (Same.refl _), B18, hPT, fun z _ m => gM z m, zg⟩ (fun i σ' H' _ ⟨_, _, _, _, _, _, _, q, _⟩ => SqL.of (q _ _ eD Db nDh)) ?_ ?_⟩
        · rintro i x σ' H19 hx ⟨d2', v6, v7, v8, v9, g, rfl, q19, B19, hPT, gM, zg⟩
          obtain ⟨y, hy, rfl⟩ : ∃ y, ws[i]? = some y ∧ V.str y = x := by
            rw [List.getElem?_map] at hx
            exact Option.map_eq_some_iff.mp hx
          obtain ⟨hyM, hy0⟩ := hw y (List.mem_of_getElem? hy)
          obtain ⟨kk, ekk, kok, ha, hn⟩ := hPT
          fail "rd"
          refine ⟨dh, _, rfl, DPut.k (k := Sum.inr y) ekk (kok.line hM), ?_⟩
          have P20 := PT.put (x := (-1, 1)) (v := .int (-1)) ekk kok ha hn hyM (.inl ⟨rfl, rfl⟩)
          generalize gh : upd H19 dh (.dK (putK kk (.inr y) (.int (-1)))) = H20 at P20 ⊢
          obtain ⟨k20, e20⟩ := gen_put gh
          clear gh
          obtain ⟨bd1, bd2⟩ := B19.ned ekk
          refine ⟨_, _, _, _, _, _, rfl, q19.trans (.r k20), B19.keep k20 bd1 bd2, P20, fun z nz m => ?_, fun z x e => ?_⟩
          · unfold setP
            rw [if_neg fun e => nz (by rw [e]; exact hy0)]
            exact gM z nz m
          · unfold setP at e
            by_cases c : z = y
            · rw [if_pos c] at e
              cases e
              exact ⟨by show Sz 90 (-1); unfold Sz; decide, Sz.one.mono⟩
            · rw [if_neg c] at e
              exact zg z x e
        · rintro σ' H19 ⟨d2', v6, v7, v8, v9, g, rfl, q19, B19, hPT, gM, zg⟩
          obtain ⟨xb, hxb⟩ := B18.lst
          obtain ⟨kv18, e18, _⟩ : ∃ kv, H18 dh = some (.dK kv) ∧ True := ⟨_, sA _ _ ehd, True.intro⟩
          have e4 := q19 _ _ e4 lb (ne_of e4 e18 fun z => nomatch z)
          have hTP : TP H19 pd M pf := by
            obtain ⟨kk, e, a, b⟩ := hTP
            exact ⟨kk, q19 _ _ e (ne_of e hxb fun z => nomatch z) npd, a, fun z m => let ⟨t, q, w⟩ := b z m; ⟨t, q, q19 _ _ w (ne_of w hxb fun z => nomatch z) (ne_of w e18 fun z => nomatch z)⟩⟩
          have hT1 : TabAt H19 d1 N f := by
            obtain ⟨kk, e, t⟩ := hT1
            exact ⟨kk, q19 _ _ e (ne_of e hxb fun z => nomatch z) nd1, t.mono (fun z v ⟨tt, e1, w⟩ => ⟨tt, e1, q19 _ _ w (ne_of w hxb fun z => nomatch z) (ne_of w e18 fun z => nomatch z)⟩) fun _ z => z⟩
          have hF : FormBy ca H19 p dh N f := FormBy.k2 ⟨dxp, dp, epd, hS, ndh⟩ hxb e18 q19
          have hE : FormBy ca H19 p pd N f := by
            obtain ⟨dx', sd', e', F', _⟩ := id hF
            have q := q19 _ _ epd (ne_of epd hxb fun z => nomatch z) (ne_of epd e18 fun z => nomatch z)
            rw [q] at e'
            cases e'
            exact ⟨_, _, q, F', ndp2⟩
          clear hS epd eD hD nDH sA B18 hxb e18 q19 B17 ehd tk hw
          fail "rd"
          refine ⟨by decide, by decide, for_range (n := 4) (fun i σ' H' => ∃ (d2' : V) (v6 v7 v8 v9 v12 v13 v14 v15 : Option V) (g : Str → Option (Int × Int)) (pf : Fm), σ' = [some (.ref s0), some (.ref bag), some (.ref ln), some (.ref d1), some d2', v6, v7, v8, v9, some (.ref p), some (.ref pd), some (.ref dh), v12, v13, v14, v15] ∧ Bag H' L bag ∧ H' ln = some (.lst (N.map V.str)) ∧ TabAt H' d1 N f ∧ FormBy ca H' p dh N f ∧ FormBy ca H' p pd N f ∧ TP H' pd M pf ∧ PT ca H' dh M g ∧
            (∀ z, (f z).1 ≠ 0 → z ∈ M → g z = some (pf z)) ∧ SzP 90 g ∧ RedF pf ∧ (∀ z, 0 ≤ (pf z).1) ∧ SzF 70 pf) ⟨_, _, _, _, _, none, none, none, none, g, pf, rfl, B19, e4, hT1, hF, hE, hTP, hPT, gM, zg, rp, pp, zp⟩ ?_ ?_⟩
          · rintro i σ' H20 hi ⟨d2', v6, v7, v8, v9, v12, v13, v14, v15, g, pf, rfl, B20, e4, hT1, hF, hE, hTP, hPT, gM, zg, rp, pp, zp⟩
            obtain ⟨dxp, dp, epd, hS, ndh⟩ := id hF
            obtain ⟨kvh, ekh, kok, ha, hn⟩ := id hPT
            fail "rd"
            refine ⟨dh, kvh, rfl, .inl ekh, ?_⟩
            intro kp n_kp
            generalize g_H21 : upd _ kp _ = H21
            obtain ⟨s_H21, e_kp⟩ := gen_new n_kp g_H21
            clear g_H21
            have B21 := B20.same s_H21
            have e4 := s_H21 _ _ e4
            have hT1 := hT1.same s_H21
            have hF := hF.same s_H21
            have hE := hE.same s_H21
            have hTP := hTP.same s_H21
            have hPT := hPT.same s_H21
            have epd := s_H21 _ _ epd
            have ekh1 := s_H21 _ _ ekh
            have plain : ∀ e ∈ kvh, Plain1 e.2 := fun e m => by
              obtain ⟨k, v⟩ := e
              obtain ⟨z, _, ek⟩ := kok.mem _ m
              have ek : k = .inr z := ek
              subst ek
              obtain ⟨x, _, hv⟩ := ha z v (valV_of kok.nd m)
              rcases hv with ⟨h, _⟩ | ⟨p, h, _⟩
              · exact .inl (by show flatB v = true; rw [h]; rfl)
              · exact .inr ⟨p, h⟩
            fail "rd"
            refine ⟨p, dh, N, M, f, g, rfl, hF.at_, hN, by omega, sf.mono, hPT, zg, fun ys ny so hm => ?_⟩
            have gy : ∀ y ∈ ys, g y = some (pf y) := fun y m => gM y ((hm y).mp m) (subM y (Classical.byContradiction fun n => (hm y).mp m (by rw [hF.at_.off n])))
            have ms : missP g ys = none := List.find?_eq_none.mpr fun z m => by rw [gy z m]; simp
            have ng : negP g ys = none := List.find?_eq_none.mpr fun z m => by
              unfold negB
              rw [gy z m]
              have := pp z
              simp
              omega
            refine ⟨fun y e => by (rw [ms] at e; cases e), fun _ y e => by (rw [ng] at e; cases e), fun _ _ q H22 s22 hq => ?_⟩
            have B22 := B21.same s22
            have e4 := s22 _ _ e4
            have hT1 := hT1.same s22
            have hF := hF.same s22
            have hE := hE.same s22
            have hTP := hTP.same s22
            have hPT := hPT.same s22
            have epd := s22 _ _ epd
            have ekh2 := s22 _ _ ekh1
            have e_kp := s22 _ _ e_kp
            obtain ⟨_, dxq, eq⟩ := id hq
            obtain ⟨_, dxr, eq⟩ := hq.at_
            fail "rd"
            intro t1 n_t1
            generalize g_H23 : upd _ t1 _ = H23
            obtain ⟨s_H23, e_t1⟩ := gen_new n_t1 g_H23
            clear g_H23
            have B23 := B22.same s_H23
            have e4 := s_H23 _ _ e4
            have hT1 := hT1.same s_H23
            have hF := hF.same s_H23
            have hE := hE.same s_H23
            have hTP := hTP.same s_H23
            have hPT := hPT.same s_H23
            have ekh3 := s_H23 _ _ ekh2
            have e_kp := s_H23 _ _ e_kp
            fail "rd"
            refine ⟨d1, pd, N, M, f, pf, rfl, hT1, hTP, subM, hN, by omega, rf, sf.mono, fun z _ => by (have := (rp z).pos; omega), zp.mono, fun t2 H24 ks s24 nk offk subk et2 => ?_⟩
            have same : ys.map (prodF f g) = ys.map (prodT f pf) := List.map_congr_left fun y m => by unfold prodF prodT; rw [gy y m]; rfl
            rw [sum_keys rf (fun z m => by have := (rp z).pos; omega) nk ny hm offk, ← same] at et2
            refine neTF (s24 _ _ e_t1) et2 rfl ?_
            have B24 := B23.same s24
            have e4 := s24 _ _ e4
            have hT1 := hT1.same s24
            have hF := hF.same s24
            have hE := hE.same s24
            have hTP := hTP.same s24
            have hPT := hPT.same s24
            have ekh4 := s24 _ _ ekh3
            have e_kp := s24 _ _ e_kp
            clear e_t1 n_t1 et2 s_H23 s24 s22 s_H21 n_kp hq eq same offk subk nk ms ng gy hm so ny epd ekh1 ekh2 ekh3 B20 B21 B22 B23
            fail "rd"
            refine ⟨dh, kp, kvh, rfl, rfl, ekh4, e_kp, kok.nd, plain, ?_⟩
            fail "rd"
            refine ⟨bag, ln, _, rfl, L, B24, e4, lb, (fun e => by (have := congrArg List.length e; rw [List.length_map] at this; simp at this; rw [this] at hlen; simp at hlen; omega)), by (rw [List.length_map]; omega), fun j x H25 hx k25 B25 => ?_⟩
            obtain ⟨y, hy, rfl⟩ : ∃ y, N[j]? = some y ∧ V.str y = x := by
              rw [List.getElem?_map] at hx
              exact Option.map_eq_some_iff.mp hx
            have hyM := subM y (List.mem_of_getElem? hy)
            obtain ⟨xb, hxb⟩ := B24.lst
            have e4 := k25 _ _ e4 lb
            have hT1 := hT1.put hxb k25
            have hPT := hPT.keepL hxb k25
            have hF := hF.k2 hxb ekh4 (.l k25)
            obtain ⟨_, ekp, _⟩ := id hTP
            have hE := hE.k2 hxb ekp (.l k25)
            have hTP : TP H25 pd M pf := by
              obtain ⟨kk, e, a, b⟩ := hTP
              exact ⟨kk, k25 _ _ e (ne_of e hxb fun z => nomatch z), a, fun z m => let ⟨t, q, w⟩ := b z m; ⟨t, q, k25 _ _ w (ne_of w hxb fun z => nomatch z)⟩⟩
            clear ekh4 e_kp plain hxb k25 B24 ekh kok ha hn hx
            obtain ⟨dxp, dp, epd, hS, ndh⟩ := id hF
            fail "rd"
            refine iteD (fun _ => ?_) (fun _ => ?_)
            rotate_left
            · exact ⟨_, _, _, _, _, _, _, _, _, g, pf, rfl, B25, e4, hT1, hF, hE, hTP, hPT, gM, zg, rp, pp, zp⟩
            fail "rd"
            refine ⟨p, N, f, rfl, hF.at_, hN, fun ys2 l2 H26 _ _ _ _ nl2 s26 hl2 => ?_⟩
            have B26 := B25.same s26
            have e4 := s26 _ _ e4
            have hT1 := hT1.same s26
            have hF := hF.same s26
            have hE := hE.same s26
            have hTP := hTP.same s26
            have hPT := hPT.same s26
            refine ⟨l2, _, rfl, .inl (SqL.of hl2), rfl, flat_strs, ?_⟩
            rw [inV_strs]
            fail "rd"
            show if decide (y ∈ ys2) = true then _ else _
            refine iteD (fun _ => ?_) (fun _ => ?_)
            rotate_left
            · exact ⟨_, _, _, _, _, _, _, _, _, g, pf, rfl, B26, e4, hT1, hF, hE, hTP, hPT, gM, zg, rp, pp, zp⟩
            clear hl2 s26 nl2 B25 epd hS
            fail "rd"
            refine ⟨L, B26, fun x t H27 rx nx zx1 zx2 k27 B27 n27 e27 => ?_⟩
            obtain ⟨xb, hxb⟩ := B26.lst
            obtain ⟨kq, ekq, kokq, haq, hnq⟩ := id hPT
            have e4 := k27 _ _ e4 lb
            have hT1 := hT1.put hxb k27
            have hPT := hPT.keepL hxb k27
            have hF := hF.k2 hxb ekq (.l k27)
            obtain ⟨_, ekp, _⟩ := id hTP
            have hE := hE.k2 hxb ekp (.l k27)
            obtain ⟨kk, epk, kokk, alk⟩ : TP H27 pd M pf := by
              obtain ⟨kk, e, a, b⟩ := hTP
              exact ⟨kk, k27 _ _ e (ne_of e hxb fun z => nomatch z), a, fun z m => let ⟨t, q, w⟩ := b z m; ⟨t, q, k27 _ _ w (ne_of w hxb fun z => nomatch z)⟩⟩
            clear hxb k27 B26 ekq haq hnq
            fail "rd"
            refine ⟨pd, _, rfl, DPut.k (k := Sum.inr y) epk (kokk.line hM), ?_⟩
            have T28 := TP.put (x := x) epk kokk alk hyM e27
            generalize gh : upd H27 pd (.dK (putK kk (.inr y) (.ref t))) = H28 at T28 ⊢
            obtain ⟨k28, e28⟩ := gen_put gh
            clear gh
            obtain ⟨bd1, bd2⟩ := B27.ned epk
            have B28 := B27.keep k28 bd1 bd2
            have e4 := k28 _ _ e4 (ne_of e4 epk fun z => nomatch z)
            have hT1 := hT1.putD epk ndp1 k28
            have hPT := hPT.putD epk npd.symm k28
            obtain ⟨hF, hE⟩ := hF.putD hE epk k28
            obtain ⟨kt, ekt, kokt, alt⟩ := id T28
            obtain ⟨tt, hvt, htt⟩ := alt y hyM
            rw [setF_self] at htt
            clear epk alk kokk k28 e28 bd1 bd2 B27 e27 n27
            fail "rd"
            refine ⟨pd, _, rfl, dget (.inl ekt) hvt, ?_⟩
            fail "rd"
            refine ⟨pd, _, rfl, dget (.inl ekt) hvt, ?_⟩
            have nx2 : x.2 ≠ 0 := by have := rx.pos; omega
            fail "rd"
            intro r d_r n_r nd_r ne_r
            refine ⟨r, d_r, _, _, rfl, upd_same, zx2.lg, fun z => absurd z nx2, fun _ H29 k_r e_r => ⟨rfl, ?_⟩⟩
            have s_H29 := same_made n_r nd_r ne_r k_r
            have hr : RatAt ca H29 r x.1 x.2 := .mk rx e_r
            have B29 := B28.same s_H29
            have e4 := s_H29 _ _ e4
            have hT1 := hT1.same s_H29
            have hF := hF.same s_H29
            have hE := hE.same s_H29
            have T29 := T28.same s_H29
            obtain ⟨kh, ekh, kokh, hah, hnh⟩ := hPT.same s_H29
            fail "rd"
            refine ⟨dh, _, rfl, DPut.k (k := Sum.inr y) ekh (kokh.line hM), ?_⟩
            have P30 := PT.put (x := x) ekh kokh hah hnh hyM (.inr ⟨r, rfl, hr⟩)
            generalize gh : upd H29 dh (.dK (putK kh (.inr y) (.ref r))) = H30 at P30 ⊢
            obtain ⟨k30, e30⟩ := gen_put gh
            clear gh
            obtain ⟨bd1, bd2⟩ := B29.ned ekh
            obtain ⟨hE, hF⟩ := hE.putD hF ekh k30
            refine ⟨_, _, _, _, _, _, _, _, _, _, setF pf y x, rfl, B29.keep k30 bd1 bd2, k30 _ _ e4 (ne_of e4 ekh fun z => nomatch z), hT1.putD ekh nd1 k30, hF, hE, T29.putD ekh npd k30, P30, fun z nz m => ?_, fun z w e => ?_, setF_red rp rx, fun z => ?_, setF_sz zp ⟨zx1, zx2⟩⟩
            · unfold setP setF
              by_cases c : z = y
              · rw [if_pos c, if_pos c]
              · rw [if_neg c, if_neg c]
                exact gM z nz m
            · unfold setP at e
              by_cases c : z = y
              · rw [if_pos c] at e
                cases e
                exact ⟨zx1.mono, zx2.mono⟩
              · rw [if_neg c] at e
                exact zg z w e
            · unfold setF
              split
              · exact nx
              · exact pp z
          · rintro σ' H20 ⟨d2', v6, v7, v8, v9, v12, v13, v14, v15, g, pf, rfl, B20, e4, hT1, hF, hE, hTP, hPT, gM, zg, rp, pp, zp⟩
            fail "rd"
            refine ⟨bag, p, dh, N, M, f, g, rfl, L, B20, hF, hN, by omega, sf.mono, hPT, zg, subM, hM, fun z nz => ⟨pf z, gM z nz (subM z (Classical.byContradiction fun n => nz (by rw [hF.at_.off n]))), pp z⟩, fun H21 q21 B21 => ?_⟩
            obtain ⟨xb, hxb⟩ := B20.lst
            obtain ⟨kq, ekq, _⟩ := id hPT
            have e4 := q21 _ _ e4 lb (ne_of e4 ekq fun z => nomatch z)
            fail "rd"
            refine ⟨bag, ln, N, rfl, L, B21, e4, lb, hN, by omega, fun H22 => ?_⟩
            exact k H22

end
theorem all_mk {l : PySem.W.OpenLaw} {w : World} {K : PySem.W.Frag} {h : Heap} {mg : Str → Option Value} {fa : Addr} (X : K.In h) (G : h.Ns mainGlobals mg) (hfa : mg "law" = some (.ref fa))
    {C0 C1 C4 C5 C6 C2 C3 : Addr}
    {vi0 vi1 vi2 vi3 vi4 vi5 : Option Value}
    {tkc__LONGEST : Tok}
    {xnm4 xq4 : Str} {xN4 : Addr} {xbs4 : List Value} {xsn4 : List Str} {xsub4 : List Value} {xab4 : Bool} {xcol4 : Option Bool} {xdd4 : Option Addr} {xm04 xm14 xm24 xm34 xm54 : Option Value}
    {xnm5 xq5 : Str} {xN5 : Addr} {xbs5 : List Value} {xsn5 : List Str} {xsub5 : List Value} {xab5 : Bool} {xcol5 : Option Bool} {xdd5 : Option Addr} {xm05 xm15 xm25 xm35 xm55 : Option Value}
    {xnm6 xq6 : Str} {xN6 : Addr} {xbs6 : List Value} {xsn6 : List Str} {xsub6 : List Value} {xab6 : Bool} {xcol6 : Option Bool} {xdd6 : Option Addr} {xm06 xm16 xm26 xm36 xm56 : Option Value}
    {kd2 : ClassData} {vr2_0 vr2_1 vr2_2 : Option Value} {vh2_0 vh2_1 vh2_2 : Addr}
    {kd3 : ClassData} {vr3_0 vr3_1 vr3_2 : Option Value} {vh3_0 vh3_1 vh3_2 : Addr}
    {f0 : Addr} {od0 an0 : Option Addr} {sl0 : Array (Option Value)} {oc0 kV0 dc0 pm0 cd0 ct0 : Value}
    {f1 : Addr} {od1 an1 : Option Addr} {sl1 : Array (Option Value)} {oc1 kV1 dc1 pm1 cd1 ct1 : Value}
    {f2 : Addr} {od2 an2 : Option Addr} {sl2 : Array (Option Value)} {oc2 kV2 dc2 pm2 cd2 ct2 : Value}
    {f3 : Addr} {od3 an3 : Option Addr} {sl3 : Array (Option Value)} {oc3 kV3 dc3 pm3 cd3 ct3 : Value}
    {f4 : Addr} {od4 an4 : Option Addr} {sl4 : Array (Option Value)} {oc4 kV4 dc4 pm4 cd4 ct4 : Value}
    {f5 : Addr} {od5 an5 : Option Addr} {sl5 : Array (Option Value)} {oc5 kV5 dc5 pm5 cd5 ct5 : Value}
    {f6 : Addr} {od6 an6 : Option Addr} {sl6 : Array (Option Value)} {oc6 kV6 dc6 pm6 cd6 ct6 : Value}
    {f7 : Addr} {od7 an7 : Option Addr} {sl7 : Array (Option Value)} {oc7 kV7 dc7 pm7 cd7 ct7 : Value}
    {f8 : Addr} {od8 an8 : Option Addr} {sl8 : Array (Option Value)} {oc8 kV8 dc8 pm8 cd8 ct8 : Value}
    {T8 : Addr} {tk8_0 : Tok} {oT8 : Value} {dT8 : Option Addr} {nT8 : Nat} {sT8 : Array (Option Value)}
    {f9 : Addr} {od9 an9 : Option Addr} {sl9 : Array (Option Value)} {oc9 kV9 dc9 pm9 cd9 ct9 : Value}
    {f10 : Addr} {od10 an10 : Option Addr} {sl10 : Array (Option Value)} {oc10 kV10 dc10 pm10 cd10 ct10 : Value}
    {f11 : Addr} {od11 an11 : Option Addr} {sl11 : Array (Option Value)} {oc11 kV11 dc11 pm11 cd11 ct11 : Value}
    {f12 : Addr} {od12 an12 : Option Addr} {sl12 : Array (Option Value)} {oc12 kV12 dc12 pm12 cd12 ct12 : Value}
    {f13 : Addr} {od13 an13 : Option Addr} {sl13 : Array (Option Value)} {oc13 kV13 dc13 pm13 cd13 ct13 : Value}
    {f14 : Addr} {od14 an14 : Option Addr} {sl14 : Array (Option Value)} {oc14 kV14 dc14 pm14 cd14 ct14 : Value}
    {f15 : Addr} {od15 an15 : Option Addr} {sl15 : Array (Option Value)} {oc15 kV15 dc15 pm15 cd15 ct15 : Value}
    {f16 : Addr} {od16 an16 : Option Addr} {sl16 : Array (Option Value)} {oc16 kV16 dc16 pm16 cd16 ct16 : Value}
    {f17 : Addr} {od17 an17 : Option Addr} {sl17 : Array (Option Value)} {oc17 kV17 dc17 pm17 cd17 ct17 : Value}
    {T17 : Addr}  {oT17 : Value} {dT17 : Option Addr} {nT17 : Nat} {sT17 : Array (Option Value)}
    {f18 : Addr} {od18 an18 : Option Addr} {sl18 : Array (Option Value)} {oc18 kV18 dc18 pm18 cd18 ct18 : Value}
    {f19 : Addr} {od19 an19 : Option Addr} {sl19 : Array (Option Value)} {oc19 kV19 dc19 pm19 cd19 ct19 : Value}
    {f20 : Addr} {od20 an20 : Option Addr} {sl20 : Array (Option Value)} {oc20 kV20 dc20 pm20 cd20 ct20 : Value}
    {f21 : Addr} {od21 an21 : Option Addr} {sl21 : Array (Option Value)} {oc21 kV21 dc21 pm21 cd21 ct21 : Value}
    {f22 : Addr} {od22 an22 : Option Addr} {sl22 : Array (Option Value)} {oc22 kV22 dc22 pm22 cd22 ct22 : Value}
    {f23 : Addr} {od23 an23 : Option Addr} {sl23 : Array (Option Value)} {oc23 kV23 dc23 pm23 cd23 ct23 : Value}
    {f24 : Addr} {od24 an24 : Option Addr} {sl24 : Array (Option Value)} {oc24 kV24 dc24 pm24 cd24 ct24 : Value}
    {f25 : Addr} {od25 an25 : Option Addr} {sl25 : Array (Option Value)} {oc25 kV25 dc25 pm25 cd25 ct25 : Value}
    {f26 : Addr} {od26 an26 : Option Addr} {sl26 : Array (Option Value)} {oc26 kV26 dc26 pm26 cd26 ct26 : Value}
    {f27 : Addr} {od27 an27 : Option Addr} {sl27 : Array (Option Value)} {oc27 kV27 dc27 pm27 cd27 ct27 : Value}
    {f28 : Addr} {od28 an28 : Option Addr} {sl28 : Array (Option Value)} {oc28 kV28 dc28 pm28 cd28 ct28 : Value}
    {f29 : Addr} {od29 an29 : Option Addr} {sl29 : Array (Option Value)} {oc29 kV29 dc29 pm29 cd29 ct29 : Value}
    {f30 : Addr} {od30 an30 : Option Addr} {sl30 : Array (Option Value)} {oc30 kV30 dc30 pm30 cd30 ct30 : Value}
    {f31 : Addr} {od31 an31 : Option Addr} {sl31 : Array (Option Value)} {oc31 kV31 dc31 pm31 cd31 ct31 : Value}
    {f32 : Addr} {od32 an32 : Option Addr} {sl32 : Array (Option Value)} {oc32 kV32 dc32 pm32 cd32 ct32 : Value}
    {f33 : Addr} {od33 an33 : Option Addr} {sl33 : Array (Option Value)} {oc33 kV33 dc33 pm33 cd33 ct33 : Value}
    {f34 : Addr} {od34 an34 : Option Addr} {sl34 : Array (Option Value)} {oc34 kV34 dc34 pm34 cd34 ct34 : Value}
    {f35 : Addr} {od35 an35 : Option Addr} {sl35 : Array (Option Value)} {oc35 kV35 dc35 pm35 cd35 ct35 : Value}
    {p35 : Addr} {rest35 : List Value}
    {f36 : Addr} {od36 an36 : Option Addr} {sl36 : Array (Option Value)} {oc36 kV36 dc36 pm36 cd36 ct36 : Value}
    {f37 : Addr} {od37 an37 : Option Addr} {sl37 : Array (Option Value)} {oc37 kV37 dc37 pm37 cd37 ct37 : Value}
    {f38 : Addr} {od38 an38 : Option Addr} {sl38 : Array (Option Value)} {oc38 kV38 dc38 pm38 cd38 ct38 : Value}
    {f39 : Addr} {od39 an39 : Option Addr} {sl39 : Array (Option Value)} {oc39 kV39 dc39 pm39 cd39 ct39 : Value}
    {f40 : Addr} {od40 an40 : Option Addr} {sl40 : Array (Option Value)} {oc40 kV40 dc40 pm40 cd40 ct40 : Value}
    {p40 : Addr} {rest40 : List Value}
    {f41 : Addr} {od41 an41 : Option Addr} {sl41 : Array (Option Value)} {oc41 kV41 dc41 pm41 cd41 ct41 : Value}
    {f42 : Addr} {od42 an42 : Option Addr} {sl42 : Array (Option Value)} {oc42 kV42 dc42 pm42 cd42 ct42 : Value}
    {f43 : Addr} {od43 an43 : Option Addr} {sl43 : Array (Option Value)} {oc43 kV43 dc43 pm43 cd43 ct43 : Value}
    (aC0 : PySem.W.nsIn K mainGlobals "CostError" = some (some (.ref C0)))
    (aC1 : PySem.W.nsIn K mainGlobals "NoRatio" = some (some (.ref C1)))
    (aC4 : PySem.W.nsIn K mainGlobals "BadName" = some (some (.ref C4)))
    (aC5 : PySem.W.nsIn K mainGlobals "NoPrice" = some (some (.ref C5)))
    (aC6 : PySem.W.nsIn K mainGlobals "Negative" = some (some (.ref C6)))
    (aC2 : PySem.W.nsIn K mainGlobals "Ratio" = some (some (.ref C2)))
    (aC3 : PySem.W.nsIn K mainGlobals "Form" = some (some (.ref C3)))
    (pg2 : PySem.W.plainGet K C2 Str.empty = true)
    (hd2 : PySem.W.hasDictIn K C2 = true)
    (po2 : PySem.W.plainOver K C2 = true)
    (sa2 : PySem.W.findIn K (.ref C2) "__setattr__" = some (some (.builtin "object.__setattr__")))
    (mk2 : PySem.W.makesIn K C2 = true)
    (kc2 : PySem.W.keepIn K (.ref C2) = true)
    (pg3 : PySem.W.plainGet K C3 Str.empty = true)
    (hd3 : PySem.W.hasDictIn K C3 = true)
    (po3 : PySem.W.plainOver K C3 = true)
    (sa3 : PySem.W.findIn K (.ref C3) "__setattr__" = some (some (.builtin "object.__setattr__")))
    (mk3 : PySem.W.makesIn K C3 = true)
    (kc3 : PySem.W.keepIn K (.ref C3) = true)
    (z_abs : PySem.W.nsIn K mainGlobals "abs" = some none)
    (z_all : PySem.W.nsIn K mainGlobals "all" = some none)
    (z_dict : PySem.W.nsIn K mainGlobals "dict" = some none)
    (z_int : PySem.W.nsIn K mainGlobals "int" = some none)
    (z_isinstance : PySem.W.nsIn K mainGlobals "isinstance" = some none)
    (z_len : PySem.W.nsIn K mainGlobals "len" = some none)
    (z_list : PySem.W.nsIn K mainGlobals "list" = some none)
    (z_min : PySem.W.nsIn K mainGlobals "min" = some none)
    (z_range : PySem.W.nsIn K mainGlobals "range" = some none)
    (z_sorted : PySem.W.nsIn K mainGlobals "sorted" = some none)
    (z_str : PySem.W.nsIn K mainGlobals "str" = some none)
    (z_gcd : PySem.W.nsIn K mainGlobals "gcd" = some (some (.builtin "math.gcd")))
    (zc__LONGEST : PySem.W.nsIn K mainGlobals "_LONGEST" = some (some (.int 12 tkc__LONGEST)))
    (fkp_NoRatio : PySem.W.keepIn K (.ref C1) = true)
    (fex_NoRatio : PySem.W.excIn K C1 [.type "ValueError", .type "Exception", .type "BaseException", .type "object"] "ValueError.__new__" = true)
    (fsb_NoRatio : PySem.W.subIn K (.ref C1) (.type "BaseException") = some true)
    (fty_NoRatio : PySem.W.typeIn K (.ref C1) = some (.type "type"))
    (fsb_BadName : PySem.W.subIn K (.ref C4) (.type "BaseException") = some true)
    (fxi_BadName : PySem.W.isClsIn K C4 = true)
    (fty_BadName : PySem.W.typeIn K (.ref C4) = some (.type "type"))
    (fxs_BadName : PySem.W.subIn K (.ref C4) (.ref C4) = some true)
    (fy1_BadName : PySem.W.findIn K (.ref C4) "__getattribute__" = some (some (.builtin "BaseException.__getattribute__")))
    (fy2_BadName : PySem.W.findIn K (.ref C4) "__getattr__" = some none)
    (fy3_BadName : PySem.W.hasDictIn K C4 = true)
    (fy4_BadName : PySem.W.findIn K (.ref C4) "__class__" = some (some (.builtin "object.__class__")))
    (fo5 : PySem.W.specialIn K (.builtin "object.__class__") "__get__" = some (some (.builtin "getset_descriptor.__get__")))
    (fo6 : PySem.W.takesIn K (.builtin "object.__class__") = some true)
    (fy7_BadName : PySem.W.mroIn K C4 (.type "object") = some true)
    (xl_BadName : K.lookup C4 = some (excClassObj xnm4 xq4 C4 xN4 xbs4 [.ref C0, .type "ValueError", .type "Exception", .type "BaseException", .type "object"] true xsn4 xsub4 xab4 xcol4 xdd4 xm04 xm14 xm24 xm34 xm54 "ValueError.__new__"))
    (fxr_BadName : PySem.HandSPX.refsVE [.ref C0, .type "ValueError", .type "Exception", .type "BaseException", .type "object"] = true)
    (sa_BadName : PySem.W.findIn K (.ref C4) "__setattr__" = some (some (.builtin "object.__setattr__")))
    (kpr_BadName : PySem.W.keepIn K (.ref C4) = true)
    (fnf_BadName_name : PySem.W.findIn K (.ref C4) "name" = some none)
    (fsb_NoPrice : PySem.W.subIn K (.ref C5) (.type "BaseException") = some true)
    (fxi_NoPrice : PySem.W.isClsIn K C5 = true)
    (fty_NoPrice : PySem.W.typeIn K (.ref C5) = some (.type "type"))
    (fxs_NoPrice : PySem.W.subIn K (.ref C5) (.ref C5) = some true)
    (fy1_NoPrice : PySem.W.findIn K (.ref C5) "__getattribute__" = some (some (.builtin "BaseException.__getattribute__")))
    (fy2_NoPrice : PySem.W.findIn K (.ref C5) "__getattr__" = some none)
    (fy3_NoPrice : PySem.W.hasDictIn K C5 = true)
    (fy4_NoPrice : PySem.W.findIn K (.ref C5) "__class__" = some (some (.builtin "object.__class__")))
    (fy7_NoPrice : PySem.W.mroIn K C5 (.type "object") = some true)
    (xl_NoPrice : K.lookup C5 = some (excClassObj xnm5 xq5 C5 xN5 xbs5 [.ref C0, .type "ValueError", .type "Exception", .type "BaseException", .type "object"] true xsn5 xsub5 xab5 xcol5 xdd5 xm05 xm15 xm25 xm35 xm55 "ValueError.__new__"))
    (fxr_NoPrice : PySem.HandSPX.refsVE [.ref C0, .type "ValueError", .type "Exception", .type "BaseException", .type "object"] = true)
    (sa_NoPrice : PySem.W.findIn K (.ref C5) "__setattr__" = some (some (.builtin "object.__setattr__")))
    (kpr_NoPrice : PySem.W.keepIn K (.ref C5) = true)
    (fnf_NoPrice_name : PySem.W.findIn K (.ref C5) "name" = some none)
    (fsb_Negative : PySem.W.subIn K (.ref C6) (.type "BaseException") = some true)
    (fxi_Negative : PySem.W.isClsIn K C6 = true)
    (fty_Negative : PySem.W.typeIn K (.ref C6) = some (.type "type"))
    (fxs_Negative : PySem.W.subIn K (.ref C6) (.ref C6) = some true)
    (fy1_Negative : PySem.W.findIn K (.ref C6) "__getattribute__" = some (some (.builtin "BaseException.__getattribute__")))
    (fy2_Negative : PySem.W.findIn K (.ref C6) "__getattr__" = some none)
    (fy3_Negative : PySem.W.hasDictIn K C6 = true)
    (fy4_Negative : PySem.W.findIn K (.ref C6) "__class__" = some (some (.builtin "object.__class__")))
    (fy7_Negative : PySem.W.mroIn K C6 (.type "object") = some true)
    (xl_Negative : K.lookup C6 = some (excClassObj xnm6 xq6 C6 xN6 xbs6 [.ref C0, .type "ValueError", .type "Exception", .type "BaseException", .type "object"] true xsn6 xsub6 xab6 xcol6 xdd6 xm06 xm16 xm26 xm36 xm56 "ValueError.__new__"))
    (fxr_Negative : PySem.HandSPX.refsVE [.ref C0, .type "ValueError", .type "Exception", .type "BaseException", .type "object"] = true)
    (sa_Negative : PySem.W.findIn K (.ref C6) "__setattr__" = some (some (.builtin "object.__setattr__")))
    (kpr_Negative : PySem.W.keepIn K (.ref C6) = true)
    (fnf_Negative_name : PySem.W.findIn K (.ref C6) "name" = some none)
    (fna_Ratio_top : PySem.W.findIn K (.ref C2) "top" = some none)
    (fna_Ratio_bottom : PySem.W.findIn K (.ref C2) "bottom" = some none)
    (fic_Ratio : PySem.W.findIn K (.ref C2) "__class__" = some (some (.builtin "object.__class__")))
    (fim_Ratio : PySem.W.mroIn K C2 (.type "object") = some true)
    (fr1_Ratio : PySem.W.selfFirst K C2 = true)
    (fr2_Ratio : PySem.W.subIn K (.type "int") (.ref C2) = some false)
    (fr3_Ratio : PySem.W.subIn K (.ref C2) (.type "int") = some false)
    (fr4_Ratio : PySem.W.clsIn K C2 = some kd2)
    (fmro_Ratio : kd2.mro = [.ref C2, .type "object"])
    (fr_iadd_Ratio : PySem.W.findIn K (.ref C2) "__iadd__" = some none)
    (fro_iadd : PySem.W.findIn K (.type "object") "__iadd__" = some none)
    (fr_isub_Ratio : PySem.W.findIn K (.ref C2) "__isub__" = some none)
    (fro_isub : PySem.W.findIn K (.type "object") "__isub__" = some none)
    (fr_imul_Ratio : PySem.W.findIn K (.ref C2) "__imul__" = some none)
    (fro_imul : PySem.W.findIn K (.type "object") "__imul__" = some none)
    (fri_add : PySem.W.findIn K (.type "int") "__add__" = some vi0)
    (fri_radd : PySem.W.findIn K (.type "int") "__radd__" = some vi1)
    (fri_sub : PySem.W.findIn K (.type "int") "__sub__" = some vi2)
    (fri_rsub : PySem.W.findIn K (.type "int") "__rsub__" = some vi3)
    (fri_mul : PySem.W.findIn K (.type "int") "__mul__" = some vi4)
    (fri_rmul : PySem.W.findIn K (.type "int") "__rmul__" = some vi5)
    (frr_radd_Ratio : PySem.W.findIn K (.ref C2) "__radd__" = some vr2_0)
    (frs_radd_Ratio : refOr vr2_0 = true)
    (frr_rsub_Ratio : PySem.W.findIn K (.ref C2) "__rsub__" = some vr2_1)
    (frs_rsub_Ratio : refOr vr2_1 = true)
    (frr_rmul_Ratio : PySem.W.findIn K (.ref C2) "__rmul__" = some vr2_2)
    (frs_rmul_Ratio : refOr vr2_2 = true)
    (frh_add_Ratio : PySem.W.findIn K (.ref C2) "__add__" = some (some (.ref vh2_0)))
    (frh_sub_Ratio : PySem.W.findIn K (.ref C2) "__sub__" = some (some (.ref vh2_1)))
    (frh_mul_Ratio : PySem.W.findIn K (.ref C2) "__mul__" = some (some (.ref vh2_2)))
    (fna_Form__shares : PySem.W.findIn K (.ref C3) "_shares" = some none)
    (fr1_Form : PySem.W.selfFirst K C3 = true)
    (fr2_Form : PySem.W.subIn K (.type "int") (.ref C3) = some false)
    (fr3_Form : PySem.W.subIn K (.ref C3) (.type "int") = some false)
    (fr4_Form : PySem.W.clsIn K C3 = some kd3)
    (fmro_Form : kd3.mro = [.ref C3, .type "object"])
    (fr_iadd_Form : PySem.W.findIn K (.ref C3) "__iadd__" = some none)
    (fr_isub_Form : PySem.W.findIn K (.ref C3) "__isub__" = some none)
    (fr_imul_Form : PySem.W.findIn K (.ref C3) "__imul__" = some none)
    (frr_radd_Form : PySem.W.findIn K (.ref C3) "__radd__" = some vr3_0)
    (frs_radd_Form : refOr vr3_0 = true)
    (frr_rsub_Form : PySem.W.findIn K (.ref C3) "__rsub__" = some vr3_1)
    (frs_rsub_Form : refOr vr3_1 = true)
    (frr_rmul_Form : PySem.W.findIn K (.ref C3) "__rmul__" = some vr3_2)
    (frs_rmul_Form : refOr vr3_2 = true)
    (frh_add_Form : PySem.W.findIn K (.ref C3) "__add__" = some (some (.ref vh3_0)))
    (frh_sub_Form : PySem.W.findIn K (.ref C3) "__sub__" = some (some (.ref vh3_1)))
    (frh_mul_Form : PySem.W.findIn K (.ref C3) "__mul__" = some (some (.ref vh3_2)))
    (fki_BadName_CostError : PySem.W.kitOne K (.ref C4) (.ref C0) = some true)
    (fki_Negative_CostError : PySem.W.kitOne K (.ref C6) (.ref C0) = some true)
    (fki_NoPrice_CostError : PySem.W.kitOne K (.ref C5) (.ref C0) = some true)
    (fki_int_Ratio : PySem.W.kitOne K (.type "int") (.ref C2) = some false)
    (ftx_Negative_NoPrice : PySem.W.subIn K (.ref C6) (.ref C5) = some false)
    (a0 : PySem.W.nsIn K mainGlobals "_law_bag" = some (some (.ref f0)))
    (l0 : K.lookup f0 = some ⟨oc0, od0, .func (PySem.W.fnOf "_law_bag" "_law_bag" (defArgs s_l_bag) (defBody s_l_bag) (defScope s_l_bag) .none kV0 dc0 pm0 an0 cd0 ct0), sl0⟩)
    (c0 : PySem.W.codeIn K cd0 "_law_bag" = true)
    (k0 : PySem.W.keepIn K (.ref f0) = true)
    (a1 : PySem.W.nsIn K mainGlobals "_law_draw" = some (some (.ref f1)))
    (l1 : K.lookup f1 = some ⟨oc1, od1, .func (PySem.W.fnOf "_law_draw" "_law_draw" (defArgs s_l_draw) (defBody s_l_draw) (defScope s_l_draw) .none kV1 dc1 pm1 an1 cd1 ct1), sl1⟩)
    (c1 : PySem.W.codeIn K cd1 "_law_draw" = true)
    (k1 : PySem.W.keepIn K (.ref f1) = true)
    (a2 : PySem.W.nsIn K mainGlobals "_law_names" = some (some (.ref f2)))
    (l2 : K.lookup f2 = some ⟨oc2, od2, .func (PySem.W.fnOf "_law_names" "_law_names" (defArgs s_l_names) (defBody s_l_names) (defScope s_l_names) .none kV2 dc2 pm2 an2 cd2 ct2), sl2⟩)
    (c2 : PySem.W.codeIn K cd2 "_law_names" = true)
    (k2 : PySem.W.keepIn K (.ref f2) = true)
    (a3 : PySem.W.nsIn K mainGlobals "_law_divisor" = some (some (.ref f3)))
    (l3 : K.lookup f3 = some ⟨oc3, od3, .func (PySem.W.fnOf "_law_divisor" "_law_divisor" (defArgs s_l_divisor) (defBody s_l_divisor) (defScope s_l_divisor) .none kV3 dc3 pm3 an3 cd3 ct3), sl3⟩)
    (c3 : PySem.W.codeIn K cd3 "_law_divisor" = true)
    (k3 : PySem.W.keepIn K (.ref f3) = true)
    (a4 : PySem.W.nsIn K mainGlobals "_law_lowest" = some (some (.ref f4)))
    (l4 : K.lookup f4 = some ⟨oc4, od4, .func (PySem.W.fnOf "_law_lowest" "_law_lowest" (defArgs s_l_lowest) (defBody s_l_lowest) (defScope s_l_lowest) .none kV4 dc4 pm4 an4 cd4 ct4), sl4⟩)
    (c4 : PySem.W.codeIn K cd4 "_law_lowest" = true)
    (k4 : PySem.W.keepIn K (.ref f4) = true)
    (a5 : PySem.W.nsIn K mainGlobals "_law_top" = some (some (.ref f5)))
    (l5 : K.lookup f5 = some ⟨oc5, od5, .func (PySem.W.fnOf "_law_top" "_law_top" (defArgs s_l_top) (defBody s_l_top) (defScope s_l_top) .none kV5 dc5 pm5 an5 cd5 ct5), sl5⟩)
    (c5 : PySem.W.codeIn K cd5 "_law_top" = true)
    (k5 : PySem.W.keepIn K (.ref f5) = true)
    (a6 : PySem.W.nsIn K mainGlobals "_law_share" = some (some (.ref f6)))
    (l6 : K.lookup f6 = some ⟨oc6, od6, .func (PySem.W.fnOf "_law_share" "_law_share" (defArgs s_l_share) (defBody s_l_share) (defScope s_l_share) .none kV6 dc6 pm6 an6 cd6 ct6), sl6⟩)
    (c6 : PySem.W.codeIn K cd6 "_law_share" = true)
    (k6 : PySem.W.keepIn K (.ref f6) = true)
    (a7 : PySem.W.nsIn K mainGlobals "_law_shares" = some (some (.ref f7)))
    (l7 : K.lookup f7 = some ⟨oc7, od7, .func (PySem.W.fnOf "_law_shares" "_law_shares" (defArgs s_l_shares) (defBody s_l_shares) (defScope s_l_shares) .none kV7 dc7 pm7 an7 cd7 ct7), sl7⟩)
    (c7 : PySem.W.codeIn K cd7 "_law_shares" = true)
    (k7 : PySem.W.keepIn K (.ref f7) = true)
    (a8 : PySem.W.findIn K (.ref C2) "__init__" = some (some (.ref f8)))
    (i8 : PySem.W.isFn K (.ref f8) = true)
    (l8 : K.lookup f8 = some ⟨oc8, od8, .func (PySem.W.fnOf "__init__" "Ratio.__init__" (defArgs s_Ratio_init) (defBody s_Ratio_init) (defScope s_Ratio_init) (.ref T8) kV8 dc8 pm8 an8 cd8 ct8), sl8⟩)
    (c8 : PySem.W.codeIn K cd8 "Ratio.__init__" = true)
    (k8 : PySem.W.keepIn K (.ref f8) = true)
    (t8 : K.lookup T8 = some ⟨oT8, dT8, .seq #[.int 1 tk8_0] nT8, sT8⟩)
    (a9 : PySem.W.nsIn K mainGlobals "_law_handed" = some (some (.ref f9)))
    (l9 : K.lookup f9 = some ⟨oc9, od9, .func (PySem.W.fnOf "_law_handed" "_law_handed" (defArgs s_l_handed) (defBody s_l_handed) (defScope s_l_handed) .none kV9 dc9 pm9 an9 cd9 ct9), sl9⟩)
    (c9 : PySem.W.codeIn K cd9 "_law_handed" = true)
    (k9 : PySem.W.keepIn K (.ref f9) = true)
    (a10 : PySem.W.nsIn K mainGlobals "_law_sum" = some (some (.ref f10)))
    (l10 : K.lookup f10 = some ⟨oc10, od10, .func (PySem.W.fnOf "_law_sum" "_law_sum" (defArgs s_l_sum) (defBody s_l_sum) (defScope s_l_sum) .none kV10 dc10 pm10 an10 cd10 ct10), sl10⟩)
    (c10 : PySem.W.codeIn K cd10 "_law_sum" = true)
    (k10 : PySem.W.keepIn K (.ref f10) = true)
    (a11 : PySem.W.nsIn K mainGlobals "_law_never_greater" = some (some (.ref f11)))
    (l11 : K.lookup f11 = some ⟨oc11, od11, .func (PySem.W.fnOf "_law_never_greater" "_law_never_greater" (defArgs s_l_never_greater) (defBody s_l_never_greater) (defScope s_l_never_greater) .none kV11 dc11 pm11 an11 cd11 ct11), sl11⟩)
    (c11 : PySem.W.codeIn K cd11 "_law_never_greater" = true)
    (k11 : PySem.W.keepIn K (.ref f11) = true)
    (a12 : PySem.W.nsIn K mainGlobals "is_name" = some (some (.ref f12)))
    (l12 : K.lookup f12 = some ⟨oc12, od12, .func (PySem.W.fnOf "is_name" "is_name" (defArgs s_is_name) (defBody s_is_name) (defScope s_is_name) .none kV12 dc12 pm12 an12 cd12 ct12), sl12⟩)
    (c12 : PySem.W.codeIn K cd12 "is_name" = true)
    (k12 : PySem.W.keepIn K (.ref f12) = true)
    (a13 : PySem.W.findIn K (.ref C4) "__init__" = some (some (.ref f13)))
    (i13 : PySem.W.isFn K (.ref f13) = true)
    (ti13 : PySem.W.typeIn K (.ref f13) = some (.type "function"))
    (l13 : K.lookup f13 = some ⟨oc13, od13, .func (PySem.W.fnOf "__init__" "BadName.__init__" (defArgs s_BadName_init) (defBody s_BadName_init) (defScope s_BadName_init) .none kV13 dc13 pm13 an13 cd13 ct13), sl13⟩)
    (c13 : PySem.W.codeIn K cd13 "BadName.__init__" = true)
    (k13 : PySem.W.keepIn K (.ref f13) = true)
    (a14 : PySem.W.nsIn K mainGlobals "check_names" = some (some (.ref f14)))
    (l14 : K.lookup f14 = some ⟨oc14, od14, .func (PySem.W.fnOf "check_names" "check_names" (defArgs s_check_names) (defBody s_check_names) (defScope s_check_names) .none kV14 dc14 pm14 an14 cd14 ct14), sl14⟩)
    (c14 : PySem.W.codeIn K cd14 "check_names" = true)
    (k14 : PySem.W.keepIn K (.ref f14) = true)
    (a15 : PySem.W.nsIn K mainGlobals "as_ratio" = some (some (.ref f15)))
    (l15 : K.lookup f15 = some ⟨oc15, od15, .func (PySem.W.fnOf "as_ratio" "as_ratio" (defArgs s_as_ratio) (defBody s_as_ratio) (defScope s_as_ratio) .none kV15 dc15 pm15 an15 cd15 ct15), sl15⟩)
    (c15 : PySem.W.codeIn K cd15 "as_ratio" = true)
    (k15 : PySem.W.keepIn K (.ref f15) = true)
    (a16 : PySem.W.findIn K (.ref C2) "same" = some (some (.ref f16)))
    (i16 : PySem.W.isFn K (.ref f16) = true)
    (l16 : K.lookup f16 = some ⟨oc16, od16, .func (PySem.W.fnOf "same" "Ratio.same" (defArgs s_Ratio_same) (defBody s_Ratio_same) (defScope s_Ratio_same) .none kV16 dc16 pm16 an16 cd16 ct16), sl16⟩)
    (c16 : PySem.W.codeIn K cd16 "Ratio.same" = true)
    (k16 : PySem.W.keepIn K (.ref f16) = true)
    (a17 : PySem.W.findIn K (.ref C3) "__init__" = some (some (.ref f17)))
    (i17 : PySem.W.isFn K (.ref f17) = true)
    (l17 : K.lookup f17 = some ⟨oc17, od17, .func (PySem.W.fnOf "__init__" "Form.__init__" (defArgs s_Form_init) (defBody s_Form_init) (defScope s_Form_init) (.ref T17) kV17 dc17 pm17 an17 cd17 ct17), sl17⟩)
    (c17 : PySem.W.codeIn K cd17 "Form.__init__" = true)
    (k17 : PySem.W.keepIn K (.ref f17) = true)
    (t17 : K.lookup T17 = some ⟨oT17, dT17, .seq #[.none] nT17, sT17⟩)
    (a18 : PySem.W.findIn K (.ref C3) "names" = some (some (.ref f18)))
    (i18 : PySem.W.isFn K (.ref f18) = true)
    (l18 : K.lookup f18 = some ⟨oc18, od18, .func (PySem.W.fnOf "names" "Form.names" (defArgs s_Form_names) (defBody s_Form_names) (defScope s_Form_names) .none kV18 dc18 pm18 an18 cd18 ct18), sl18⟩)
    (c18 : PySem.W.codeIn K cd18 "Form.names" = true)
    (k18 : PySem.W.keepIn K (.ref f18) = true)
    (a19 : PySem.W.findIn K (.ref C3) "share" = some (some (.ref f19)))
    (i19 : PySem.W.isFn K (.ref f19) = true)
    (l19 : K.lookup f19 = some ⟨oc19, od19, .func (PySem.W.fnOf "share" "Form.share" (defArgs s_Form_share) (defBody s_Form_share) (defScope s_Form_share) .none kV19 dc19 pm19 an19 cd19 ct19), sl19⟩)
    (c19 : PySem.W.codeIn K cd19 "Form.share" = true)
    (k19 : PySem.W.keepIn K (.ref f19) = true)
    (a20 : PySem.W.findIn K (.ref C2) "__add__" = some (some (.ref f20)))
    (i20 : PySem.W.isFn K (.ref f20) = true)
    (l20 : K.lookup f20 = some ⟨oc20, od20, .func (PySem.W.fnOf "__add__" "Ratio.__add__" (defArgs s_Ratio_add) (defBody s_Ratio_add) (defScope s_Ratio_add) .none kV20 dc20 pm20 an20 cd20 ct20), sl20⟩)
    (c20 : PySem.W.codeIn K cd20 "Ratio.__add__" = true)
    (k20 : PySem.W.keepIn K (.ref f20) = true)
    (a21 : PySem.W.findIn K (.ref C3) "__add__" = some (some (.ref f21)))
    (i21 : PySem.W.isFn K (.ref f21) = true)
    (l21 : K.lookup f21 = some ⟨oc21, od21, .func (PySem.W.fnOf "__add__" "Form.__add__" (defArgs s_Form_add) (defBody s_Form_add) (defScope s_Form_add) .none kV21 dc21 pm21 an21 cd21 ct21), sl21⟩)
    (c21 : PySem.W.codeIn K cd21 "Form.__add__" = true)
    (k21 : PySem.W.keepIn K (.ref f21) = true)
    (a22 : PySem.W.findIn K (.ref C2) "__mul__" = some (some (.ref f22)))
    (i22 : PySem.W.isFn K (.ref f22) = true)
    (l22 : K.lookup f22 = some ⟨oc22, od22, .func (PySem.W.fnOf "__mul__" "Ratio.__mul__" (defArgs s_Ratio_mul) (defBody s_Ratio_mul) (defScope s_Ratio_mul) .none kV22 dc22 pm22 an22 cd22 ct22), sl22⟩)
    (c22 : PySem.W.codeIn K cd22 "Ratio.__mul__" = true)
    (k22 : PySem.W.keepIn K (.ref f22) = true)
    (a23 : PySem.W.findIn K (.ref C3) "__mul__" = some (some (.ref f23)))
    (i23 : PySem.W.isFn K (.ref f23) = true)
    (l23 : K.lookup f23 = some ⟨oc23, od23, .func (PySem.W.fnOf "__mul__" "Form.__mul__" (defArgs s_Form_mul) (defBody s_Form_mul) (defScope s_Form_mul) .none kV23 dc23 pm23 an23 cd23 ct23), sl23⟩)
    (c23 : PySem.W.codeIn K cd23 "Form.__mul__" = true)
    (k23 : PySem.W.keepIn K (.ref f23) = true)
    (a24 : PySem.W.findIn K (.ref C3) "__neg__" = some (some (.ref f24)))
    (i24 : PySem.W.isFn K (.ref f24) = true)
    (l24 : K.lookup f24 = some ⟨oc24, od24, .func (PySem.W.fnOf "__neg__" "Form.__neg__" (defArgs s_Form_neg) (defBody s_Form_neg) (defScope s_Form_neg) .none kV24 dc24 pm24 an24 cd24 ct24), sl24⟩)
    (c24 : PySem.W.codeIn K cd24 "Form.__neg__" = true)
    (k24 : PySem.W.keepIn K (.ref f24) = true)
    (a25 : PySem.W.findIn K (.ref C3) "__sub__" = some (some (.ref f25)))
    (i25 : PySem.W.isFn K (.ref f25) = true)
    (l25 : K.lookup f25 = some ⟨oc25, od25, .func (PySem.W.fnOf "__sub__" "Form.__sub__" (defArgs s_Form_sub) (defBody s_Form_sub) (defScope s_Form_sub) .none kV25 dc25 pm25 an25 cd25 ct25), sl25⟩)
    (c25 : PySem.W.codeIn K cd25 "Form.__sub__" = true)
    (k25 : PySem.W.keepIn K (.ref f25) = true)
    (a26 : PySem.W.findIn K (.ref C2) "less" = some (some (.ref f26)))
    (i26 : PySem.W.isFn K (.ref f26) = true)
    (l26 : K.lookup f26 = some ⟨oc26, od26, .func (PySem.W.fnOf "less" "Ratio.less" (defArgs s_Ratio_less) (defBody s_Ratio_less) (defScope s_Ratio_less) .none kV26 dc26 pm26 an26 cd26 ct26), sl26⟩)
    (c26 : PySem.W.codeIn K cd26 "Ratio.less" = true)
    (k26 : PySem.W.keepIn K (.ref f26) = true)
    (a27 : PySem.W.findIn K (.ref C3) "at_most" = some (some (.ref f27)))
    (i27 : PySem.W.isFn K (.ref f27) = true)
    (l27 : K.lookup f27 = some ⟨oc27, od27, .func (PySem.W.fnOf "at_most" "Form.at_most" (defArgs s_Form_at_most) (defBody s_Form_at_most) (defScope s_Form_at_most) .none kV27 dc27 pm27 an27 cd27 ct27), sl27⟩)
    (c27 : PySem.W.codeIn K cd27 "Form.at_most" = true)
    (k27 : PySem.W.keepIn K (.ref f27) = true)
    (a28 : PySem.W.findIn K (.ref C3) "same" = some (some (.ref f28)))
    (i28 : PySem.W.isFn K (.ref f28) = true)
    (l28 : K.lookup f28 = some ⟨oc28, od28, .func (PySem.W.fnOf "same" "Form.same" (defArgs s_Form_same) (defBody s_Form_same) (defScope s_Form_same) .none kV28 dc28 pm28 an28 cd28 ct28), sl28⟩)
    (c28 : PySem.W.codeIn K cd28 "Form.same" = true)
    (k28 : PySem.W.keepIn K (.ref f28) = true)
    (a29 : PySem.W.nsIn K mainGlobals "_law_order_right" = some (some (.ref f29)))
    (l29 : K.lookup f29 = some ⟨oc29, od29, .func (PySem.W.fnOf "_law_order_right" "_law_order_right" (defArgs s_l_order_right) (defBody s_l_order_right) (defScope s_l_order_right) .none kV29 dc29 pm29 an29 cd29 ct29), sl29⟩)
    (c29 : PySem.W.codeIn K cd29 "_law_order_right" = true)
    (k29 : PySem.W.keepIn K (.ref f29) = true)
    (a30 : PySem.W.nsIn K mainGlobals "_law_price" = some (some (.ref f30)))
    (l30 : K.lookup f30 = some ⟨oc30, od30, .func (PySem.W.fnOf "_law_price" "_law_price" (defArgs s_l_price) (defBody s_l_price) (defScope s_l_price) .none kV30 dc30 pm30 an30 cd30 ct30), sl30⟩)
    (c30 : PySem.W.codeIn K cd30 "_law_price" = true)
    (k30 : PySem.W.keepIn K (.ref f30) = true)
    (a31 : PySem.W.nsIn K mainGlobals "_law_pick" = some (some (.ref f31)))
    (l31 : K.lookup f31 = some ⟨oc31, od31, .func (PySem.W.fnOf "_law_pick" "_law_pick" (defArgs s_l_pick) (defBody s_l_pick) (defScope s_l_pick) .none kV31 dc31 pm31 an31 cd31 ct31), sl31⟩)
    (c31 : PySem.W.codeIn K cd31 "_law_pick" = true)
    (k31 : PySem.W.keepIn K (.ref f31) = true)
    (a32 : PySem.W.findIn K (.ref C5) "__init__" = some (some (.ref f32)))
    (i32 : PySem.W.isFn K (.ref f32) = true)
    (ti32 : PySem.W.typeIn K (.ref f32) = some (.type "function"))
    (l32 : K.lookup f32 = some ⟨oc32, od32, .func (PySem.W.fnOf "__init__" "NoPrice.__init__" (defArgs s_NoPrice_init) (defBody s_NoPrice_init) (defScope s_NoPrice_init) .none kV32 dc32 pm32 an32 cd32 ct32), sl32⟩)
    (c32 : PySem.W.codeIn K cd32 "NoPrice.__init__" = true)
    (k32 : PySem.W.keepIn K (.ref f32) = true)
    (a33 : PySem.W.findIn K (.ref C6) "__init__" = some (some (.ref f33)))
    (i33 : PySem.W.isFn K (.ref f33) = true)
    (ti33 : PySem.W.typeIn K (.ref f33) = some (.type "function"))
    (l33 : K.lookup f33 = some ⟨oc33, od33, .func (PySem.W.fnOf "__init__" "Negative.__init__" (defArgs s_Negative_init) (defBody s_Negative_init) (defScope s_Negative_init) .none kV33 dc33 pm33 an33 cd33 ct33), sl33⟩)
    (c33 : PySem.W.codeIn K cd33 "Negative.__init__" = true)
    (k33 : PySem.W.keepIn K (.ref f33) = true)
    (a34 : PySem.W.nsIn K mainGlobals "check_prices" = some (some (.ref f34)))
    (l34 : K.lookup f34 = some ⟨oc34, od34, .func (PySem.W.fnOf "check_prices" "check_prices" (defArgs s_check_prices) (defBody s_check_prices) (defScope s_check_prices) .none kV34 dc34 pm34 an34 cd34 ct34), sl34⟩)
    (c34 : PySem.W.codeIn K cd34 "check_prices" = true)
    (k34 : PySem.W.keepIn K (.ref f34) = true)
    (rd2 : PySem.W.readsIn K C2 (.type "type") = true)
    (ga2 : PySem.W.specialIn K (.ref C2) "__getattribute__" = some (some (.builtin "type.__getattribute__")))
    (a35 : PySem.W.findCls K (.ref C2) (.type "type") "sum_of" = some (.get (.builtin "staticmethod.__get__") (.ref p35) .none (.ref C2)))
    (i35 : PySem.W.recIn K p35 "staticmethod" = some (.ref f35 :: rest35))
    (l35 : K.lookup f35 = some ⟨oc35, od35, .func (PySem.W.fnOf "sum_of" "Ratio.sum_of" (defArgs s_Ratio_sum_of) (defBody s_Ratio_sum_of) (defScope s_Ratio_sum_of) .none kV35 dc35 pm35 an35 cd35 ct35), sl35⟩)
    (c35 : PySem.W.codeIn K cd35 "Ratio.sum_of" = true)
    (k35 : PySem.W.keepIn K (.ref f35) = true)
    (a36 : PySem.W.findIn K (.ref C3) "at" = some (some (.ref f36)))
    (i36 : PySem.W.isFn K (.ref f36) = true)
    (l36 : K.lookup f36 = some ⟨oc36, od36, .func (PySem.W.fnOf "at" "Form.at" (defArgs s_Form_at) (defBody s_Form_at) (defScope s_Form_at) .none kV36 dc36 pm36 an36 cd36 ct36), sl36⟩)
    (c36 : PySem.W.codeIn K cd36 "Form.at" = true)
    (k36 : PySem.W.keepIn K (.ref f36) = true)
    (a37 : PySem.W.nsIn K mainGlobals "_law_refusal" = some (some (.ref f37)))
    (l37 : K.lookup f37 = some ⟨oc37, od37, .func (PySem.W.fnOf "_law_refusal" "_law_refusal" (defArgs s_l_refusal) (defBody s_l_refusal) (defScope s_l_refusal) .none kV37 dc37 pm37 an37 cd37 ct37), sl37⟩)
    (c37 : PySem.W.codeIn K cd37 "_law_refusal" = true)
    (k37 : PySem.W.keepIn K (.ref f37) = true)
    (a38 : PySem.W.nsIn K mainGlobals "_law_refused_right" = some (some (.ref f38)))
    (l38 : K.lookup f38 = some ⟨oc38, od38, .func (PySem.W.fnOf "_law_refused_right" "_law_refused_right" (defArgs s_l_refused_right) (defBody s_l_refused_right) (defScope s_l_refused_right) .none kV38 dc38 pm38 an38 cd38 ct38), sl38⟩)
    (c38 : PySem.W.codeIn K cd38 "_law_refused_right" = true)
    (k38 : PySem.W.keepIn K (.ref f38) = true)
    (a39 : PySem.W.nsIn K mainGlobals "_law_mixed" = some (some (.ref f39)))
    (l39 : K.lookup f39 = some ⟨oc39, od39, .func (PySem.W.fnOf "_law_mixed" "_law_mixed" (defArgs s_l_mixed) (defBody s_l_mixed) (defScope s_l_mixed) .none kV39 dc39 pm39 an39 cd39 ct39), sl39⟩)
    (c39 : PySem.W.codeIn K cd39 "_law_mixed" = true)
    (k39 : PySem.W.keepIn K (.ref f39) = true)
    (rd3 : PySem.W.readsIn K C3 (.type "type") = true)
    (ga3 : PySem.W.specialIn K (.ref C3) "__getattribute__" = some (some (.builtin "type.__getattribute__")))
    (a40 : PySem.W.findCls K (.ref C3) (.type "type") "of" = some (.get (.builtin "classmethod.__get__") (.ref p40) .none (.ref C3)))
    (i40 : PySem.W.recIn K p40 "classmethod" = some (.ref f40 :: rest40))
    (fn40 : PySem.W.fnIn K f40 = true)
    (l40 : K.lookup f40 = some ⟨oc40, od40, .func (PySem.W.fnOf "of" "Form.of" (defArgs s_Form_of) (defBody s_Form_of) (defScope s_Form_of) .none kV40 dc40 pm40 an40 cd40 ct40), sl40⟩)
    (c40 : PySem.W.codeIn K cd40 "Form.of" = true)
    (k40 : PySem.W.keepIn K (.ref f40) = true)
    (a41 : PySem.W.nsIn K mainGlobals "_law_bad_names" = some (some (.ref f41)))
    (l41 : K.lookup f41 = some ⟨oc41, od41, .func (PySem.W.fnOf "_law_bad_names" "_law_bad_names" (defArgs s_l_bad_names) (defBody s_l_bad_names) (defScope s_l_bad_names) .none kV41 dc41 pm41 an41 cd41 ct41), sl41⟩)
    (c41 : PySem.W.codeIn K cd41 "_law_bad_names" = true)
    (k41 : PySem.W.keepIn K (.ref f41) = true)
    (a42 : PySem.W.nsIn K mainGlobals "_law_value" = some (some (.ref f42)))
    (l42 : K.lookup f42 = some ⟨oc42, od42, .func (PySem.W.fnOf "_law_value" "_law_value" (defArgs s_l_value) (defBody s_l_value) (defScope s_l_value) .none kV42 dc42 pm42 an42 cd42 ct42), sl42⟩)
    (c42 : PySem.W.codeIn K cd42 "_law_value" = true)
    (k42 : PySem.W.keepIn K (.ref f42) = true)
    (a43 : PySem.W.nsIn K mainGlobals "law" = some (some (.ref f43)))
    (l43 : K.lookup f43 = some ⟨oc43, od43, .func (PySem.W.fnOf "law" "law" (defArgs s_law) (defBody s_law) (defScope s_law) .none kV43 dc43 pm43 an43 cd43 ct43), sl43⟩)
    (c43 : PySem.W.codeIn K cd43 "law" = true)
    (k43 : PySem.W.keepIn K (.ref f43) = true)
    : ∃ fd : FuncData, (∀ (s : Shared) (v : Value), BindsTo s fd ⟨[v], []⟩ [("_law_script", v)]) ∧ ∀ base : Heap, K.In base → base.Ns mainGlobals mg → FnOk l.prog w K mg base (L2N.CX l.prog w) 12 fa fd ["_law_script"] (sp_law K fun _ => 0) := by
  have e := hfa.symm.trans (PySem.W.mg_of X G a43)
  cases e
  have T : Txt K mg (fun n => if n = 0 then C0 else if n = 1 then C1 else if n = 4 then C4 else if n = 5 then C5 else if n = 6 then C6 else if n = 2 then C2 else if n = 3 then C3 else 0) := ⟨PySem.W.mg_none_of X G z_abs, PySem.W.mg_none_of X G z_all, PySem.W.mg_none_of X G z_dict, PySem.W.mg_none_of X G z_int, PySem.W.mg_none_of X G z_isinstance, PySem.W.mg_none_of X G z_len, PySem.W.mg_none_of X G z_list, PySem.W.mg_none_of X G z_min, PySem.W.mg_none_of X G z_range, PySem.W.mg_none_of X G z_sorted, PySem.W.mg_none_of X G z_str, PySem.W.mg_of X G z_gcd, ⟨_, PySem.W.mg_of X G zc__LONGEST⟩, PySem.W.mg_of X G aC0, PySem.W.mg_of X G aC1, fkp_NoRatio, fex_NoRatio, fsb_NoRatio, fty_NoRatio, PySem.W.mg_of X G aC4, exm1 fsb_BadName fxi_BadName fty_BadName fxs_BadName, ⟨fy1_BadName, fy2_BadName, fsb_BadName, fy3_BadName, fy4_BadName, fo5, fo6, fy7_BadName⟩, ⟨⟨_, _, _, _, _, _, _, _, _, _, _, _, _, _, _, xl_BadName, fxr_BadName⟩, sa_BadName, fsb_BadName, fty_BadName, kpr_BadName⟩, ⟨fy1_BadName, fy2_BadName, fsb_BadName, fy3_BadName⟩, fnf_BadName_name, PySem.W.mg_of X G aC5, exm1 fsb_NoPrice fxi_NoPrice fty_NoPrice fxs_NoPrice, ⟨fy1_NoPrice, fy2_NoPrice, fsb_NoPrice, fy3_NoPrice, fy4_NoPrice, fo5, fo6, fy7_NoPrice⟩, ⟨⟨_, _, _, _, _, _, _, _, _, _, _, _, _, _, _, xl_NoPrice, fxr_NoPrice⟩, sa_NoPrice, fsb_NoPrice, fty_NoPrice, kpr_NoPrice⟩, ⟨fy1_NoPrice, fy2_NoPrice, fsb_NoPrice, fy3_NoPrice⟩, fnf_NoPrice_name, PySem.W.mg_of X G aC6, exm1 fsb_Negative fxi_Negative fty_Negative fxs_Negative, ⟨fy1_Negative, fy2_Negative, fsb_Negative, fy3_Negative, fy4_Negative, fo5, fo6, fy7_Negative⟩, ⟨⟨_, _, _, _, _, _, _, _, _, _, _, _, _, _, _, xl_Negative, fxr_Negative⟩, sa_Negative, fsb_Negative, fty_Negative, kpr_Negative⟩, ⟨fy1_Negative, fy2_Negative, fsb_Negative, fy3_Negative⟩, fnf_Negative_name, PySem.W.mg_of X G aC2, ⟨pg2, hd2, po2, sa2⟩, fna_Ratio_top, fna_Ratio_bottom, fic_Ratio, fo5, fo6, fim_Ratio, ⟨fr1_Ratio, fr2_Ratio, fr3_Ratio, ⟨_, fr4_Ratio, fmro_Ratio⟩, ⟨fr_iadd_Ratio, fro_iadd⟩, ⟨fr_isub_Ratio, fro_isub⟩, ⟨fr_imul_Ratio, fro_imul⟩, ⟨_, _, _, _, _, _, fri_add, fri_radd, fri_sub, fri_rsub, fri_mul, fri_rmul⟩, ⟨_, _, _, ⟨frr_radd_Ratio, frs_radd_Ratio⟩, ⟨frr_rsub_Ratio, frs_rsub_Ratio⟩, frr_rmul_Ratio, frs_rmul_Ratio⟩, ⟨_, _, _, frh_add_Ratio, frh_sub_Ratio, frh_mul_Ratio⟩⟩, PySem.W.mg_of X G aC3, ⟨pg3, hd3, po3, sa3⟩, fna_Form__shares, ⟨fr1_Form, fr2_Form, fr3_Form, ⟨_, fr4_Form, fmro_Form⟩, ⟨fr_iadd_Form, fro_iadd⟩, ⟨fr_isub_Form, fro_isub⟩, ⟨fr_imul_Form, fro_imul⟩, ⟨_, _, _, _, _, _, fri_add, fri_radd, fri_sub, fri_rsub, fri_mul, fri_rmul⟩, ⟨_, _, _, ⟨frr_radd_Form, frs_radd_Form⟩, ⟨frr_rsub_Form, frs_rsub_Form⟩, frr_rmul_Form, frs_rmul_Form⟩, ⟨_, _, _, frh_add_Form, frh_sub_Form, frh_mul_Form⟩⟩, fki_BadName_CostError, fki_Negative_CostError, fki_NoPrice_CostError, fki_int_Ratio, PySem.W.exm_ref fsb_NoPrice fy3_NoPrice fty_NoPrice ftx_Negative_NoPrice⟩
  have F0 := fun_mk (st := s_l_bag) l0 c0 k0
  have b0 := F0.binds (ps := ["_law_script"]) fun _ _ _ _ _ _ us hl => match us, hl with | [_], _ => rfl
  have F1 := fun_mk (st := s_l_draw) l1 c1 k1
  have b1 := F1.binds (ps := ["_law_bag_here", "_law_size"]) fun _ _ _ _ _ _ us hl => match us, hl with | [_, _], _ => rfl
  have F2 := fun_mk (st := s_l_names) l2 c2 k2
  have b2 := F2.binds (ps := ["_law_bag_here", "_law_count", "_law_words"]) fun _ _ _ _ _ _ us hl => match us, hl with | [_, _, _], _ => rfl
  have F3 := fun_mk (st := s_l_divisor) l3 c3 k3
  have b3 := F3.binds (ps := ["_law_one", "_law_other"]) fun _ _ _ _ _ _ us hl => match us, hl with | [_, _], _ => rfl
  have F4 := fun_mk (st := s_l_lowest) l4 c4 k4
  have b4 := F4.binds (ps := ["_law_top_here", "_law_bottom"]) fun _ _ _ _ _ _ us hl => match us, hl with | [_, _], _ => rfl
  have F5 := fun_mk (st := s_l_top) l5 c5 k5
  have b5 := F5.binds (ps := ["_law_bag_here"]) fun _ _ _ _ _ _ us hl => match us, hl with | [_], _ => rfl
  have F6 := fun_mk (st := s_l_share) l6 c6 k6
  have b6 := F6.binds (ps := ["_law_bag_here"]) fun _ _ _ _ _ _ us hl => match us, hl with | [_], _ => rfl
  have F7 := fun_mk (st := s_l_shares) l7 c7 k7
  have b7 := F7.binds (ps := ["_law_bag_here", "_law_names_here"]) fun _ _ _ _ _ _ us hl => match us, hl with | [_, _], _ => rfl
  have F8 : FunD K "__init__" "Ratio.__init__" (defArgs s_Ratio_init) (defBody s_Ratio_init) (defScope s_Ratio_init) [.int 1] [] f8 _ := ⟨⟨_, _, _, _, _, _, _, _, _, _, rfl, l8, c8, .inr ⟨by simp, T8, _, [.int 1 tk8_0], nT8, rfl, t8, rfl, (.cons ⟨_, rfl⟩ .nil)⟩, .inl rfl⟩, k8⟩
  have b8_2 := F8.binds1 (ps := ["self", "top", "bottom"]) 3 1 (by simp) (by decide) fun _ _ _ _ _ _ _ us its hl hi => match us, hl, its, hi with | [_, _, _], _, [_], _ => ⟨_, rfl, rfl⟩
  have b8_1 := F8.binds1 (ps := ["self", "top", "bottom"]) 2 0 (by simp) (by decide) fun _ _ _ _ _ _ _ us its hl hi => match us, hl, its, hi with | [_, _], _, [_], _ => ⟨_, rfl, rfl⟩
  have F9 := fun_mk (st := s_l_handed) l9 c9 k9
  have b9 := F9.binds (ps := ["_law_bag_here", "_law_shares_here"]) fun _ _ _ _ _ _ us hl => match us, hl with | [_, _], _ => rfl
  have F10 := fun_mk (st := s_l_sum) l10 c10 k10
  have b10 := F10.binds (ps := ["_law_one", "_law_other", "_law_sign"]) fun _ _ _ _ _ _ us hl => match us, hl with | [_, _, _], _ => rfl
  have F11 := fun_mk (st := s_l_never_greater) l11 c11 k11
  have b11 := F11.binds (ps := ["_law_one", "_law_other", "_law_names_here"]) fun _ _ _ _ _ _ us hl => match us, hl with | [_, _, _], _ => rfl
  have F12 := fun_mk (st := s_is_name) l12 c12 k12
  have b12 := F12.binds (ps := ["name"]) fun _ _ _ _ _ _ us hl => match us, hl with | [_], _ => rfl
  have F13 := fun_mk (st := s_BadName_init) l13 c13 k13
  have b13 := F13.binds (ps := ["self", "name"]) fun _ _ _ _ _ _ us hl => match us, hl with | [_, _], _ => rfl
  have F14 := fun_mk (st := s_check_names) l14 c14 k14
  have b14 := F14.binds (ps := ["names"]) fun _ _ _ _ _ _ us hl => match us, hl with | [_], _ => rfl
  have F15 := fun_mk (st := s_as_ratio) l15 c15 k15
  have b15 := F15.binds (ps := ["number"]) fun _ _ _ _ _ _ us hl => match us, hl with | [_], _ => rfl
  have F16 := fun_mk (st := s_Ratio_same) l16 c16 k16
  have b16 := F16.binds (ps := ["self", "other"]) fun _ _ _ _ _ _ us hl => match us, hl with | [_, _], _ => rfl
  have F17 : FunD K "__init__" "Form.__init__" (defArgs s_Form_init) (defBody s_Form_init) (defScope s_Form_init) [.non] [] f17 _ := ⟨⟨_, _, _, _, _, _, _, _, _, _, rfl, l17, c17, .inr ⟨by simp, T17, _, [.none], nT17, rfl, t17, rfl, (.cons rfl .nil)⟩, .inl rfl⟩, k17⟩
  have b17_1 := F17.binds1 (ps := ["self", "shares"]) 2 1 (by simp) (by decide) fun _ _ _ _ _ _ _ us its hl hi => match us, hl, its, hi with | [_, _], _, [_], _ => ⟨_, rfl, rfl⟩
  have b17_0 := F17.binds1 (ps := ["self", "shares"]) 1 0 (by simp) (by decide) fun _ _ _ _ _ _ _ us its hl hi => match us, hl, its, hi with | [_], _, [_], _ => ⟨_, rfl, rfl⟩
  have F18 := fun_mk (st := s_Form_names) l18 c18 k18
  have b18 := F18.binds (ps := ["self"]) fun _ _ _ _ _ _ us hl => match us, hl with | [_], _ => rfl
  have F19 := fun_mk (st := s_Form_share) l19 c19 k19
  have b19 := F19.binds (ps := ["self", "name"]) fun _ _ _ _ _ _ us hl => match us, hl with | [_, _], _ => rfl
  have F20 := fun_mk (st := s_Ratio_add) l20 c20 k20
  have b20 := F20.binds (ps := ["self", "other"]) fun _ _ _ _ _ _ us hl => match us, hl with | [_, _], _ => rfl
  have F21 := fun_mk (st := s_Form_add) l21 c21 k21
  have b21 := F21.binds (ps := ["self", "other"]) fun _ _ _ _ _ _ us hl => match us, hl with | [_, _], _ => rfl
  have F22 := fun_mk (st := s_Ratio_mul) l22 c22 k22
  have b22 := F22.binds (ps := ["self", "other"]) fun _ _ _ _ _ _ us hl => match us, hl with | [_, _], _ => rfl
  have F23 := fun_mk (st := s_Form_mul) l23 c23 k23
  have b23 := F23.binds (ps := ["self", "other"]) fun _ _ _ _ _ _ us hl => match us, hl with | [_, _], _ => rfl
  have F24 := fun_mk (st := s_Form_neg) l24 c24 k24
  have b24 := F24.binds (ps := ["self"]) fun _ _ _ _ _ _ us hl => match us, hl with | [_], _ => rfl
  have F25 := fun_mk (st := s_Form_sub) l25 c25 k25
  have b25 := F25.binds (ps := ["self", "other"]) fun _ _ _ _ _ _ us hl => match us, hl with | [_, _], _ => rfl
  have F26 := fun_mk (st := s_Ratio_less) l26 c26 k26
  have b26 := F26.binds (ps := ["self", "other"]) fun _ _ _ _ _ _ us hl => match us, hl with | [_, _], _ => rfl
  have F27 := fun_mk (st := s_Form_at_most) l27 c27 k27
  have b27 := F27.binds (ps := ["self", "other"]) fun _ _ _ _ _ _ us hl => match us, hl with | [_, _], _ => rfl
  have F28 := fun_mk (st := s_Form_same) l28 c28 k28
  have b28 := F28.binds (ps := ["self", "other"]) fun _ _ _ _ _ _ us hl => match us, hl with | [_, _], _ => rfl
  have F29 := fun_mk (st := s_l_order_right) l29 c29 k29
  have b29 := F29.binds (ps := ["_law_left", "_law_right", "_law_one", "_law_other", "_law_names_here"]) fun _ _ _ _ _ _ us hl => match us, hl with | [_, _, _, _, _], _ => rfl
  have F30 := fun_mk (st := s_l_price) l30 c30 k30
  have b30 := F30.binds (ps := ["_law_bag_here"]) fun _ _ _ _ _ _ us hl => match us, hl with | [_], _ => rfl
  have F31 := fun_mk (st := s_l_pick) l31 c31 k31
  have b31 := F31.binds (ps := ["_law_bag_here", "_law_items"]) fun _ _ _ _ _ _ us hl => match us, hl with | [_, _], _ => rfl
  have F32 := fun_mk (st := s_NoPrice_init) l32 c32 k32
  have b32 := F32.binds (ps := ["self", "name"]) fun _ _ _ _ _ _ us hl => match us, hl with | [_, _], _ => rfl
  have F33 := fun_mk (st := s_Negative_init) l33 c33 k33
  have b33 := F33.binds (ps := ["self", "name"]) fun _ _ _ _ _ _ us hl => match us, hl with | [_, _], _ => rfl
  have F34 := fun_mk (st := s_check_prices) l34 c34 k34
  have b34 := F34.binds (ps := ["names", "prices"]) fun _ _ _ _ _ _ us hl => match us, hl with | [_, _], _ => rfl
  have F35 := fun_mk (st := s_Ratio_sum_of) l35 c35 k35
  have b35 := F35.binds (ps := ["items"]) fun _ _ _ _ _ _ us hl => match us, hl with | [_], _ => rfl
  have F36 := fun_mk (st := s_Form_at) l36 c36 k36
  have b36 := F36.binds (ps := ["self", "prices"]) fun _ _ _ _ _ _ us hl => match us, hl with | [_, _], _ => rfl
  have F37 := fun_mk (st := s_l_refusal) l37 c37 k37
  have b37 := F37.binds (ps := ["_law_form", "_law_prices"]) fun _ _ _ _ _ _ us hl => match us, hl with | [_, _], _ => rfl
  have F38 := fun_mk (st := s_l_refused_right) l38 c38 k38
  have b38 := F38.binds (ps := ["_law_bag_here", "_law_left", "_law_handed_here"]) fun _ _ _ _ _ _ us hl => match us, hl with | [_, _, _], _ => rfl
  have F39 := fun_mk (st := s_l_mixed) l39 c39 k39
  have b39 := F39.binds (ps := ["_law_bag_here", "_law_items"]) fun _ _ _ _ _ _ us hl => match us, hl with | [_, _], _ => rfl
  have F40 := fun_mk (st := s_Form_of) l40 c40 k40
  have b40 := F40.binds (ps := ["cls", "name"]) fun _ _ _ _ _ _ us hl => match us, hl with | [_, _], _ => rfl
  have F41 := fun_mk (st := s_l_bad_names) l41 c41 k41
  have b41 := F41.binds (ps := ["_law_bag_here", "_law_names_here"]) fun _ _ _ _ _ _ us hl => match us, hl with | [_, _], _ => rfl
  have F42 := fun_mk (st := s_l_value) l42 c42 k42
  have b42 := F42.binds (ps := ["_law_shares_here", "_law_prices"]) fun _ _ _ _ _ _ us hl => match us, hl with | [_, _], _ => rfl
  have F43 := fun_mk (st := s_law) l43 c43 k43
  have b43 := F43.binds (ps := ["_law_script"]) fun _ _ _ _ _ _ us hl => match us, hl with | [_], _ => rfl
  refine ⟨PySem.W.fnOf "law" "law" (defArgs s_law) (defBody s_law) (defScope s_law) .none kV43 dc43 pm43 an43 cd43 ct43, fun s v => .of_eq rfl, fun base _ _ => ?_⟩
  have O0 : Own l.prog w K mg base 1 "_law_bag" ["_law_script"] (sp_l_bag K (fun n => if n = 0 then C0 else if n = 1 then C1 else if n = 4 then C4 else if n = 5 then C5 else if n = 6 then C6 else if n = 2 then C2 else if n = 3 then C3 else 0)) := ⟨⟨f0, _, ok_l_bag F0 T , PySem.W.mg_of X G a0, k0, b0⟩⟩
  have O1 : Own l.prog w K mg base 1 "_law_draw" ["_law_bag_here", "_law_size"] (sp_l_draw K (fun n => if n = 0 then C0 else if n = 1 then C1 else if n = 4 then C4 else if n = 5 then C5 else if n = 6 then C6 else if n = 2 then C2 else if n = 3 then C3 else 0)) := ⟨⟨f1, _, ok_l_draw F1 T , PySem.W.mg_of X G a1, k1, b1⟩⟩
  have O2 : Own l.prog w K mg base 2 "_law_names" ["_law_bag_here", "_law_count", "_law_words"] (sp_l_names K (fun n => if n = 0 then C0 else if n = 1 then C1 else if n = 4 then C4 else if n = 5 then C5 else if n = 6 then C6 else if n = 2 then C2 else if n = 3 then C3 else 0)) := ⟨⟨f2, _, ok_l_names F2 T O1, PySem.W.mg_of X G a2, k2, b2⟩⟩
  have O3 : Own l.prog w K mg base 1 "_law_divisor" ["_law_one", "_law_other"] (sp_l_divisor K (fun n => if n = 0 then C0 else if n = 1 then C1 else if n = 4 then C4 else if n = 5 then C5 else if n = 6 then C6 else if n = 2 then C2 else if n = 3 then C3 else 0)) := ⟨⟨f3, _, ok_l_divisor F3 T , PySem.W.mg_of X G a3, k3, b3⟩⟩
  have O4 : Own l.prog w K mg base 2 "_law_lowest" ["_law_top_here", "_law_bottom"] (sp_l_lowest K (fun n => if n = 0 then C0 else if n = 1 then C1 else if n = 4 then C4 else if n = 5 then C5 else if n = 6 then C6 else if n = 2 then C2 else if n = 3 then C3 else 0)) := ⟨⟨f4, _, ok_l_lowest F4 T O3, PySem.W.mg_of X G a4, k4, b4⟩⟩
  have O5 : Own l.prog w K mg base 2 "_law_top" ["_law_bag_here"] (sp_l_top K (fun n => if n = 0 then C0 else if n = 1 then C1 else if n = 4 then C4 else if n = 5 then C5 else if n = 6 then C6 else if n = 2 then C2 else if n = 3 then C3 else 0)) := ⟨⟨f5, _, ok_l_top F5 T O1, PySem.W.mg_of X G a5, k5, b5⟩⟩
  have O6 : Own l.prog w K mg base 3 "_law_share" ["_law_bag_here"] (sp_l_share K (fun n => if n = 0 then C0 else if n = 1 then C1 else if n = 4 then C4 else if n = 5 then C5 else if n = 6 then C6 else if n = 2 then C2 else if n = 3 then C3 else 0)) := ⟨⟨f6, _, ok_l_share F6 T O4 O1 O5, PySem.W.mg_of X G a6, k6, b6⟩⟩
  have O7 : Own l.prog w K mg base 4 "_law_shares" ["_law_bag_here", "_law_names_here"] (sp_l_shares K (fun n => if n = 0 then C0 else if n = 1 then C1 else if n = 4 then C4 else if n = 5 then C5 else if n = 6 then C6 else if n = 2 then C2 else if n = 3 then C3 else 0)) := ⟨⟨f7, _, ok_l_shares F7 T O1 O6, PySem.W.mg_of X G a7, k7, b7⟩⟩
  obtain ⟨ds8_2, vd8_2, bd8_2⟩ := b8_2
  have O8_2 : OwnI l.prog w K mg base 1 "Ratio" C2 ["self", "top", "bottom"] [] (sp_Ratio_init K (fun n => if n = 0 then C0 else if n = 1 then C1 else if n = 4 then C4 else if n = 5 then C5 else if n = 6 then C6 else if n = 2 then C2 else if n = 3 then C3 else 0)) := ⟨⟨f8, _, _, ok_Ratio_init F8 T , ⟨mk2, a8, i8, kc2⟩, PySem.W.mg_of X G aC2, bd8_2, vd8_2⟩⟩
  obtain ⟨ds8_1, vd8_1, bd8_1⟩ := b8_1
  have O8_1 : OwnI l.prog w K mg base 1 "Ratio" C2 ["self", "top", "bottom"] [.int 1] (sp_Ratio_init K (fun n => if n = 0 then C0 else if n = 1 then C1 else if n = 4 then C4 else if n = 5 then C5 else if n = 6 then C6 else if n = 2 then C2 else if n = 3 then C3 else 0)) := ⟨⟨f8, _, _, ok_Ratio_init F8 T , ⟨mk2, a8, i8, kc2⟩, PySem.W.mg_of X G aC2, bd8_1, vd8_1⟩⟩
  have O9 : Own l.prog w K mg base 3 "_law_handed" ["_law_bag_here", "_law_shares_here"] (sp_l_handed K (fun n => if n = 0 then C0 else if n = 1 then C1 else if n = 4 then C4 else if n = 5 then C5 else if n = 6 then C6 else if n = 2 then C2 else if n = 3 then C3 else 0)) := ⟨⟨f9, _, ok_l_handed F9 T O1 O8_2 O8_1, PySem.W.mg_of X G a9, k9, b9⟩⟩
  have O10 : Own l.prog w K mg base 3 "_law_sum" ["_law_one", "_law_other", "_law_sign"] (sp_l_sum K (fun n => if n = 0 then C0 else if n = 1 then C1 else if n = 4 then C4 else if n = 5 then C5 else if n = 6 then C6 else if n = 2 then C2 else if n = 3 then C3 else 0)) := ⟨⟨f10, _, ok_l_sum F10 T O4, PySem.W.mg_of X G a10, k10, b10⟩⟩
  have O11 : Own l.prog w K mg base 1 "_law_never_greater" ["_law_one", "_law_other", "_law_names_here"] (sp_l_never_greater K (fun n => if n = 0 then C0 else if n = 1 then C1 else if n = 4 then C4 else if n = 5 then C5 else if n = 6 then C6 else if n = 2 then C2 else if n = 3 then C3 else 0)) := ⟨⟨f11, _, ok_l_never_greater F11 T , PySem.W.mg_of X G a11, k11, b11⟩⟩
  have O12 : Own l.prog w K mg base 1 "is_name" ["name"] (sp_is_name K (fun n => if n = 0 then C0 else if n = 1 then C1 else if n = 4 then C4 else if n = 5 then C5 else if n = 6 then C6 else if n = 2 then C2 else if n = 3 then C3 else 0)) := ⟨⟨f12, _, ok_is_name F12 T , PySem.W.mg_of X G a12, k12, b12⟩⟩
  have O13 : OwnE l.prog w K mg base "BadName" C4 ["name"] := ⟨T.ox_BadName, ⟨f13, _, _, ok_BadName_init F13 T , a13, ti13, PySem.W.mg_of X G aC4, b13⟩⟩
  have O14 : Own l.prog w K mg base 3 "check_names" ["names"] (sp_check_names K (fun n => if n = 0 then C0 else if n = 1 then C1 else if n = 4 then C4 else if n = 5 then C5 else if n = 6 then C6 else if n = 2 then C2 else if n = 3 then C3 else 0)) := ⟨⟨f14, _, ok_check_names F14 T O12 O13, PySem.W.mg_of X G a14, k14, b14⟩⟩
  have O15 : Own l.prog w K mg base 3 "as_ratio" ["number"] (sp_as_ratio K (fun n => if n = 0 then C0 else if n = 1 then C1 else if n = 4 then C4 else if n = 5 then C5 else if n = 6 then C6 else if n = 2 then C2 else if n = 3 then C3 else 0)) := ⟨⟨f15, _, ok_as_ratio F15 T O8_2 O8_1, PySem.W.mg_of X G a15, k15, b15⟩⟩
  have O16 : OwnM l.prog w K mg base 4 C2 "same" ["self", "other"] (sp_Ratio_same K (fun n => if n = 0 then C0 else if n = 1 then C1 else if n = 4 then C4 else if n = 5 then C5 else if n = 6 then C6 else if n = 2 then C2 else if n = 3 then C3 else 0)) := ⟨⟨pg2, hd2, po2, sa2⟩, ⟨f16, _, ok_Ratio_same F16 T O15, ⟨a16, i16, k16⟩, b16⟩⟩
  obtain ⟨ds17_1, vd17_1, bd17_1⟩ := b17_1
  have O17_1 : OwnI l.prog w K mg base 5 "Form" C3 ["self", "shares"] [] (sp_Form_init K (fun n => if n = 0 then C0 else if n = 1 then C1 else if n = 4 then C4 else if n = 5 then C5 else if n = 6 then C6 else if n = 2 then C2 else if n = 3 then C3 else 0)) := ⟨⟨f17, _, _, ok_Form_init F17 T O14 O15 O16, ⟨mk3, a17, i17, kc3⟩, PySem.W.mg_of X G aC3, bd17_1, vd17_1⟩⟩
  obtain ⟨ds17_0, vd17_0, bd17_0⟩ := b17_0
  have O17_0 : OwnI l.prog w K mg base 5 "Form" C3 ["self", "shares"] [.non] (sp_Form_init K (fun n => if n = 0 then C0 else if n = 1 then C1 else if n = 4 then C4 else if n = 5 then C5 else if n = 6 then C6 else if n = 2 then C2 else if n = 3 then C3 else 0)) := ⟨⟨f17, _, _, ok_Form_init F17 T O14 O15 O16, ⟨mk3, a17, i17, kc3⟩, PySem.W.mg_of X G aC3, bd17_0, vd17_0⟩⟩
  have O18 : OwnM l.prog w K mg base 1 C3 "names" ["self"] (sp_Form_names K (fun n => if n = 0 then C0 else if n = 1 then C1 else if n = 4 then C4 else if n = 5 then C5 else if n = 6 then C6 else if n = 2 then C2 else if n = 3 then C3 else 0)) := ⟨⟨pg3, hd3, po3, sa3⟩, ⟨f18, _, ok_Form_names F18 T , ⟨a18, i18, k18⟩, b18⟩⟩
  have O19 : OwnM l.prog w K mg base 3 C3 "share" ["self", "name"] (sp_Form_share K (fun n => if n = 0 then C0 else if n = 1 then C1 else if n = 4 then C4 else if n = 5 then C5 else if n = 6 then C6 else if n = 2 then C2 else if n = 3 then C3 else 0)) := ⟨⟨pg3, hd3, po3, sa3⟩, ⟨f19, _, ok_Form_share F19 T O8_2 O8_1, ⟨a19, i19, k19⟩, b19⟩⟩
  have O20 : OwnM l.prog w K mg base 4 C2 "__add__" ["self", "other"] (sp_Ratio_add K (fun n => if n = 0 then C0 else if n = 1 then C1 else if n = 4 then C4 else if n = 5 then C5 else if n = 6 then C6 else if n = 2 then C2 else if n = 3 then C3 else 0)) := ⟨⟨pg2, hd2, po2, sa2⟩, ⟨f20, _, ok_Ratio_add F20 T O15 O8_2 O8_1, ⟨a20, i20, k20⟩, b20⟩⟩
  have O21 : OwnM l.prog w K mg base 7 C3 "__add__" ["self", "other"] (sp_Form_add K (fun n => if n = 0 then C0 else if n = 1 then C1 else if n = 4 then C4 else if n = 5 then C5 else if n = 6 then C6 else if n = 2 then C2 else if n = 3 then C3 else 0)) := ⟨⟨pg3, hd3, po3, sa3⟩, ⟨f21, _, ok_Form_add F21 T O17_1 O17_0 O18 O19 O20, ⟨a21, i21, k21⟩, b21⟩⟩
  have O22 : OwnM l.prog w K mg base 4 C2 "__mul__" ["self", "other"] (sp_Ratio_mul K (fun n => if n = 0 then C0 else if n = 1 then C1 else if n = 4 then C4 else if n = 5 then C5 else if n = 6 then C6 else if n = 2 then C2 else if n = 3 then C3 else 0)) := ⟨⟨pg2, hd2, po2, sa2⟩, ⟨f22, _, ok_Ratio_mul F22 T O15 O8_2 O8_1, ⟨a22, i22, k22⟩, b22⟩⟩
  have O23 : OwnM l.prog w K mg base 7 C3 "__mul__" ["self", "other"] (sp_Form_mul K (fun n => if n = 0 then C0 else if n = 1 then C1 else if n = 4 then C4 else if n = 5 then C5 else if n = 6 then C6 else if n = 2 then C2 else if n = 3 then C3 else 0)) := ⟨⟨pg3, hd3, po3, sa3⟩, ⟨f23, _, ok_Form_mul F23 T O17_1 O17_0 O22, ⟨a23, i23, k23⟩, b23⟩⟩
  have O24 : OwnM l.prog w K mg base 8 C3 "__neg__" ["self"] (sp_Form_neg K (fun n => if n = 0 then C0 else if n = 1 then C1 else if n = 4 then C4 else if n = 5 then C5 else if n = 6 then C6 else if n = 2 then C2 else if n = 3 then C3 else 0)) := ⟨⟨pg3, hd3, po3, sa3⟩, ⟨f24, _, ok_Form_neg F24 T O23, ⟨a24, i24, k24⟩, b24⟩⟩
  have O25 : OwnM l.prog w K mg base 9 C3 "__sub__" ["self", "other"] (sp_Form_sub K (fun n => if n = 0 then C0 else if n = 1 then C1 else if n = 4 then C4 else if n = 5 then C5 else if n = 6 then C6 else if n = 2 then C2 else if n = 3 then C3 else 0)) := ⟨⟨pg3, hd3, po3, sa3⟩, ⟨f25, _, ok_Form_sub F25 T O21 O24, ⟨a25, i25, k25⟩, b25⟩⟩
  have O26 : OwnM l.prog w K mg base 4 C2 "less" ["self", "other"] (sp_Ratio_less K (fun n => if n = 0 then C0 else if n = 1 then C1 else if n = 4 then C4 else if n = 5 then C5 else if n = 6 then C6 else if n = 2 then C2 else if n = 3 then C3 else 0)) := ⟨⟨pg2, hd2, po2, sa2⟩, ⟨f26, _, ok_Ratio_less F26 T O15, ⟨a26, i26, k26⟩, b26⟩⟩
  have O27 : OwnM l.prog w K mg base 10 C3 "at_most" ["self", "other"] (sp_Form_at_most K (fun n => if n = 0 then C0 else if n = 1 then C1 else if n = 4 then C4 else if n = 5 then C5 else if n = 6 then C6 else if n = 2 then C2 else if n = 3 then C3 else 0)) := ⟨⟨pg3, hd3, po3, sa3⟩, ⟨f27, _, ok_Form_at_most F27 T O25 O18 O19 O26, ⟨a27, i27, k27⟩, b27⟩⟩
  have O28 : OwnM l.prog w K mg base 10 C3 "same" ["self", "other"] (sp_Form_same K (fun n => if n = 0 then C0 else if n = 1 then C1 else if n = 4 then C4 else if n = 5 then C5 else if n = 6 then C6 else if n = 2 then C2 else if n = 3 then C3 else 0)) := ⟨⟨pg3, hd3, po3, sa3⟩, ⟨f28, _, ok_Form_same F28 T O25 O18, ⟨a28, i28, k28⟩, b28⟩⟩
  have O29 : Own l.prog w K mg base 11 "_law_order_right" ["_law_left", "_law_right", "_law_one", "_law_other", "_law_names_here"] (sp_l_order_right K (fun n => if n = 0 then C0 else if n = 1 then C1 else if n = 4 then C4 else if n = 5 then C5 else if n = 6 then C6 else if n = 2 then C2 else if n = 3 then C3 else 0)) := ⟨⟨f29, _, ok_l_order_right F29 T O11 O27 O28, PySem.W.mg_of X G a29, k29, b29⟩⟩
  have O30 : Own l.prog w K mg base 3 "_law_price" ["_law_bag_here"] (sp_l_price K (fun n => if n = 0 then C0 else if n = 1 then C1 else if n = 4 then C4 else if n = 5 then C5 else if n = 6 then C6 else if n = 2 then C2 else if n = 3 then C3 else 0)) := ⟨⟨f30, _, ok_l_price F30 T O1 O4, PySem.W.mg_of X G a30, k30, b30⟩⟩
  have O31 : Own l.prog w K mg base 2 "_law_pick" ["_law_bag_here", "_law_items"] (sp_l_pick K (fun n => if n = 0 then C0 else if n = 1 then C1 else if n = 4 then C4 else if n = 5 then C5 else if n = 6 then C6 else if n = 2 then C2 else if n = 3 then C3 else 0)) := ⟨⟨f31, _, ok_l_pick F31 T O1, PySem.W.mg_of X G a31, k31, b31⟩⟩
  have O32 : OwnE l.prog w K mg base "NoPrice" C5 ["name"] := ⟨T.ox_NoPrice, ⟨f32, _, _, ok_NoPrice_init F32 T , a32, ti32, PySem.W.mg_of X G aC5, b32⟩⟩
  have O33 : OwnE l.prog w K mg base "Negative" C6 ["name"] := ⟨T.ox_Negative, ⟨f33, _, _, ok_Negative_init F33 T , a33, ti33, PySem.W.mg_of X G aC6, b33⟩⟩
  have O34 : Own l.prog w K mg base 5 "check_prices" ["names", "prices"] (sp_check_prices K (fun n => if n = 0 then C0 else if n = 1 then C1 else if n = 4 then C4 else if n = 5 then C5 else if n = 6 then C6 else if n = 2 then C2 else if n = 3 then C3 else 0)) := ⟨⟨f34, _, ok_check_prices F34 T O15 O32 O33 O26, PySem.W.mg_of X G a34, k34, b34⟩⟩
  have O35 : OwnS l.prog w K mg base 5 C2 "sum_of" ["items"] (sp_Ratio_sum_of K (fun n => if n = 0 then C0 else if n = 1 then C1 else if n = 4 then C4 else if n = 5 then C5 else if n = 6 then C6 else if n = 2 then C2 else if n = 3 then C3 else 0)) := ⟨⟨f35, _, p35, .type "type", ok_Ratio_sum_of F35 T O8_2 O8_1 O20, ⟨rd2, ga2⟩, a35, ⟨_, i35⟩, k35, b35⟩⟩
  have O36 : OwnM l.prog w K mg base 6 C3 "at" ["self", "prices"] (sp_Form_at K (fun n => if n = 0 then C0 else if n = 1 then C1 else if n = 4 then C4 else if n = 5 then C5 else if n = 6 then C6 else if n = 2 then C2 else if n = 3 then C3 else 0)) := ⟨⟨pg3, hd3, po3, sa3⟩, ⟨f36, _, ok_Form_at F36 T O34 O18 O22 O35, ⟨a36, i36, k36⟩, b36⟩⟩
  have O37 : Own l.prog w K mg base 7 "_law_refusal" ["_law_form", "_law_prices"] (sp_l_refusal K (fun n => if n = 0 then C0 else if n = 1 then C1 else if n = 4 then C4 else if n = 5 then C5 else if n = 6 then C6 else if n = 2 then C2 else if n = 3 then C3 else 0)) := ⟨⟨f37, _, ok_l_refusal F37 T O36, PySem.W.mg_of X G a37, k37, b37⟩⟩
  have O38 : Own l.prog w K mg base 8 "_law_refused_right" ["_law_bag_here", "_law_left", "_law_handed_here"] (sp_l_refused_right K (fun n => if n = 0 then C0 else if n = 1 then C1 else if n = 4 then C4 else if n = 5 then C5 else if n = 6 then C6 else if n = 2 then C2 else if n = 3 then C3 else 0)) := ⟨⟨f38, _, ok_l_refused_right F38 T O1 O37 O8_2 O8_1 O18, PySem.W.mg_of X G a38, k38, b38⟩⟩
  have O39 : Own l.prog w K mg base 2 "_law_mixed" ["_law_bag_here", "_law_items"] (sp_l_mixed K (fun n => if n = 0 then C0 else if n = 1 then C1 else if n = 4 then C4 else if n = 5 then C5 else if n = 6 then C6 else if n = 2 then C2 else if n = 3 then C3 else 0)) := ⟨⟨f39, _, ok_l_mixed F39 T O1, PySem.W.mg_of X G a39, k39, b39⟩⟩
  have O40 : OwnC l.prog w K mg base 7 C3 "of" ["cls", "name"] (sp_Form_of K (fun n => if n = 0 then C0 else if n = 1 then C1 else if n = 4 then C4 else if n = 5 then C5 else if n = 6 then C6 else if n = 2 then C2 else if n = 3 then C3 else 0)) := ⟨⟨f40, _, p40, .type "type", ok_Form_of F40 T O17_1 O17_0, ⟨rd3, ga3⟩, ⟨a40, ⟨_, i40⟩, fn40⟩, b40⟩⟩
  have O41 : Own l.prog w K mg base 8 "_law_bad_names" ["_law_bag_here", "_law_names_here"] (sp_l_bad_names K (fun n => if n = 0 then C0 else if n = 1 then C1 else if n = 4 then C4 else if n = 5 then C5 else if n = 6 then C6 else if n = 2 then C2 else if n = 3 then C3 else 0)) := ⟨⟨f41, _, ok_l_bad_names F41 T O39 O1 O17_1 O17_0 O8_2 O8_1 O40, PySem.W.mg_of X G a41, k41, b41⟩⟩
  have O42 : Own l.prog w K mg base 3 "_law_value" ["_law_shares_here", "_law_prices"] (sp_l_value K (fun n => if n = 0 then C0 else if n = 1 then C1 else if n = 4 then C4 else if n = 5 then C5 else if n = 6 then C6 else if n = 2 then C2 else if n = 3 then C3 else 0)) := ⟨⟨f42, _, ok_l_value F42 T O4, PySem.W.mg_of X G a42, k42, b42⟩⟩
  have z : FnOk l.prog w K mg base (L2N.CX l.prog w) 12 _ _ ["_law_script"] (sp_law K (fun n => if n = 0 then C0 else if n = 1 then C1 else if n = 4 then C4 else if n = 5 then C5 else if n = 6 then C6 else if n = 2 then C2 else if n = 3 then C3 else 0)) := ok_law F43 T O0 O2 O7 O9 O1 O10 O29 O30 O31 O38 O41 O6 O42 O17_1 O17_0 O8_2 O8_1 O36 O18
  exact z
end Lo
open PySem PySem.W PyProof.Rows in
set_option maxRecDepth 100000 in
set_option maxHeartbeats 0 in
theorem PySem.Challenge.cw_lotcosts_k22_forms_in_order_and_at_price_holds : PySem.Challenge.rw_lotcosts_k22_forms_in_order_and_at_price.Holds := by
  w_on; o_law; k_head; (case hw => w_witness2)
  k_fill
  refine Lo.walk (l := PySem.Challenge.rw_lotcosts_k22_forms_in_order_and_at_price) 12 ⟨rfl, by decide, by decide⟩ rfl rfl (fun w h Y => PySem.W.kIn_of Y) ?F
  case F =>
    intro w mg fa h KX G hmg
    refine' Lo.all_mk KX G hmg ?aC0 ?aC1 ?aC4 ?aC5 ?aC6 ?aC2 ?aC3 ?pg2 ?hd2 ?po2 ?sa2 ?mk2 ?kc2 ?pg3 ?hd3 ?po3 ?sa3 ?mk3 ?kc3 ?z_abs ?z_all ?z_dict ?z_int ?z_isinstance ?z_len ?z_list ?z_min ?z_range ?z_sorted ?z_str ?z_gcd ?zc__LONGEST ?fkp_NoRatio ?fex_NoRatio ?fsb_NoRatio ?fty_NoRatio ?fsb_BadName ?fxi_BadName ?fty_BadName ?fxs_BadName ?fy1_BadName ?fy2_BadName ?fy3_BadName ?fy4_BadName ?fo5 ?fo6 ?fy7_BadName ?xl_BadName ?fxr_BadName ?sa_BadName ?kpr_BadName ?fnf_BadName_name ?fsb_NoPrice ?fxi_NoPrice ?fty_NoPrice ?fxs_NoPrice ?fy1_NoPrice ?fy2_NoPrice ?fy3_NoPrice ?fy4_NoPrice ?fy7_NoPrice ?xl_NoPrice ?fxr_NoPrice ?sa_NoPrice ?kpr_NoPrice ?fnf_NoPrice_name ?fsb_Negative ?fxi_Negative ?fty_Negative ?fxs_Negative ?fy1_Negative ?fy2_Negative ?fy3_Negative ?fy4_Negative ?fy7_Negative ?xl_Negative ?fxr_Negative ?sa_Negative ?kpr_Negative ?fnf_Negative_name ?fna_Ratio_top ?fna_Ratio_bottom ?fic_Ratio ?fim_Ratio ?fr1_Ratio ?fr2_Ratio ?fr3_Ratio ?fr4_Ratio ?fmro_Ratio ?fr_iadd_Ratio ?fro_iadd ?fr_isub_Ratio ?fro_isub ?fr_imul_Ratio ?fro_imul ?fri_add ?fri_radd ?fri_sub ?fri_rsub ?fri_mul ?fri_rmul ?frr_radd_Ratio ?frs_radd_Ratio ?frr_rsub_Ratio ?frs_rsub_Ratio ?frr_rmul_Ratio ?frs_rmul_Ratio ?frh_add_Ratio ?frh_sub_Ratio ?frh_mul_Ratio ?fna_Form__shares ?fr1_Form ?fr2_Form ?fr3_Form ?fr4_Form ?fmro_Form ?fr_iadd_Form ?fr_isub_Form ?fr_imul_Form ?frr_radd_Form ?frs_radd_Form ?frr_rsub_Form ?frs_rsub_Form ?frr_rmul_Form ?frs_rmul_Form ?frh_add_Form ?frh_sub_Form ?frh_mul_Form ?fki_BadName_CostError ?fki_Negative_CostError ?fki_NoPrice_CostError ?fki_int_Ratio ?ftx_Negative_NoPrice ?a0 ?l0 ?c0 ?k0 ?a1 ?l1 ?c1 ?k1 ?a2 ?l2 ?c2 ?k2 ?a3 ?l3 ?c3 ?k3 ?a4 ?l4 ?c4 ?k4 ?a5 ?l5 ?c5 ?k5 ?a6 ?l6 ?c6 ?k6 ?a7 ?l7 ?c7 ?k7 ?a8 ?i8 ?l8 ?c8 ?k8 ?t8 ?a9 ?l9 ?c9 ?k9 ?a10 ?l10 ?c10 ?k10 ?a11 ?l11 ?c11 ?k11 ?a12 ?l12 ?c12 ?k12 ?a13 ?i13 ?ti13 ?l13 ?c13 ?k13 ?a14 ?l14 ?c14 ?k14 ?a15 ?l15 ?c15 ?k15 ?a16 ?i16 ?l16 ?c16 ?k16 ?a17 ?i17 ?l17 ?c17 ?k17 ?t17 ?a18 ?i18 ?l18 ?c18 ?k18 ?a19 ?i19 ?l19 ?c19 ?k19 ?a20 ?i20 ?l20 ?c20 ?k20 ?a21 ?i21 ?l21 ?c21 ?k21 ?a22 ?i22 ?l22 ?c22 ?k22 ?a23 ?i23 ?l23 ?c23 ?k23 ?a24 ?i24 ?l24 ?c24 ?k24 ?a25 ?i25 ?l25 ?c25 ?k25 ?a26 ?i26 ?l26 ?c26 ?k26 ?a27 ?i27 ?l27 ?c27 ?k27 ?a28 ?i28 ?l28 ?c28 ?k28 ?a29 ?l29 ?c29 ?k29 ?a30 ?l30 ?c30 ?k30 ?a31 ?l31 ?c31 ?k31 ?a32 ?i32 ?ti32 ?l32 ?c32 ?k32 ?a33 ?i33 ?ti33 ?l33 ?c33 ?k33 ?a34 ?l34 ?c34 ?k34 ?rd2 ?ga2 ?a35 ?i35 ?l35 ?c35 ?k35 ?a36 ?i36 ?l36 ?c36 ?k36 ?a37 ?l37 ?c37 ?k37 ?a38 ?l38 ?c38 ?k38 ?a39 ?l39 ?c39 ?k39 ?rd3 ?ga3 ?a40 ?i40 ?fn40 ?l40 ?c40 ?k40 ?a41 ?l41 ?c41 ?k41 ?a42 ?l42 ?c42 ?k42 ?a43 ?l43 ?c43 ?k43
    (case aC0 => k_is)
    (case aC1 => k_is)
    (case aC4 => k_is)
    (case aC5 => k_is)
    (case aC6 => k_is)
    (case aC2 => k_is)
    (case aC3 => k_is)
    (case pg2 => k_is)
    (case hd2 => k_is)
    (case po2 => k_is)
    (case sa2 => k_is)
    (case mk2 => k_is)
    (case kc2 => k_is)
    (case pg3 => k_is)
    (case hd3 => k_is)
    (case po3 => k_is)
    (case sa3 => k_is)
    (case mk3 => k_is)
    (case kc3 => k_is)
    (case z_abs => k_is)
    (case z_all => k_is)
    (case z_dict => k_is)
    (case z_int => k_is)
    (case z_isinstance => k_is)
    (case z_len => k_is)
    (case z_list => k_is)
    (case z_min => k_is)
    (case z_range => k_is)
    (case z_sorted => k_is)
    (case z_str => k_is)
    (case z_gcd => k_is)
    (case zc__LONGEST => k_is)
    (case fkp_NoRatio => k_is)
    (case fex_NoRatio => k_exc)
    (case fsb_NoRatio => k_is)
    (case fty_NoRatio => k_is)
    (case fsb_BadName => k_is)
    (case fxi_BadName => k_is)
    (case fty_BadName => k_is)
    (case fxs_BadName => first | rfl | k_is)
    (case fy1_BadName => k_is)
    (case fy2_BadName => k_is)
    (case fy3_BadName => k_is)
    (case fy4_BadName => k_is)
    (case fo5 => k_is)
    (case fo6 => k_is)
    (case fy7_BadName => k_is)
    (case xl_BadName => k_is)
    (case fxr_BadName => rfl)
    (case sa_BadName => k_is)
    (case kpr_BadName => k_is)
    (case fnf_BadName_name => k_is)
    (case fsb_NoPrice => k_is)
    (case fxi_NoPrice => k_is)
    (case fty_NoPrice => k_is)
    (case fxs_NoPrice => first | rfl | k_is)
    (case fy1_NoPrice => k_is)
    (case fy2_NoPrice => k_is)
    (case fy3_NoPrice => k_is)
    (case fy4_NoPrice => k_is)
    (case fy7_NoPrice => k_is)
    (case xl_NoPrice => k_is)
    (case fxr_NoPrice => rfl)
    (case sa_NoPrice => k_is)
    (case kpr_NoPrice => k_is)
    (case fnf_NoPrice_name => k_is)
    (case fsb_Negative => k_is)
    (case fxi_Negative => k_is)
    (case fty_Negative => k_is)
    (case fxs_Negative => first | rfl | k_is)
    (case fy1_Negative => k_is)
    (case fy2_Negative => k_is)
    (case fy3_Negative => k_is)
    (case fy4_Negative => k_is)
    (case fy7_Negative => k_is)
    (case xl_Negative => k_is)
    (case fxr_Negative => rfl)
    (case sa_Negative => k_is)
    (case kpr_Negative => k_is)
    (case fnf_Negative_name => k_is)
    (case fna_Ratio_top => k_is)
    (case fna_Ratio_bottom => k_is)
    (case fic_Ratio => k_is)
    (case fim_Ratio => k_is)
    (case fr1_Ratio => k_is)
    (case fr2_Ratio => k_is)
    (case fr3_Ratio => k_is)
    (case fr4_Ratio => k_is)
    (case fmro_Ratio => rfl)
    (case fr_iadd_Ratio => k_is)
    (case fro_iadd => k_is)
    (case fr_isub_Ratio => k_is)
    (case fro_isub => k_is)
    (case fr_imul_Ratio => k_is)
    (case fro_imul => k_is)
    (case fri_add => k_is)
    (case fri_radd => k_is)
    (case fri_sub => k_is)
    (case fri_rsub => k_is)
    (case fri_mul => k_is)
    (case fri_rmul => k_is)
    (case frr_radd_Ratio => k_is)
    (case frs_radd_Ratio => rfl)
    (case frr_rsub_Ratio => k_is)
    (case frs_rsub_Ratio => rfl)
    (case frr_rmul_Ratio => k_is)
    (case frs_rmul_Ratio => rfl)
    (case frh_add_Ratio => k_is)
    (case frh_sub_Ratio => k_is)
    (case frh_mul_Ratio => k_is)
    (case fna_Form__shares => k_is)
    (case fr1_Form => k_is)
    (case fr2_Form => k_is)
    (case fr3_Form => k_is)
    (case fr4_Form => k_is)
    (case fmro_Form => rfl)
    (case fr_iadd_Form => k_is)
    (case fr_isub_Form => k_is)
    (case fr_imul_Form => k_is)
    (case frr_radd_Form => k_is)
    (case frs_radd_Form => rfl)
    (case frr_rsub_Form => k_is)
    (case frs_rsub_Form => rfl)
    (case frr_rmul_Form => k_is)
    (case frs_rmul_Form => rfl)
    (case frh_add_Form => k_is)
    (case frh_sub_Form => k_is)
    (case frh_mul_Form => k_is)
    (case fki_BadName_CostError => kit_is)
    (case fki_Negative_CostError => kit_is)
    (case fki_NoPrice_CostError => kit_is)
    (case fki_int_Ratio => kit_is)
    (case ftx_Negative_NoPrice => k_is)
    (case a0 => k_is)
    (case l0 => k_is)
    (case c0 => k_is)
    (case k0 => k_is)
    (case a1 => k_is)
    (case l1 => k_is)
    (case c1 => k_is)
    (case k1 => k_is)
    (case a2 => k_is)
    (case l2 => k_is)
    (case c2 => k_is)
    (case k2 => k_is)
    (case a3 => k_is)
    (case l3 => k_is)
    (case c3 => k_is)
    (case k3 => k_is)
    (case a4 => k_is)
    (case l4 => k_is)
    (case c4 => k_is)
    (case k4 => k_is)
    (case a5 => k_is)
    (case l5 => k_is)
    (case c5 => k_is)
    (case k5 => k_is)
    (case a6 => k_is)
    (case l6 => k_is)
    (case c6 => k_is)
    (case k6 => k_is)
    (case a7 => k_is)
    (case l7 => k_is)
    (case c7 => k_is)
    (case k7 => k_is)
    (case a8 => k_is)
    (case i8 => k_is)
    (case l8 => k_is)
    (case c8 => k_is)
    (case k8 => k_is)
    (case t8 => k_is)
    (case a9 => k_is)
    (case l9 => k_is)
    (case c9 => k_is)
    (case k9 => k_is)
    (case a10 => k_is)
    (case l10 => k_is)
    (case c10 => k_is)
    (case k10 => k_is)
    (case a11 => k_is)
    (case l11 => k_is)
    (case c11 => k_is)
    (case k11 => k_is)
    (case a12 => k_is)
    (case l12 => k_is)
    (case c12 => k_is)
    (case k12 => k_is)
    (case a13 => k_is)
    (case i13 => k_is)
    (case ti13 => k_is)
    (case l13 => k_is)
    (case c13 => k_is)
    (case k13 => k_is)
    (case a14 => k_is)
    (case l14 => k_is)
    (case c14 => k_is)
    (case k14 => k_is)
    (case a15 => k_is)
    (case l15 => k_is)
    (case c15 => k_is)
    (case k15 => k_is)
    (case a16 => k_is)
    (case i16 => k_is)
    (case l16 => k_is)
    (case c16 => k_is)
    (case k16 => k_is)
    (case a17 => k_is)
    (case i17 => k_is)
    (case l17 => k_is)
    (case c17 => k_is)
    (case k17 => k_is)
    (case t17 => k_is)
    (case a18 => k_is)
    (case i18 => k_is)
    (case l18 => k_is)
    (case c18 => k_is)
    (case k18 => k_is)
    (case a19 => k_is)
    (case i19 => k_is)
    (case l19 => k_is)
    (case c19 => k_is)
    (case k19 => k_is)
    (case a20 => k_is)
    (case i20 => k_is)
    (case l20 => k_is)
    (case c20 => k_is)
    (case k20 => k_is)
    (case a21 => k_is)
    (case i21 => k_is)
    (case l21 => k_is)
    (case c21 => k_is)
    (case k21 => k_is)
    (case a22 => k_is)
    (case i22 => k_is)
    (case l22 => k_is)
    (case c22 => k_is)
    (case k22 => k_is)
    (case a23 => k_is)
    (case i23 => k_is)
    (case l23 => k_is)
    (case c23 => k_is)
    (case k23 => k_is)
    (case a24 => k_is)
    (case i24 => k_is)
    (case l24 => k_is)
    (case c24 => k_is)
    (case k24 => k_is)
    (case a25 => k_is)
    (case i25 => k_is)
    (case l25 => k_is)
    (case c25 => k_is)
    (case k25 => k_is)
    (case a26 => k_is)
    (case i26 => k_is)
    (case l26 => k_is)
    (case c26 => k_is)
    (case k26 => k_is)
    (case a27 => k_is)
    (case i27 => k_is)
    (case l27 => k_is)
    (case c27 => k_is)
    (case k27 => k_is)
    (case a28 => k_is)
    (case i28 => k_is)
    (case l28 => k_is)
    (case c28 => k_is)
    (case k28 => k_is)
    (case a29 => k_is)
    (case l29 => k_is)
    (case c29 => k_is)
    (case k29 => k_is)
    (case a30 => k_is)
    (case l30 => k_is)
    (case c30 => k_is)
    (case k30 => k_is)
    (case a31 => k_is)
    (case l31 => k_is)
    (case c31 => k_is)
    (case k31 => k_is)
    (case a32 => k_is)
    (case i32 => k_is)
    (case ti32 => k_is)
    (case l32 => k_is)
    (case c32 => k_is)
    (case k32 => k_is)
    (case a33 => k_is)
    (case i33 => k_is)
    (case ti33 => k_is)
    (case l33 => k_is)
    (case c33 => k_is)
    (case k33 => k_is)
    (case a34 => k_is)
    (case l34 => k_is)
    (case c34 => k_is)
    (case k34 => k_is)
    (case rd2 => k_is)
    (case ga2 => k_is)
    (case a35 => k_is)
    (case i35 => k_is)
    (case l35 => k_is)
    (case c35 => k_is)
    (case k35 => k_is)
    (case a36 => k_is)
    (case i36 => k_is)
    (case l36 => k_is)
    (case c36 => k_is)
    (case k36 => k_is)
    (case a37 => k_is)
    (case l37 => k_is)
    (case c37 => k_is)
    (case k37 => k_is)
    (case a38 => k_is)
    (case l38 => k_is)
    (case c38 => k_is)
    (case k38 => k_is)
    (case a39 => k_is)
    (case l39 => k_is)
    (case c39 => k_is)
    (case k39 => k_is)
    (case rd3 => k_is)
    (case ga3 => k_is)
    (case a40 => k_is)
    (case i40 => k_is)
    (case fn40 => k_is)
    (case l40 => k_is)
    (case c40 => k_is)
    (case k40 => k_is)
    (case a41 => k_is)
    (case l41 => k_is)
    (case c41 => k_is)
    (case k41 => k_is)
    (case a42 => k_is)
    (case l42 => k_is)
    (case c42 => k_is)
    (case k42 => k_is)
    (case a43 => k_is)
    (case l43 => k_is)
    (case c43 => k_is)
    (case k43 => k_is)
#print axioms PySem.Challenge.cw_lotcosts_k22_forms_in_order_and_at_price_holds
