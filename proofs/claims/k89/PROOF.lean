import PyProof.Rows.All
import Wide.All
import OpenK.AllK
import Wide.FinOn
import HandS.ForMost
import HandS.ForExc
import HandS.Flow
import HandS.Wide
import HandS.Gcd
import HandS.IsInst
import HandS.EndBits
import HandS.Defaults
import HandS.Style
import HandS.TryMany
import HandS.ExcIs
import HandS.ExcCtx
import HandS.Small
import HandS.ClsMeth
import HandS.Evl
import KE.RegKIsAll
import KE.KOpsOwn
import HandS.OwnEq
import HandS.DictComp
import HandS.Walk
import HandS.StrMore
import HandS.More
import HandS.Finally
import HandS.NoneIn
import HandS.ExcInit
import HandS.ExcField
import HandS.SetKeys
import HandS.TupSets
import HandS.MakeKwOnly
import KE.KExcIs
import HandS.ExcValue
import PyProof.SumWalkG
import PyProof.WalkInts
import PyProof.TwoTypesSub
import PyProof.MinMaxWalk
import HandS.Hot
import HandS.HotCalls
import PyProof.CallStr
import HandS.RaiseMore
import PyProof.Walks
import KE.KMathG
import PyProof.NeKinds
import PySem.Challenge.RW_lotcosts_k89_cents_dealt_out
set_option Elab.async false
set_option linter.all false
set_option maxRecDepth 100000
set_option maxHeartbeats 4000000
namespace Lo
open PySem PySem.Spec PyProof.Rows L2

/-! ### heaps -/
theorem sget {H H' : Hp} {a : Addr} {o : HO} (s : Same H H') (h : H a = some o) : H' a = some o := s a o h
/-- all but what stands at b is as it was -/
def Keep (b : Addr) (H H' : Hp) : Prop := ∀ a o, H a = some o → a ≠ b → H' a = some o
theorem Keep.of {b : Addr} {H H' : Hp} (s : Same H H') : Keep b H H' := fun a o h _ => s a o h
theorem Keep.trans {b : Addr} {H H1 H2 : Hp} (s : Keep b H H1) (t : Keep b H1 H2) : Keep b H H2 := fun a o h n => t a o (s a o h n) n
theorem kget {b : Addr} {H H' : Hp} {a : Addr} {o : HO} (s : Keep b H H') (n : a ≠ b) (h : H a = some o) : H' a = some o := s a o h n
theorem same_upd {H : Hp} {p : Addr} {o : HO} (h : H p = none) : Same H (upd H p o) := fun a u e => by rw [upd_ne (ne_of_none e h)]; exact e
theorem keep_upd {H : Hp} {p : Addr} {o : HO} : Keep p H (upd H p o) := fun a u e n => by rw [upd_ne n]; exact e
theorem same_put {H H' : Hp} {p : Addr} {o : HO} (n : H p = none) (s : Same H H') : Same H (upd H' p o) := fun a u e => by rw [upd_ne (ne_of_none e n)]; exact s a u e
theorem gen_new {H G : Hp} {p : Addr} {o : HO} (n : H p = none) (g : upd H p o = G) : Same H G ∧ G p = some o := by
  subst g
  exact ⟨same_upd n, upd_same⟩
theorem gen_put {H G : Hp} {p : Addr} {o : HO} (g : upd H p o = G) : Keep p H G ∧ G p = some o := by
  subst g
  exact ⟨keep_upd, upd_same⟩
theorem SqL.same {K : PySem.W.Frag} {H H' : Hp} {a : Addr} {xs : List V} (s : Same H H') (h : SqL K H a xs) : SqL K H' a xs := s.seq h

/-! ### a word between an expression and what follows -/
def tMid (t : TE) : TE := fun σ H Q => ∃ M : V → Hp → Prop, t σ H M ∧ ∀ v H', M v H' → Q v H'
theorem pe_mid {X : Cx} {e : Expr} {t : TE} (h : PE X e t) : PE X e (tMid t) := ⟨fun pins s σ H Q I ⟨M, hm, hq⟩ => thn (h.run pins s σ H M I hm) fun u s1 ⟨v, H1, I1, r, m⟩ => ⟨v, H1, I1, r, hq v H1 m⟩⟩
def tMidT (t : TT) : TT := fun σ H Q => ∃ M : Bool → Hp → Prop, t σ H M ∧ ∀ v H', M v H' → Q v H'
theorem pt_mid {X : Cx} {e : Expr} {t : TT} (h : PT X e t) : PT X e (tMidT t) := ⟨fun pins s σ H Q I ⟨M, hm, hq⟩ => thn (h.run pins s σ H M I hm) fun b s1 ⟨H1, I1, m⟩ => ⟨H1, I1, hq b H1 m⟩⟩
/-! ### own defs, as their callers see them -/
structure Own (P : Program) (w : World) (K : PySem.W.Frag) (mg : Str → Option Value) (base : Heap) (k : Nat) (x : Str) (ps : List Str) (sp : Sp) : Prop where
  ex : ∃ f fd, FnOk P w K mg base (L2N.CX P w) k f fd ps sp ∧ mg x = some (.ref f) ∧ PySem.W.keepIn K (.ref f) = true ∧ Binds K fd ps []
structure OwnM (P : Program) (w : World) (K : PySem.W.Frag) (mg : Str → Option Value) (base : Heap) (k : Nat) (C : Addr) (m : Str) (ps : List Str) (sp : Sp) : Prop where
  cl : Cls K C
  ex : ∃ f fd, FnOk P w K mg base (L2N.CX P w) k f fd ps sp ∧ Meth K C m f ∧ Binds K fd ps []
structure OwnI (P : Program) (w : World) (K : PySem.W.Frag) (mg : Str → Option Value) (base : Heap) (k : Nat) (x : Str) (C : Addr) (ps : List Str) (dvs : List V) (sp : Sp) : Prop where
  ex : ∃ f fd ds, FnOk P w K mg base (L2N.CX P w) k f fd ps sp ∧ Mk K C f ∧ mg x = some (.ref C) ∧ Binds K fd ps ds ∧ Vals dvs ds

section
variable {X : Cx} {k : Nat} {C : Addr} {ps : List Str} {sp : Sp} {E : L2.St → XK} {x m : Str} {p pos apos : Pos} {e o : Expr} {es : List Expr} {ta : TE} {t : TA} {dvs : List V}

theorem pas0 {X : Cx} : ∀ σ, PassesAt (L2N.CX X.prog X.w) X σ ((fun _ => E0) σ) := fun σ pins H s e s' I h => by
  obtain ⟨_, _, _, _, _, _, _, _, _, _, _, _, z⟩ := h
  exact z.elim
/-- a def by its body, whatever its callers learn of what leaves it -/
theorem okN {P : Program} {w : World} {K : PySem.W.Frag} {mg : Str → Option Value} {base : Heap} {x qual : Str} {st : Stmt} {f : Addr} {fd : FuncData} {N ps : List Str} {k : Nat} {sp : Sp} (F : Fun K x qual st f fd) (sc : FnScope N ps (defScope st))
    (ln : ∀ vs H Q E, sp vs H Q E → vs.length = ps.length) (bd : ∀ (cv : Value) (A : Around) (outer : List Env) (s : Shared) (H : Hp) (vs : List V) (Q : VK) (E : XK), Room k (A.deeper (envOfC qual (defScope st) s.heap.objs.size f cv)) → sp vs H Q E →
      ∃ t, PSs (cxOf (L2N.CX P w) P w K mg base N qual (defScope st) f cv A outer s H E) (defBody st) t ∧ t { nx := fun _ H' => Q .non H', rt := Q } (start N vs) H) :
    FnOk P w K mg base (L2N.CX P w) (k + 1) f fd ps sp := by
  have ⟨_, _, _, _, _, _, _, _, _, e, look, hcd⟩ := F.ex
  subst e
  exact fn_of look hcd sc ln fun A outer s H vs Q E hr h => bd _ A outer s H vs Q E hr h
theorem takesN {X : Cx} : L2N.Takes X (fun _ _ _ _ => False) := fun _ _ ⟨_, _, _, _, _, _, _, _, _, _, _, _, _, _, _, _, z⟩ => z.elim
theorem passN {X : Cx} : Passes (L2N.CX X.prog X.w) X E0 := fun pins σ => pas0 σ pins
theorem pasE {X : Cx} {E : XK} (tk : L2N.Takes X (fun cls d _ H => E cls d H)) : ∀ σ, PassesAt (L2N.CX X.prog X.w) X σ ((fun _ => E) σ) := fun σ => L2N.passAt (W := fun cls d _ H => E cls d H) tk σ
theorem pe_own (O : Own X.prog X.w X.K X.mg X.base k x ps sp) (hr : Room k X.A) (hg : Gl X x) (hx : ∀ σ, PassesAt (L2N.CX X.prog X.w) X σ (E σ)) (ha : PA X (e :: es) t)
    (hdb : (x == ("__debug__" : Str)) = false := by decide) (he : starEach (e :: es) X.env = (false, eval e X.env) :: starEach es X.env := by rfl) (hpl : (backTo pos (starEach es X.env)).any (·.1) = false := by rfl) :
    PE X (.Call (.Name x p) (e :: es) [] pos) (tCallS sp E t) := by
  obtain ⟨f, fd, F, hm, hk, hb⟩ := O.ex
  exact pe_callS F hr hg hm hk hb hx ha hdb he hpl

def tMethS (C : Addr) (m : Str) (sp : Sp) (E : L2.St → XK) (ta : TE) (t : TA) : TE := fun σ H Q => ta σ H fun x H1 => ∃ a dx fs, x = .ref a ∧ H1 a = some (.ins C dx fs) ∧ fs.lookup m = none ∧
  t σ H1 fun vs H2 => sp (x :: vs) H2 Q (E σ)
theorem pe_ownm {pl : Sem Bool} (O : OwnM X.prog X.w X.K X.mg X.base k C m ps sp) (he : PE X o ta) (hr : Room k X.A) (hx : ∀ σ, PassesAt (L2N.CX X.prog X.w) X σ (E σ)) (ha : PA X (e :: es) t)
    (hst : starEach (e :: es) X.env = (false, eval e X.env) :: starEach es X.env := by rfl) (hpl : (backTo pos (starEach es X.env)).any (·.1) = false := by rfl)
    (ht : eval (.Call (.Attribute o m apos) (e :: es) [] pos) X.env = (do
      let ov ← eval o X.env
      standAt apos.atName
      let (f, first) ← holding [ov] (getMethod ov m pl)
      callWith pos f first (backTo pos (starEach (e :: es) X.env)) (backToKw pos (keywordEach [] X.env))) := by rfl) :
    PE X (.Call (.Attribute o m apos) (e :: es) [] pos) (tMethS C m sp E ta t) := by
  obtain ⟨f, fd, F, hm, hb⟩ := O.ex
  refine ⟨fun pins s σ H Q I h => ?_⟩
  refine PySem.W.methodCall_KW (pl := pl) (thn (he.run pins s σ H _ I h) fun u s1 ⟨x, H1, I1, rx, a, dx, fs, ex, ea, l, q⟩ => ?_) ht
  subst ex
  obtain rfl : u = Value.ref a := rx
  refine getmeth_ok I1 ea O.cl hm l ?_
  refine PySem.W.callWith_K (first := [.ref a]) (h₀ := X.base) I.ok.mod.kin hm.kp (thn (ha.run pos pins s1 σ H1 _ I1 q) fun us s2 ⟨vs, H2, I2, r, q2⟩ => ⟨I2.kIn, ?_⟩) hst hpl
  exact run_fnS (us := .ref a :: us) (vs := .ref a :: vs) F hr hb (hx σ) I2 (.cons rfl r) q2
theorem pe_ownm0 {pl : Sem Bool} (O : OwnM X.prog X.w X.K X.mg X.base k C m ps sp) (he : PE X o ta) (hr : Room k X.A) (hx : ∀ σ, PassesAt (L2N.CX X.prog X.w) X σ (E σ))
    (ht : eval (.Call (.Attribute o m apos) [] [] pos) X.env = (do
      let ov ← eval o X.env
      standAt apos.atName
      let (f, first) ← holding [ov] (getMethod ov m pl)
      callWith pos f first (backTo pos (starEach [] X.env)) (backToKw pos (keywordEach [] X.env))) := by rfl) :
    PE X (.Call (.Attribute o m apos) [] [] pos) (tMethS C m sp E ta tNil) := by
  obtain ⟨f, fd, F, hm, hb⟩ := O.ex
  refine ⟨fun pins s σ H Q I h => ?_⟩
  refine PySem.W.methodCall_KW (pl := pl) (thn (he.run pins s σ H _ I h) fun u s1 ⟨x, H1, I1, rx, a, dx, fs, ex, ea, l, q⟩ => ?_) ht
  subst ex
  obtain rfl : u = Value.ref a := rx
  refine getmeth_ok I1 ea O.cl hm l ?_
  exact PySem.W.callWith_K0 (first := [.ref a]) I1.kIn hm.kp (run_fnS (us := [.ref a]) (vs := [.ref a]) F hr hb (hx σ) I1 (.cons rfl .nil) q)

def tMakeS (C : Addr) (sp : Sp) (dvs : List V) (E : L2.St → XK) (t : TA) : TE := fun σ H Q => t σ H fun vs H1 => ∀ x dx, H1 x = none → H1 dx = none → dx ≠ x →
  sp (.ref x :: (vs ++ dvs)) (upd (upd H1 dx (.own x)) x (.ins C dx [])) (fun v H2 => v = .non ∧ Q (.ref x) H2) (E σ)
theorem run_makeS {f : Addr} {fd : FuncData} {ds : List Value} {pins : List (Addr × Obj)} {σ : L2.St} {H : Hp} {s : Shared} {Q : VK} {us : List Value} {vs : List V} (M : Mk X.K C f) (F : FnOk X.prog X.w X.K X.mg X.base (L2N.CX X.prog X.w) k f fd ps sp)
    (hr : Room (k + 1) X.A) (hb : Binds X.K fd ps ds) (hd : Vals dvs ds) (hx : PassesAt (L2N.CX X.prog X.w) X σ (E σ)) (I : Inv X pins σ H s) (r : Vals vs us)
    (h : ∀ x dx, H x = none → H dx = none → dx ≠ x → sp (.ref x :: (vs ++ dvs)) (upd (upd H dx (.own x)) x (.ins C dx [])) (fun v H2 => v = .non ∧ Q (.ref x) H2) (E σ)) :
    wpAny (model X.prog X.w) X.A (call (.ref C) us) (EP X pins σ Q) X.xe s := by
  have hq := h (s.heap.objs.size + 1) s.heap.objs.size (I.hok.fresh (Nat.le_succ _)) (I.hok.fresh (Nat.le_refl _)) (Nat.ne_of_lt (Nat.lt_succ_self _))
  have I2 := Inv.made (C := C) I
  have r2 : Vals (V.ref (s.heap.objs.size + 1) :: (vs ++ dvs)) (Value.ref (s.heap.objs.size + 1) :: (us ++ ds)) := .cons rfl (r.append hd)
  have hl : (Value.ref (s.heap.objs.size + 1) :: us ++ ds).length = ps.length := by
    have e := r2.length
    rw [F.len _ _ _ _ hq] at e
    exact e.symm
  refine wpAny_call (make_map (f := f) I.kIn M.makes M.init (beq_iff_eq.mp M.fn) (codeAny_mono (F.run _ X.stack _ _ ⟨Value.ref (s.heap.objs.size + 1) :: us, []⟩ (Value.ref (s.heap.objs.size + 1) :: (us ++ ds)) _ _ (E σ) (hr.make C us [])
    (I2.env0.make C us []) (hb _ (Value.ref (s.heap.objs.size + 1) :: us) I2.kIn hl) r2 hq) fun r s' hq' => ?_))
  cases r with
  | error e => exact hx pins _ _ e s' I2 hq'
  | ok fl =>
    cases fl with
    | ret u =>
      obtain ⟨v, H', I3, rv, ev, q3⟩ := I2.after hq'
      subst ev
      exact ⟨rv, ⟨V.ref (s.heap.objs.size + 1), H', I3, rfl, q3⟩⟩
    | next => exact False.elim hq'
    | brk => exact False.elim hq'
    | cont => exact False.elim hq'
theorem pe_owni (O : OwnI X.prog X.w X.K X.mg X.base k x C ps dvs sp) (hr : Room (k + 1) X.A) (hg : Gl X x) (hx : ∀ σ, PassesAt (L2N.CX X.prog X.w) X σ (E σ)) (ha : PA X (e :: es) t)
    (hdb : (x == ("__debug__" : Str)) = false := by decide) (he : starEach (e :: es) X.env = (false, eval e X.env) :: starEach es X.env := by rfl) (hpl : (backTo pos (starEach es X.env)).any (·.1) = false := by rfl) :
    PE X (.Call (.Name x p) (e :: es) [] pos) (tMakeS C sp dvs E t) := by
  obtain ⟨f, fd, ds, F, M, hm, hb, hd⟩ := O.ex
  refine ⟨fun pins s σ H Q I h => ?_⟩
  refine wpAny_Call_Name_kw (ld_glob I hg hm ?_ hdb)
  refine PySem.W.callWith_K (h₀ := X.base) I.ok.mod.kin M.kp (thn (ha.run pos pins s σ H _ I h) fun us s1 ⟨vs, H1, I1, r, q⟩ => ⟨I1.kIn, ?_⟩) he hpl
  exact run_makeS M F hr hb hd (hx σ) I1 r q
end

def rLenSeq (K : PySem.W.Frag) : List V → Hp → VK → Prop := fun xs H Q => ∃ p ys, xs = [V.ref p] ∧ (SqL K H p ys ∨ SqT K H p ys) ∧ Q (.int ys.length) H
/-! ### own operators -/
section
open PySem.W
section
variable {prog : Program} {w : World} {A : Around} {E : Value → Shared → Prop} {s : Shared} {i : Int} {t : Tok} {x C dx f g : Addr} {K : Frag} {ox : Obj} {od : Option Obj} {nm : String} {Q : Option Value → Shared → Prop} {rc fo ro : Option Value}
theorem slot_fills {M : Model} {h : Heap} (X : K.In h) (hc : selfFirst K C = true) (hs : findIn K (.ref C) (PySem.dunder nm) = some (some (.ref f))) : Looks M h (fillsNumberSlot (.ref C) nm) true := by
  obtain ⟨cd, rest, hcd, hm⟩ := ksp_first hc
  exact fills_K X hcd hm hs
/-- what an own method answers is no NotImplemented -/
theorem bin1_same {b : Value} (X : K.In s.heap) (I : InstAt s.heap x ox C od) (hb : Looks (model prog w) s.heap (typeOf b) (.ref C)) (hc : selfFirst K C = true) (hs : findIn K (.ref C) (PySem.dunder nm) = some (some (.ref f))) (hf : isFn K (.ref f) = true)
    (h : wpAny (model prog w) A (call (.ref f) [.ref x, b]) (PySem.W.CmpBack fun v => Q (some v)) E s) : wpAny (model prog w) A (binaryOp1 nm (.ref x) b) Q E s := by
  have one := ksp_try X I hs hf h
  have L3 : Looks (model prog w) s.heap (fillsNumberSlot (.ref C) nm) true := slot_fills X hc hs
  have L1 : Looks (model prog w) s.heap (typeOf (.ref x)) (.ref C) := I.type
  obtain ⟨hh, gg, d, tt, os⟩ := s
  unfold binaryOp1
  refine wpAny_bind (L1.at (wpAny_bind (hb.at (wpAny_bind (L3.at ?_)))))
  simp only [beq_self_eq_true, if_true]
  ksp_lk
  refine wpAny_mono one (fun r s' hr => ?_) fun _ _ e => e
  obtain ⟨v, rfl, hq⟩ := hr
  ksp_lk
  exact hq
theorem bin1_int (X : K.In s.heap) (I : InstAt s.heap x ox C od) (hc : selfFirst K C = true) (hs : findIn K (.ref C) (PySem.dunder nm) = some (some (.ref f))) (hf : isFn K (.ref f) = true) (hr : findIn K (.ref C) (dunderR nm) = some rc) (hp : rc = none ∨ ∃ g : Addr, rc = some (.ref g))
    (h1 : findIn K (.type "int") (PySem.dunder nm) = some fo) (h2 : findIn K (.type "int") (dunderR nm) = some ro) (hsub : subIn K (.type "int") (.ref C) = some false)
    (h : wpAny (model prog w) A (call (.ref f) [.ref x, .int i t]) (PySem.W.CmpBack fun v => Q (some v)) E s) : wpAny (model prog w) A (binaryOp1 nm (.ref x) (.int i t)) Q E s := by
  have one := ksp_try X I hs hf h
  have L3 : Looks (model prog w) s.heap (fillsNumberSlot (.ref C) nm) true := slot_fills X hc hs
  have L1 : Looks (model prog w) s.heap (typeOf (.ref x)) (.ref C) := I.type
  have L2 : Looks (model prog w) s.heap (typeOf (.int i t)) (.type "int") := Looks.of_pure rfl
  have L4 : Looks (model prog w) s.heap (fillsNumberSlot (.type "int") nm) ((fo.isSome && !isSeqSlot fo) || (ro.isSome && !isSeqSlot ro)) := ksp_fillsT X h1 h2
  have L5 : Looks (model prog w) s.heap (isSubtype (.type "int") (.ref C)) false := looks_subIn X hsub
  have L6 : Looks (model prog w) s.heap (numberSlotInPython (.ref C) nm) true := ksp_inPy X hs hr hp
  have L7 : Looks (model prog w) s.heap (numberSlotInPython (.type "int") nm) false := Looks.of_pure rfl
  have L8 : Looks (model prog w) s.heap (typeLookup (.type "int") (dunderR nm)) ro := looks_findIn X h2
  have hne : (Value.ref C == Value.type "int") = false := Bool.eq_false_iff.mpr fun q => by cases beq_iff_eq.mp q
  obtain ⟨hh, gg, d, tt, os⟩ := s
  generalize ((fo.isSome && !isSeqSlot fo) || (ro.isSome && !isSeqSlot ro)) = right at L4
  unfold binaryOp1
  refine wpAny_bind (L1.at (wpAny_bind (L2.at (wpAny_bind (L3.at ?_)))))
  simp only [hne, Bool.false_eq_true, if_false]
  cases right <;>
  · ksp_lk
    refine wpAny_mono one (fun r s' hr => ?_) fun _ _ e => e
    obtain ⟨v, rfl, hq⟩ := hr
    ksp_lk
    exact hq
theorem bin1_refl (X : K.In s.heap) (I : InstAt s.heap x ox C od) (hc : selfFirst K C = true) (hs : findIn K (.ref C) (PySem.dunder nm) = some (some (.ref g))) (hr : findIn K (.ref C) (dunderR nm) = some (some (.ref f))) (hf : isFn K (.ref f) = true)
    (fills : fillsNumberSlot (.type "int") nm = pure true) (hsub : subIn K (.ref C) (.type "int") = some false)
    (decl : ∀ Q : Option Value → Shared → Prop, Q none s → wpAny (model prog w) A (tryMethod (.int i t) (PySem.dunder nm) (.ref x)) Q E s)
    (h : wpAny (model prog w) A (call (.ref f) [.ref x, .int i t]) (PySem.W.CmpBack fun v => Q (some v)) E s) : wpAny (model prog w) A (binaryOp1 nm (.int i t) (.ref x)) Q E s := by
  have one := ksp_try X I hr hf h
  have L3 : Looks (model prog w) s.heap (fillsNumberSlot (.ref C) nm) true := slot_fills X hc hs
  have L1 : Looks (model prog w) s.heap (typeOf (.ref x)) (.ref C) := I.type
  have L2 : Looks (model prog w) s.heap (typeOf (.int i t)) (.type "int") := Looks.of_pure rfl
  have L4 : Looks (model prog w) s.heap (fillsNumberSlot (.type "int") nm) true := Looks.of_pure fills
  have L5 : Looks (model prog w) s.heap (isSubtype (.ref C) (.type "int")) false := looks_subIn X hsub
  have L7 : Looks (model prog w) s.heap (numberSlotInPython (.type "int") nm) false := Looks.of_pure rfl
  have hne : (Value.type "int" == Value.ref C) = false := Bool.eq_false_iff.mpr fun q => by cases beq_iff_eq.mp q
  obtain ⟨hh, gg, d, tt, os⟩ := s
  unfold binaryOp1
  refine wpAny_bind (L2.at (wpAny_bind (L1.at (wpAny_bind (L4.at ?_)))))
  simp only [hne, Bool.false_eq_true, if_false]
  ksp_lk
  refine decl _ ?_
  ksp_lk
  refine wpAny_mono one (fun r s' hr => ?_) fun _ _ e => e
  obtain ⟨v, rfl, hq⟩ := hr
  ksp_lk
  exact hq
end
end

/-! ### own arithmetic -/
section
variable {prog : Program} {w : World} {A : Around} {E : Value → Shared → Prop} {s : Shared} {i : Int} {t : Tok} {x C dx : Addr}
theorem int_declines {id : String} {B : Builtin} {nm : Str} {name : String} {f : Int → Int → Sem Fin} (slot : Slot "int" nm id) (entry : entryFor table id = some B) (args : ∀ a b : Value, argsOk id ⟨[a, b], []⟩) (hB : B = Builtin.Int.intBinary name f) (hx : s.heap.get? x = some (PySem.W.instObj C dx))
    (Q : Option Value → Shared → Prop) (h : Q none s) : wpAny (model prog w) A (tryMethod (.int i t) nm (.ref x)) Q E s := by
  refine wpAny_tryMethod_declines (typeIs_int s i t) slot (wpAny_call_entry slot (typeIs_int s i t) entry ?_ (args _ _))
  rw [hB]
  unfold Builtin.Int.intBinary
  obtain ⟨hp, g, d, tk, os⟩ := s
  wp_walk using wpAny_load' hx
  exact ⟨_, rfl, rfl, h⟩
theorem bin_of1 {op : Operator} {a b : Value} {Q : Value → Shared → Prop} (h : wpAny (model prog w) A (binaryOp1 op.info.2 a b) (fun r s' => ∃ v, r = some v ∧ Q v s') E s) : wpAny (model prog w) A (binaryOp op a b) Q E s := by
  unfold binaryOp
  refine wpAny_holding (wpAny_bind (wpAny_mono h (fun r s' hr => ?_) fun _ _ e => e))
  obtain ⟨v, rfl, hq⟩ := hr
  exact wpAny_pure hq
theorem inp_of1 {op : Operator} {a b ta : Value} {Q : Value → Shared → Prop} (ht : PySem.W.Looks (model prog w) s.heap (typeOf a) ta) (hn : PySem.W.Looks (model prog w) s.heap (fillsInplaceSlot ta op.info.2 (op == .Add)) false)
    (h : wpAny (model prog w) A (binaryOp1 op.info.2 a b) (fun r s' => ∃ v, r = some v ∧ Q v s') E s) : wpAny (model prog w) A (inplaceOp op a b) Q E s := by
  unfold inplaceOp
  refine wpAny_holding (wpAny_bind (ht.here (wpAny_bind (hn.here ?_))))
  simp only [Bool.false_eq_true, if_false]
  refine wpAny_bind (wpAny_mono h (fun r s' hr => ?_) fun _ _ e => e)
  obtain ⟨v, rfl, hq⟩ := hr
  exact wpAny_pure hq
end
section
variable {prog : Program} {w : World} {A : Around} {E : Value → Shared → Prop} {s : Shared} {x C : Addr} {K : PySem.W.Frag} {cd : ClassData}
theorem no_inplace {M : Model} {h : Heap} {nm : String} {add : Bool} (X : K.In h) (hc : PySem.W.clsIn K C = some cd) (hm : cd.mro = [.ref C, .type "object"]) (h1 : PySem.W.findIn K (.ref C) (dunderI nm) = some none) (h2 : PySem.W.findIn K (.type "object") (dunderI nm) = some none) :
    PySem.W.Looks M h (fillsInplaceSlot (.ref C) nm add) false := by
  intro A Q E s k q
  have Lm : PySem.W.Looks M h (mroOf (.ref C)) cd.mro := (PySem.W.looks_clsIn X hc).andThen (f := fun cd => pure cd.mro) .now
  have L1 : PySem.W.Looks M h (typeLookup (.ref C) (dunderI nm)) none := PySem.W.looks_findIn X h1
  have L2 : PySem.W.Looks M h (typeLookup (.type "object") (dunderI nm)) none := PySem.W.looks_findIn X h2
  unfold fillsInplaceSlot
  refine wpAny_bind (Lm.keeps k |>.here ?_)
  rw [hm, List.anyM_cons]
  refine wpAny_bind (wpAny_bind ((L1.keeps k).here ?_))
  refine wpAny_pure ?_
  rw [List.anyM_cons]
  refine wpAny_bind (wpAny_bind ((L2.keeps k).here ?_))
  refine wpAny_pure ?_
  exact wpAny_pure q
end

/-- what the written part says of a class with own + - * -/
def refOr : Option Value → Bool
  | none => true
  | some (.ref _) => true
  | _ => false
theorem refOr_of {r : Option Value} (h : refOr r = true) : r = none ∨ ∃ g : Addr, r = some (.ref g) := by
  unfold refOr at h
  split at h
  · exact .inl rfl
  · exact .inr ⟨_, rfl⟩
  · cases h
structure Arith (K : PySem.W.Frag) (C : Addr) : Prop where
  sf : PySem.W.selfFirst K C = true
  s1 : PySem.W.subIn K (.type "int") (.ref C) = some false
  s2 : PySem.W.subIn K (.ref C) (.type "int") = some false
  mro : ∃ cd, PySem.W.clsIn K C = some cd ∧ cd.mro = [.ref C, .type "object"]
  ia : PySem.W.findIn K (.ref C) "__iadd__" = some none ∧ PySem.W.findIn K (.type "object") "__iadd__" = some none
  isb : PySem.W.findIn K (.ref C) "__isub__" = some none ∧ PySem.W.findIn K (.type "object") "__isub__" = some none
  im : PySem.W.findIn K (.ref C) "__imul__" = some none ∧ PySem.W.findIn K (.type "object") "__imul__" = some none
  ofInt : ∃ a b c d e f, PySem.W.findIn K (.type "int") "__add__" = some a ∧ PySem.W.findIn K (.type "int") "__radd__" = some b ∧ PySem.W.findIn K (.type "int") "__sub__" = some c ∧ PySem.W.findIn K (.type "int") "__rsub__" = some d ∧
    PySem.W.findIn K (.type "int") "__mul__" = some e ∧ PySem.W.findIn K (.type "int") "__rmul__" = some f
  refl : ∃ a b c, (PySem.W.findIn K (.ref C) "__radd__" = some a ∧ refOr a = true) ∧ (PySem.W.findIn K (.ref C) "__rsub__" = some b ∧ refOr b = true) ∧ PySem.W.findIn K (.ref C) "__rmul__" = some c ∧ refOr c = true
  has : ∃ a b c : Addr, PySem.W.findIn K (.ref C) "__add__" = some (some (.ref a)) ∧ PySem.W.findIn K (.ref C) "__sub__" = some (some (.ref b)) ∧ PySem.W.findIn K (.ref C) "__mul__" = some (some (.ref c))
inductive AOp | add | sub | mul
def AOp.op : AOp → Operator | .add => .Add | .sub => .Sub | .mul => .Mult
def AOp.m : AOp → Str | .add => "__add__" | .sub => "__sub__" | .mul => "__mul__"
def AOp.r : AOp → Str | .add => "__radd__" | .sub => "__rsub__" | .mul => "__rmul__"
def AOp.i : AOp → Str | .add => "__iadd__" | .sub => "__isub__" | .mul => "__imul__"
theorem AOp.em (o : AOp) : PySem.dunder o.op.info.2 = o.m := by cases o <;> decide +kernel
theorem AOp.er (o : AOp) : dunderR o.op.info.2 = o.r := by cases o <;> decide +kernel
theorem AOp.ei (o : AOp) : dunderI o.op.info.2 = o.i := by cases o <;> decide +kernel
theorem AOp.fills (o : AOp) : fillsNumberSlot (.type "int") o.op.info.2 = pure true := by
  cases o
  · exact F.fills_int_add
  · exact F.fills_int_sub
  · exact F.fills_int_mul
theorem AOp.decl {prog : Program} {w : World} {A : Around} {E : Value → Shared → Prop} {s : Shared} {i : Int} {t : Tok} {x C dx : Addr} (o : AOp) (hx : s.heap.get? x = some (PySem.W.instObj C dx)) (Q : Option Value → Shared → Prop) (h : Q none s) :
    wpAny (model prog w) A (tryMethod (.int i t) (PySem.dunder o.op.info.2) (.ref x)) Q E s := by
  cases o
  · exact int_declines F.slot_int_add F.entry_int_add F.args_int_add_2 rfl hx Q h
  · exact int_declines F.slot_int_sub F.entry_int_sub F.args_int_sub_2 rfl hx Q h
  · exact int_declines F.slot_int_mul F.entry_int_mul F.args_int_mul_2 rfl hx Q h
section
variable {X : Cx} {k k' : Nat} {C : Addr} {m : Str} {ps ps' : List Str} {sp sp' : Sp} {E : XK}
/-- an instance of C on the left, an int or such an instance on the right -/
def rOwn (C : Addr) (sp : Sp) (E : XK) : R2 := fun x y H Q => ∃ a dx fs, x = .ref a ∧ H a = some (.ins C dx fs) ∧ ((∃ i, y = .int i) ∨ ∃ b dy gs, y = .ref b ∧ H b = some (.ins C dy gs)) ∧ sp [x, y] H Q E
/-- an int on the left -/
def rRefl (C : Addr) (sp : Sp) (E : XK) : R2 := fun x y H Q => ∃ i b dy gs, x = .int i ∧ y = .ref b ∧ H b = some (.ins C dy gs) ∧ sp [y, x] H Q E
def rUna (C : Addr) (sp : Sp) (E : XK) : V → Hp → VK → Prop := fun x H Q => ∃ a dx fs, x = .ref a ∧ H a = some (.ins C dx fs) ∧ sp [x] H Q E
theorem back_of {pins : List (Addr × Obj)} {σ : L2.St} {Q : VK} {u : Value} {s' : Shared} {R : Value → Shared → Prop} (h : EP X pins σ Q u s') (k : ∀ u s', EP X pins σ Q u s' → R u s') : PySem.W.CmpBack R u s' := by
  obtain ⟨v, H', I, r, q⟩ := id h
  cases u with
  | notImplemented =>
    cases v <;> simp [L2.RelV] at r
  | _ => exact k _ _ h
theorem inst_at {pins : List (Addr × Obj)} {σ : L2.St} {H : Hp} {s : Shared} {a dx : Addr} {fs : List (Str × V)} (I : Inv X pins σ H s) (e : H a = some (.ins C dx fs)) : s.heap.get? a = some (PySem.W.instObj C dx) ∧ ∃ od, PySem.W.InstAt s.heap a (PySem.W.instObj C dx) C (some od) := by
  obtain ⟨mA, J, _⟩ := ins_get I.hok e
  obtain ⟨od, J2, _⟩ := J.look
  exact ⟨J.obj, od, J2⟩
theorem bin1_own (o : AOp) (A : Arith X.K C) (O : OwnM X.prog X.w X.K X.mg X.base k C o.m ps sp) (hr : Room k X.A) (hx : Passes (L2N.CX X.prog X.w) X E)
    {pins : List (Addr × Obj)} {s : Shared} {σ : L2.St} {H : Hp} {x y : V} {v u : Value} {Q : VK} (I : Inv X pins σ H s) (rx : RelV x v) (ry : RelV y u) (h : rOwn C sp E x y H Q) :
    wpAny (model X.prog X.w) X.A (binaryOp1 o.op.info.2 v u) (fun r s' => ∃ z, r = some z ∧ EP X pins σ Q z s') X.xe s := by
  obtain ⟨a, dx, fs, rfl, ha, hy, hsp⟩ := h
  obtain rfl : v = Value.ref a := rx
  obtain ⟨f, fd, Fo, hm, hb⟩ := O.ex
  obtain ⟨_, od, J⟩ := inst_at I ha
  have h1 : PySem.W.findIn X.K (.ref C) (PySem.dunder o.op.info.2) = some (some (.ref f)) := by rw [o.em]; exact hm.at_
  obtain ⟨rc, h2, hrc⟩ : ∃ rc, PySem.W.findIn X.K (.ref C) (dunderR o.op.info.2) = some rc ∧ refOr rc = true := by
    rw [o.er]
    obtain ⟨a, b, c, q1, q2, q3⟩ := A.refl
    cases o
    · exact ⟨_, q1⟩
    · exact ⟨_, q2⟩
    · exact ⟨_, q3⟩
  have run := run_fn (us := [.ref a, u]) (vs := [.ref a, y]) (dvs := []) Fo hr hb .nil hx I (.cons rfl (.cons ry .nil)) hsp
  have run2 := wpAny_mono run (fun u s' q => back_of (R := fun v s' => ∃ z, some v = some z ∧ EP X pins σ Q z s') q fun v s' q => ⟨v, rfl, q⟩) fun _ _ e => e
  rcases hy with ⟨i, rfl⟩ | ⟨b, dy, gs, rfl, hb'⟩
  · obtain ⟨t, rfl⟩ := ry
    obtain ⟨fo, ro, e1, e2⟩ : ∃ fo ro, PySem.W.findIn X.K (.type "int") (PySem.dunder o.op.info.2) = some fo ∧ PySem.W.findIn X.K (.type "int") (dunderR o.op.info.2) = some ro := by
      rw [o.em, o.er]
      obtain ⟨p1, p2, p3, p4, p5, p6, q1, q2, q3, q4, q5, q6⟩ := A.ofInt
      cases o
      · exact ⟨_, _, q1, q2⟩
      · exact ⟨_, _, q3, q4⟩
      · exact ⟨_, _, q5, q6⟩
    exact bin1_int I.kIn J A.sf h1 hm.fn h2 (refOr_of hrc) e1 e2 A.s1 run2
  · obtain rfl : u = Value.ref b := ry
    obtain ⟨_, od', J'⟩ := inst_at I hb'
    exact bin1_same I.kIn J J'.type A.sf h1 hm.fn run2
theorem op_own (o : AOp) (A : Arith X.K C) (O : OwnM X.prog X.w X.K X.mg X.base k C o.m ps sp) (hr : Room k X.A) (hx : Passes (L2N.CX X.prog X.w) X E) : OpR X (binaryOp o.op) (rOwn C sp E) :=
  fun _ _ _ _ _ _ _ _ _ I rx ry h => bin_of1 (bin1_own o A O hr hx I rx ry h)
theorem iop_own (o : AOp) (A : Arith X.K C) (O : OwnM X.prog X.w X.K X.mg X.base k C o.m ps sp) (hr : Room k X.A) (hx : Passes (L2N.CX X.prog X.w) X E) : OpR X (inplaceOp o.op) (rOwn C sp E) := by
  intro pins s σ H x y v u Q I rx ry h
  have one := bin1_own o A O hr hx I rx ry h
  obtain ⟨a, dx, fs, rfl, ha, _, _⟩ := h
  obtain rfl : v = Value.ref a := rx
  obtain ⟨_, od, J⟩ := inst_at I ha
  obtain ⟨cd, hcd, hmro⟩ := A.mro
  refine inp_of1 J.type (no_inplace I.kIn hcd hmro ?_ ?_) one
  · rw [o.ei]
    cases o
    · exact A.ia.1
    · exact A.isb.1
    · exact A.im.1
  · rw [o.ei]
    cases o
    · exact A.ia.2
    · exact A.isb.2
    · exact A.im.2
theorem op_refl (o : AOp) (A : Arith X.K C) (R : OwnM X.prog X.w X.K X.mg X.base k C o.r ps sp) (hr : Room k X.A) (hx : Passes (L2N.CX X.prog X.w) X E) : OpR X (binaryOp o.op) (rRefl C sp E) := by
  intro pins s σ H x y v u Q I rx ry h
  obtain ⟨i, b, dy, gs, rfl, rfl, hb, hsp⟩ := h
  obtain ⟨t, rfl⟩ := rx
  obtain rfl : u = Value.ref b := ry
  obtain ⟨f, fd, Fo, hm, hbd⟩ := R.ex
  obtain ⟨hobj, od, J⟩ := inst_at I hb
  obtain ⟨g, h1⟩ : ∃ g : Addr, PySem.W.findIn X.K (.ref C) (PySem.dunder o.op.info.2) = some (some (.ref g)) := by
    rw [o.em]
    obtain ⟨a, b, c, q1, q2, q3⟩ := A.has
    cases o
    · exact ⟨_, q1⟩
    · exact ⟨_, q2⟩
    · exact ⟨_, q3⟩
  have h2 : PySem.W.findIn X.K (.ref C) (dunderR o.op.info.2) = some (some (.ref f)) := by rw [o.er]; exact hm.at_
  have run := run_fn (us := [.ref b, .int i t]) (vs := [.ref b, .int i]) (dvs := []) Fo hr hbd .nil hx I (.cons rfl (.cons ⟨t, rfl⟩ .nil)) hsp
  exact bin_of1 (bin1_refl I.kIn J A.sf h1 h2 hm.fn o.fills A.s2 (fun Q h => o.decl hobj Q h) (wpAny_mono run (fun u s' q => back_of (R := fun v s' => ∃ z, some v = some z ∧ EP X pins σ Q z s') q fun v s' q => ⟨v, rfl, q⟩) fun _ _ e => e))
theorem un_negOwn (O : OwnM X.prog X.w X.K X.mg X.base k C "__neg__" ps sp) (hr : Room k X.A) (hx : Passes (L2N.CX X.prog X.w) X E) : UnR X (unaryOp .USub) (rUna C sp E) := by
  intro pins s σ H x v Q I rx h
  obtain ⟨a, dx, fs, rfl, ha, hsp⟩ := h
  obtain rfl : v = Value.ref a := rx
  obtain ⟨f, fd, Fo, hm, hb⟩ := O.ex
  obtain ⟨_, od, J⟩ := inst_at I ha
  have run := run_fn (us := [.ref a]) (vs := [.ref a]) (dvs := []) Fo hr hb .nil hx I (.cons rfl .nil) hsp
  unfold unaryOp
  refine wpAny_holding ?_
  exact wpAny_bind (PySem.W.special_fn I.kIn J hm.at_ (beq_iff_eq.mp hm.fn) (wpAny_mono run (fun _ _ z => wpAny_pure z) fun _ _ z => z))
theorem call_absOwn (O : OwnM X.prog X.w X.K X.mg X.base k C "__abs__" ps sp) (hr : Room (k + 1) X.A) (hx : Passes (L2N.CX X.prog X.w) X E) : CallR X (.builtin "abs") (fun xs H Q => ∃ a dx fs, xs = [.ref a] ∧ H a = some (.ins C dx fs) ∧ sp [.ref a] H Q E) := by
  intro pins s σ H xs us Q I r h
  obtain ⟨a, dx, fs, rfl, ha, hsp⟩ := h
  obtain ⟨u, rfl, r1⟩ := vals1 r
  obtain rfl : u = Value.ref a := r1
  obtain ⟨f, fd, Fo, hm, hb⟩ := O.ex
  obtain ⟨_, od, J⟩ := inst_at I ha
  refine PySem.Calls.call_function_entry kind_abs plain_abs entry_abs (args_abs _) ?_
  unfold Builtin.«abs»
  refine wpAny_bind (m := oneArg "abs" _) (wpAny_pure ?_)
  refine wpAny_bind (m := callSpecial? (.ref a) (Str.ofString "__abs__")) ?_
  refine PySem.W.special_fn I.kIn J hm.at_ (beq_iff_eq.mp hm.fn) ?_
  have bd := hb s [.ref a] I.kIn (Fo.len _ _ _ _ hsp)
  refine wpAny_call (codeAny_mono (Fo.run X.A.in1 X.stack s H ⟨[.ref a], []⟩ [.ref a] [.ref a] Q E hr.in1 I.env0.in1 bd (.cons rfl .nil) hsp) fun r s' hq => ?_)
  cases r with
  | error e => exact hx pins σ H s e s' I hq
  | ok fl =>
    cases fl with
    | ret u => exact wpAny_pure ⟨_, rfl, I.after hq⟩
    | next => exact False.elim hq
    | brk => exact False.elim hq
    | cont => exact False.elim hq
end
/-! ### operators on ints, further -/
section
variable {X : Cx}
theorem op_mulI : OpR X (binaryOp .Mult) (rI IntMulOk fun i j => .int (i * j)) := opI fun _ _ _ _ _ _ _ hc q => mul_int q hc
def CDivA (_ j : Int) : Prop := j ≠ 0 ∧ j.natAbs.log2 < 9000
theorem op_fdivA : OpR X (binaryOp .FloorDiv) (rI CDivA fun i j => .int (i.fdiv j)) := opI fun i j _ _ _ _ _ hc q => floordiv_int hc.1 q (.inl (PyProof.noPylong_of_log2 hc.2))
end
theorem mok_l {i j : Int} (h : i.natAbs < 2 ^ 64) : IntMulOk i j := by
  have e : (2 : Nat) ^ 64 = 18446744073709551616 := by decide
  rw [e] at h
  exact CMul.ok (.inl ⟨by omega, by omega⟩)
theorem mok_r {i j : Int} (h : j.natAbs < 2 ^ 64) : IntMulOk i j := by
  have e : (2 : Nat) ^ 64 = 18446744073709551616 := by decide
  rw [e] at h
  exact CMul.ok (.inr ⟨by omega, by omega⟩)
theorem mok_w {i j : Int} {a b : Nat} (ha : i.natAbs < 2 ^ a) (hb : j.natAbs < 2 ^ b) (h0 : 0 < a := by decide) (h1 : 0 < b := by decide) (h : a + b ≤ 1000000 := by decide) : IntMulOk i j := CMulW.ok (wide_mul ha hb h0 h1 h)
theorem une {H : Hp} {a p : Addr} {o u : HO} (n : a ≠ p) (h : H a = some o) : upd H p u a = some o := by rw [upd_ne n]; exact h
theorem sqL_of {K : PySem.W.Frag} {H : Hp} {a : Addr} {xs : List V} (h : H a = some (.lst xs)) : SqL K H a xs := SqL.of h
theorem ix_c {xs : List V} {z : Int} {v : V} (h : xs[z.toNat]? = some v) (h0 : 0 ≤ z := by decide) : atI xs z = some v := at_of (Int.toNat_of_nonneg h0).symm h

/-! ### tests whose outcome is open -/
theorem iteI {i j : Int} {A B : Prop} (h1 : i = j → A) (h2 : i ≠ j → B) : if decide (V.int i = V.int j) = true then A else B := by
  by_cases e : i = j
  · rw [decide_eq_true (congrArg V.int e)]
    exact iteT (h1 e)
  · rw [decide_eq_false fun z => e (V.int.inj z)]
    exact iteF (h2 e)
theorem iteIn {i j : Int} {A B : Prop} (h1 : i ≠ j → A) (h2 : i = j → B) : if (!decide (V.int i = V.int j)) = true then A else B := by
  by_cases e : i = j
  · rw [decide_eq_true (congrArg V.int e)]
    exact iteF (h2 e)
  · rw [decide_eq_false fun z => e (V.int.inj z)]
    exact iteT (h1 e)
theorem iteD {p : Prop} [Decidable p] {A B : Prop} (h1 : p → A) (h2 : ¬ p → B) : if decide p = true then A else B := by
  by_cases e : p
  · rw [decide_eq_true e]
    exact iteT (h1 e)
  · rw [decide_eq_false e]
    exact iteF (h2 e)
theorem iteDn {p : Prop} [Decidable p] {A B : Prop} (h1 : ¬ p → A) (h2 : p → B) : if (!decide p) = true then A else B := by
  by_cases e : p
  · rw [decide_eq_true e]
    exact iteF (h2 e)
  · rw [decide_eq_false e]
    exact iteT (h1 e)
theorem iteZ {y : Int} {A B : Prop} (h1 : y ≠ 0 → A) (h2 : y = 0 → B) : if (y != 0) = true then A else B := by
  by_cases e : y = 0
  · subst e
    exact iteF (h2 rfl)
  · rw [bne_iff_ne.mpr e]
    exact iteT (h1 e)
theorem iteDT {p : Prop} [Decidable p] {A B : Prop} (h : p) (a : A) : if decide p = true then A else B := iteD (fun _ => a) fun n => absurd h n
theorem iteDF {p : Prop} [Decidable p] {A B : Prop} (h : ¬ p) (a : B) : if decide p = true then A else B := iteD (fun n => absurd n h) fun _ => a
theorem iteDnT {p : Prop} [Decidable p] {A B : Prop} (h : p) (a : B) : if (!decide p) = true then A else B := iteDn (fun n => absurd h n) fun _ => a
theorem line_le {n : Nat} (h : n ≤ 16777216) : n ≤ sizeLine := by
  rw [sizeLine_eq]
  exact h

/-! ### the law's bag: what is drawn from it is any number below the size -/
/-- a bag stands at b, its script at L -/
def Bag (H : Hp) (L b : Addr) : Prop := ∃ (ns : List Int) (i : Nat) (big mix cnt : Int), H b = some (.lst [.ref L, .int i, .int big, .int mix, .int cnt]) ∧ H L = some (.lst (ns.map V.int)) ∧ L ≠ b
theorem Bag.same {H H' : Hp} {L b : Addr} (s : Same H H') (h : Bag H L b) : Bag H' L b := by
  obtain ⟨ns, i, big, mix, cnt, h1, h2, h3⟩ := h
  exact ⟨ns, i, big, mix, cnt, s _ _ h1, s _ _ h2, h3⟩
theorem Bag.some {H : Hp} {L b : Addr} (h : Bag H L b) : H b ≠ none := by
  obtain ⟨ns, i, big, mix, cnt, h1, h2, h3⟩ := h
  rw [h1]
  exact fun z => nomatch z
theorem Bag.someL {H : Hp} {L b : Addr} (h : Bag H L b) : H L ≠ none := by
  obtain ⟨ns, i, big, mix, cnt, h1, h2, h3⟩ := h
  rw [h2]
  exact fun z => nomatch z
/-- what was made behind the bag stands apart from it -/
theorem Bag.ne {H : Hp} {L b p : Addr} (h : Bag H L b) (n : H p = none) : p ≠ b := fun e => h.some (e ▸ n)
theorem Bag.neL {H : Hp} {L b p : Addr} (h : Bag H L b) (n : H p = none) : p ≠ L := fun e => h.someL (e ▸ n)
/-- another object was changed -/
theorem Bag.keep {H H' : Hp} {L b p : Addr} (h : Bag H L b) (k : Keep p H H') (n : p ≠ b) (n2 : p ≠ L) : Bag H' L b := by
  obtain ⟨ns, i, big, mix, cnt, h1, h2, h3⟩ := h
  exact ⟨ns, i, big, mix, cnt, k _ _ h1 n.symm, k _ _ h2 n2.symm, h3⟩
theorem Bag.mk {H : Hp} {L b : Addr} {ns : List Int} {i : Nat} {big mix cnt : Int} (hb : H b = Option.some (.lst [.ref L, .int i, .int big, .int mix, .int cnt])) (hL : H L = Option.some (.lst (ns.map V.int))) (n : L ≠ b) : Bag H L b :=
  ⟨ns, i, big, mix, cnt, hb, hL, n⟩

/-! ### fields by name -/
theorem lk0 {a : Str} {v : V} {r : List (Str × V)} : ((a, v) :: r).lookup a = some v := by simp [List.lookup]
theorem lk1 {a b : Str} {u : V} {o : Option V} {r : List (Str × V)} (h : (b == a) = false) (k : r.lookup b = o) : ((a, u) :: r).lookup b = o := by
  simp only [List.lookup, h]
  exact k
theorem lkn {b : Str} : ([] : List (Str × V)).lookup b = none := rfl
theorem putF_nil {f : Str} {v : V} : putF f v [] = [(f, v)] := rfl
theorem putF_ne {f g : Str} {u v : V} {r : List (Str × V)} (h : ¬ g = f) : putF f v ((g, u) :: r) = (g, u) :: putF f v r := if_neg h
theorem putF_eq {f : Str} {u v : V} {r : List (Str × V)} : putF f v ((f, u) :: r) = (f, v) :: r := if_pos rfl
theorem same_made {H H2 : Hp} {x dx C : Addr} (nx : H x = none) (nd : H dx = none) (ne : dx ≠ x) (k : Keep x (upd (upd H dx (.own x)) x (.ins C dx [])) H2) : Same H H2 := fun a o e => by
  have n1 := ne_of_none e nx
  have n2 := ne_of_none e nd
  exact k a o (by rw [upd_ne n1, upd_ne n2]; exact e) n1

/-! ### an own exception class, made without arguments -/
theorem pmk_own0 {X : Cx} {C : Addr} {bmB : List Value} {B newId initId : String} {x : Str} {p pos : Pos} (F : ExcBaseFacts B newId initId bmB) (q : PySem.W.excIn X.K C bmB newId = true) (gC : X.mg x = some (.ref C))
    (kC : PySem.W.keepIn X.K (.ref C) = true) (r : Raises X (.ref C)) (hg : Gl X x) (hdb : (x == ("__debug__" : Str)) = false := by decide) : L2N.PMk X (.Call (.Name x p) [] [] pos) (fun _ H Q => Q (.ref C) none H) := by
  intro pins s σ H Q I h
  refine wpAny_Call_Name_kw (ld_glob I hg gC ?_ hdb)
  refine PySem.W.callWith_K0 I.kIn kC ?_
  obtain ⟨bm, N, nm, qn, bs, hdct, sn, sub, ab, col, dd, k0, k1, k2, k3, k5, mN, hC, hN, hni, T⟩ := exc_obj I.kIn q
  refine wpAny_call_exc_subT F T hC hN hni (fun h' e hm => ?_) (Nat.zero_le _)
  exact L2N.mk_of I hm r h (I.hok.gone hm.new)

theorem erase_perm {α : Type} : ∀ {l : List α} {i : Nat} (h : i < l.length), (l[i] :: l.eraseIdx i).Perm l
  | a :: l, 0, _ => .refl _
  | a :: l, i + 1, h => by
    have ih := erase_perm (l := l) (i := i) (by simpa using h)
    simp only [List.getElem_cons_succ, List.eraseIdx_cons_succ]
    exact (List.Perm.swap _ _ _).trans (.cons _ ih)
/-! ### numbers in lowest terms -/
/-- a / b in lowest terms -/
def nrmC (a b : Int) : Int := if b < 0 then -((Nat.gcd a.natAbs b.natAbs : Nat) : Int) else ((Nat.gcd a.natAbs b.natAbs : Nat) : Int)
def nrm (a b : Int) : Int × Int := (a.fdiv (nrmC a b), b.fdiv (nrmC a b))
theorem nrmC_ne {a b : Int} (h : b ≠ 0) : nrmC a b ≠ 0 := by
  have g : 0 < Nat.gcd a.natAbs b.natAbs := Nat.gcd_pos_of_pos_right _ (by omega)
  unfold nrmC
  split <;> omega
theorem nrmC_abs {a b : Int} : (nrmC a b).natAbs = Nat.gcd a.natAbs b.natAbs := by
  unfold nrmC
  split <;> omega
theorem nrmC_log {a b : Int} (h : b ≠ 0) (hb : b.natAbs.log2 < 9000) : (nrmC a b).natAbs.log2 < 9000 := by
  rw [nrmC_abs]
  have g : Nat.gcd a.natAbs b.natAbs ≤ b.natAbs := Nat.gcd_le_right _ (by omega)
  have hb2 : b.natAbs < 2 ^ 9000 := (Nat.log2_lt (by omega)).mp hb
  exact (Nat.log2_lt (by have := Nat.gcd_pos_of_pos_right a.natAbs (show 0 < b.natAbs by omega); omega)).mpr (Nat.lt_of_le_of_lt g hb2)
theorem nrmC_dvd_a {a b : Int} : nrmC a b ∣ a := by
  have h : ((Nat.gcd a.natAbs b.natAbs : Nat) : Int) ∣ a := Int.ofNat_dvd_left.mpr (Nat.gcd_dvd_left _ _)
  unfold nrmC
  split
  · exact Int.neg_dvd.mpr h
  · exact h
theorem nrmC_dvd_b {a b : Int} : nrmC a b ∣ b := by
  have h : ((Nat.gcd a.natAbs b.natAbs : Nat) : Int) ∣ b := Int.ofNat_dvd_left.mpr (Nat.gcd_dvd_right _ _)
  unfold nrmC
  split
  · exact Int.neg_dvd.mpr h
  · exact h
theorem fdiv_mul {a c : Int} (h : c ∣ a) : a.fdiv c * c = a := Int.fdiv_mul_cancel h
theorem nrm_a {a b : Int} : (nrm a b).1 * nrmC a b = a := fdiv_mul nrmC_dvd_a
theorem nrm_b {a b : Int} : (nrm a b).2 * nrmC a b = b := fdiv_mul nrmC_dvd_b
/-- in lowest terms -/
structure Red (t b : Int) : Prop where
  pos : 0 < b
  cop : Nat.gcd t.natAbs b.natAbs = 1
theorem nrm_red {a b : Int} (h : b ≠ 0) : Red (nrm a b).1 (nrm a b).2 := by
  have e1 := nrm_a (a := a) (b := b)
  have e2 := nrm_b (a := a) (b := b)
  have hc := nrmC_ne (a := a) h
  refine ⟨?_, ?_⟩
  · have s : (0 < b ∧ 0 < nrmC a b) ∨ (b < 0 ∧ nrmC a b < 0) := by
      have g : 0 < Nat.gcd a.natAbs b.natAbs := Nat.gcd_pos_of_pos_right _ (by omega)
      unfold nrmC
      split <;> omega
    rcases s with ⟨s1, s2⟩ | ⟨s1, s2⟩
    · exact Int.pos_of_mul_pos_left (by rw [e2]; exact s1) s2
    · refine Int.pos_of_mul_pos_left (b := -nrmC a b) ?_ (by omega)
      rw [Int.mul_neg, e2]
      omega
  · have g : 0 < Nat.gcd a.natAbs b.natAbs := Nat.gcd_pos_of_pos_right _ (by omega)
    have f1 : (nrm a b).1.natAbs * Nat.gcd a.natAbs b.natAbs = a.natAbs := by
      have := congrArg Int.natAbs e1
      rw [Int.natAbs_mul, nrmC_abs] at this
      exact this
    have f2 : (nrm a b).2.natAbs * Nat.gcd a.natAbs b.natAbs = b.natAbs := by
      have := congrArg Int.natAbs e2
      rw [Int.natAbs_mul, nrmC_abs] at this
      exact this
    have f3 : Nat.gcd ((nrm a b).1.natAbs * Nat.gcd a.natAbs b.natAbs) ((nrm a b).2.natAbs * Nat.gcd a.natAbs b.natAbs) = Nat.gcd a.natAbs b.natAbs := by rw [f1, f2]
    rw [Nat.gcd_mul_right] at f3
    exact Nat.eq_of_mul_eq_mul_right g (by rw [f3, Nat.one_mul])
theorem nrm_cross {a b : Int} : (nrm a b).1 * b = a * (nrm a b).2 := by
  have e1 := nrm_a (a := a) (b := b)
  have e2 := nrm_b (a := a) (b := b)
  have h : (nrm a b).1 * ((nrm a b).2 * nrmC a b) = (nrm a b).1 * nrmC a b * (nrm a b).2 := by
    rw [Int.mul_assoc, Int.mul_comm (nrmC a b)]
  rw [e1, e2] at h
  exact h
theorem Red.uniq {t b t' b' : Int} (h : Red t b) (h' : Red t' b') (e : t * b' = t' * b) : t = t' ∧ b = b' := by
  have hb := h.pos
  have hb' := h'.pos
  have f : t.natAbs * b'.natAbs = t'.natAbs * b.natAbs := by
    have := congrArg Int.natAbs e
    rw [Int.natAbs_mul, Int.natAbs_mul] at this
    exact this
  have c : Nat.Coprime b.natAbs t.natAbs := (Nat.gcd_comm _ _).trans h.cop
  have c' : Nat.Coprime b'.natAbs t'.natAbs := (Nat.gcd_comm _ _).trans h'.cop
  have d1 : b.natAbs ∣ b'.natAbs := c.dvd_of_dvd_mul_left ⟨t'.natAbs, by rw [f, Nat.mul_comm]⟩
  have d2 : b'.natAbs ∣ b.natAbs := c'.dvd_of_dvd_mul_left ⟨t.natAbs, by rw [← f, Nat.mul_comm]⟩
  have eb : b = b' := by
    have := Nat.dvd_antisymm d1 d2
    omega
  subst eb
  exact ⟨Int.eq_of_mul_eq_mul_right (by omega) e, rfl⟩
/-- which fraction stands for the number doesn't matter -/
theorem nrm_same {a b c d : Int} (hb : b ≠ 0) (hd : d ≠ 0) (e : a * d = c * b) : nrm a b = nrm c d := by
  have h1 := nrm_cross (a := a) (b := b)
  have h2 := nrm_cross (a := c) (b := d)
  have k : (nrm a b).1 * (nrm c d).2 = (nrm c d).1 * (nrm a b).2 := by
    refine Int.eq_of_mul_eq_mul_right (a := b * d) (Int.mul_ne_zero hb hd) ?_
    calc (nrm a b).1 * (nrm c d).2 * (b * d) = ((nrm a b).1 * b) * (d * (nrm c d).2) := by ac_rfl
      _ = (a * (nrm a b).2) * (d * (nrm c d).2) := by rw [h1]
      _ = (a * d) * ((nrm a b).2 * (nrm c d).2) := by ac_rfl
      _ = (c * b) * ((nrm a b).2 * (nrm c d).2) := by rw [e]
      _ = (c * (nrm c d).2) * ((nrm a b).2 * b) := by ac_rfl
      _ = ((nrm c d).1 * d) * ((nrm a b).2 * b) := by rw [h2]
      _ = (nrm c d).1 * (nrm a b).2 * (b * d) := by ac_rfl
  obtain ⟨e1, e2⟩ := (nrm_red hb).uniq (nrm_red hd) k
  exact Prod.ext e1 e2
theorem nrm_id {t b : Int} (h : Red t b) : nrm t b = (t, b) := by
  have hb := h.pos
  obtain ⟨e1, e2⟩ := (nrm_red (a := t) (b := b) (by omega)).uniq h nrm_cross
  exact Prod.ext e1 e2
theorem red_one {t : Int} : Red t 1 := ⟨by decide, by simp⟩
theorem nrm_one {t : Int} : nrm t 1 = (t, 1) := nrm_id red_one

theorem nrm_zero {a b : Int} (h : b ≠ 0) : (nrm a b).1 = 0 ↔ a = 0 := by
  have e := nrm_a (a := a) (b := b)
  have c := nrmC_ne (a := a) h
  constructor
  · intro z
    rw [z, Int.zero_mul] at e
    exact e.symm
  · intro z
    rw [z] at e
    rcases Int.mul_eq_zero.mp e with u | u
    · rw [z]
      exact u
    · rw [z] at c
      exact absurd u c
theorem nrm_ne {a b : Int} (h : b ≠ 0) : (nrm a b).2 ≠ 0 := by
  have := (nrm_red (a := a) h).pos
  omega
/-- a quotient of numbers in lowest terms -/
theorem nrm_over {a b c d : Int} (hb : b ≠ 0) (hd : d ≠ 0) (hc : c ≠ 0) : nrm ((nrm a b).1 * (nrm c d).2) ((nrm a b).2 * (nrm c d).1) = nrm (a * d) (b * c) := by
  have h1 := nrm_cross (a := a) (b := b)
  have h2 := nrm_cross (a := c) (b := d)
  have n1 := nrm_ne (a := a) hb
  have n2 : (nrm c d).1 ≠ 0 := fun z => hc ((nrm_zero hd).mp z)
  refine nrm_same (Int.mul_ne_zero n1 n2) (Int.mul_ne_zero hb hc) ?_
  calc (nrm a b).1 * (nrm c d).2 * (b * c) = ((nrm a b).1 * b) * (c * (nrm c d).2) := by ac_rfl
    _ = (a * (nrm a b).2) * ((nrm c d).1 * d) := by rw [h1, h2]
    _ = a * d * ((nrm a b).2 * (nrm c d).1) := by ac_rfl

/-! ### Ratios -/
/-- the ratio t / b stands at p -/
def RatAt (ca : Nat → Addr) (H : Hp) (p : Addr) (t b : Int) : Prop := Red t b ∧ ∃ dx, H p = some (.ins (ca 2) dx [("top", .int t), ("bottom", .int b)])
theorem RatAt.same {ca : Nat → Addr} {H H' : Hp} {p : Addr} {t b : Int} (h : RatAt ca H p t b) (s : Same H H') : RatAt ca H' p t b := ⟨h.1, let ⟨dx, e⟩ := h.2; ⟨dx, s _ _ e⟩⟩
/-- a number: an int, or a ratio -/
def NumV (ca : Nat → Addr) (H : Hp) (x : V) (t b : Int) : Prop := (x = .int t ∧ b = 1) ∨ ∃ p, x = .ref p ∧ RatAt ca H p t b
theorem NumV.same {ca : Nat → Addr} {H H' : Hp} {x : V} {t b : Int} (h : NumV ca H x t b) (s : Same H H') : NumV ca H' x t b :=
  h.imp id fun ⟨p, e, r⟩ => ⟨p, e, r.same s⟩
theorem NumV.red {ca : Nat → Addr} {H : Hp} {x : V} {t b : Int} (h : NumV ca H x t b) : Red t b := by
  rcases h with ⟨_, rfl⟩ | ⟨p, _, r⟩
  · exact red_one
  · exact r.1
theorem kit_self {K : PySem.W.Frag} {v : Value} : PySem.W.kitOne K v v = some true := if_pos (beq_iff_eq.mpr rfl)
theorem put_rat {x y : V} : putF "bottom" y (putF "top" x []) = ([("top", x), ("bottom", y)] : List (Str × V)) := by
  rw [putF_nil, putF_ne (by decide +kernel), putF_nil]
theorem lt164 {z : Int} (h0 : -(10 ^ 49 + 2) < z) (h : z < 10 ^ 49 + 2) : z.natAbs < 2 ^ 164 := by
  have e : (2 : Nat) ^ 164 = 23384026197294446691258957323460528314494920687616 := by decide
  have e2 : (10 : Int) ^ 49 = 10000000000000000000000000000000000000000000000000 := by decide
  rw [e]
  rw [e2] at h0 h
  omega
theorem lg164 {z : Int} (h : z.natAbs < 2 ^ 164) : z.natAbs.log2 < 9000 := Nat.lt_trans (PySem.Flt.log2_lt_of (by decide) h) (by decide)
theorem RatAt.mk {ca : Nat → Addr} {H : Hp} {p dx : Addr} {t b : Int} (h : Red t b) (e : H p = some (.ins (ca 2) dx [("top", .int (nrm t b).1), ("bottom", .int (nrm t b).2)])) : RatAt ca H p t b := by
  rw [nrm_id h] at e
  exact ⟨h, dx, e⟩
theorem RatAt.of {ca : Nat → Addr} {H : Hp} {p dx : Addr} {t b : Int} (h : b ≠ 0) (e : H p = some (.ins (ca 2) dx [("top", .int (nrm t b).1), ("bottom", .int (nrm t b).2)])) : RatAt ca H p (nrm t b).1 (nrm t b).2 := ⟨nrm_red h, dx, e⟩
theorem nrm_le1 {a b : Int} (h : b ≠ 0) : (nrm a b).1.natAbs ≤ a.natAbs := by
  have e := congrArg Int.natAbs (nrm_a (a := a) (b := b))
  rw [Int.natAbs_mul] at e
  have c : 0 < (nrmC a b).natAbs := by have := nrmC_ne (a := a) h; omega
  rw [← e]
  exact Nat.le_mul_of_pos_right _ c
theorem nrm_le2 {a b : Int} (h : b ≠ 0) : (nrm a b).2.natAbs ≤ b.natAbs := by
  have e := congrArg Int.natAbs (nrm_b (a := a) (b := b))
  rw [Int.natAbs_mul] at e
  have c : 0 < (nrmC a b).natAbs := by have := nrmC_ne (a := a) h; omega
  rw [← e]
  exact Nat.le_mul_of_pos_right _ c
/-- a pair of ints in lowest terms, none of them large -/
structure TupR (H : Hp) (p : Addr) (t b : Int) : Prop where
  red : Red t b
  st : t.natAbs < 2 ^ 170
  sb : b.natAbs < 2 ^ 170
  at_ : H p = some (.tup [.int t, .int b])
theorem tup_ne {H : Hp} {L b p : Addr} {xs : List V} (B : Bag H L b) (e : H p = some (.tup xs)) : p ≠ b := by
  obtain ⟨ns, i, big, mix, cnt, h1, _⟩ := B
  exact ne_of e h1 fun z => nomatch z
theorem TupR.keep {H H' : Hp} {L b p : Addr} {t u : Int} (h : TupR H p t u) (B : Bag H L b) (k : Keep b H H') : TupR H' p t u := ⟨h.red, h.st, h.sb, k _ _ h.at_ (tup_ne B h.at_)⟩
theorem TupR.same {H H' : Hp} {p : Addr} {t u : Int} (h : TupR H p t u) (s : Same H H') : TupR H' p t u := ⟨h.red, h.st, h.sb, s _ _ h.at_⟩
theorem TupR.of {H : Hp} {p : Addr} {a b : Int} (hb : b ≠ 0) (sa : a.natAbs < 2 ^ 164) (sb : b.natAbs < 2 ^ 164) (e : H p = some (.tup [.int (nrm a b).1, .int (nrm a b).2])) : TupR H p (nrm a b).1 (nrm a b).2 :=
  ⟨nrm_red hb, Nat.lt_of_le_of_lt (nrm_le1 hb) (Nat.lt_trans sa (by decide)), Nat.lt_of_le_of_lt (nrm_le2 hb) (Nat.lt_trans sb (by decide)), e⟩
theorem lg170 {z : Int} (h : z.natAbs < 2 ^ 170) : z.natAbs.log2 < 9000 := Nat.lt_trans (PySem.Flt.log2_lt_of (by decide) h) (by decide)
theorem m170 {x y : Int} (h : x.natAbs < 2 ^ 170) (h2 : y.natAbs < 2 ^ 170) : IntMulOk x y := mok_w h h2
theorem eqv2 {a b c d : Int} : PyData.eqv (.tuple [.int a, .int b]) (.tuple [.int c, .int d]) = decide (a = c ∧ b = d) := by
  by_cases h1 : a = c <;> by_cases h2 : b = d <;> simp [PyData.eqv, PyData.eqvAll, h1, h2]
/-- two pairs of ints, compared -/
theorem eqT {K : PySem.W.Frag} {H : Hp} {p q : Addr} {a b c d : Int} {Q : VK} (hp : H p = some (.tup [.int a, .int b])) (hq : H q = some (.tup [.int c, .int d])) (k : Q (.bl (decide (a = c ∧ b = d))) H) : rEqD K (.ref p) (.ref q) H Q := by
  refine ⟨.tuple [.int a, .int b], .tuple [.int c, .int d], .tup (SqT.of hp) (.cons (.int _) (.cons (.int _) .nil)), .tup (SqT.of hq) (.cons (.int _) (.cons (.int _) .nil)), rfl, rfl, ?_⟩
  rw [eqv2]
  exact k
theorem neT {K : PySem.W.Frag} {H : Hp} {p q : Addr} {a b c d : Int} {Q : VK} (hp : H p = some (.tup [.int a, .int b])) (hq : H q = some (.tup [.int c, .int d])) (k : Q (.bl (!decide (a = c ∧ b = d))) H) : rNeD K (.ref p) (.ref q) H Q := by
  refine ⟨.tuple [.int a, .int b], .tuple [.int c, .int d], .tup (SqT.of hp) (.cons (.int _) (.cons (.int _) .nil)), .tup (SqT.of hq) (.cons (.int _) (.cons (.int _) .nil)), rfl, rfl, ?_⟩
  rw [eqv2]
  exact k
theorem iteNv {x y : V} {A B : Prop} (h : x = y) (b : B) : if (!decide (x = y)) = true then A else B := by
  rw [decide_eq_true h]
  exact iteF b
def dueN (w a0 a1 b0 b1 : Int) : Int × Int := if w = 0 then (a0, b0) else if w = 1 then (a0 * b1, a1 * b0) else if w = 2 then (a0, a1 * b0) else (a0 * b1, b0)
theorem due_ne {w a0 a1 b0 b1 : Int} (h1 : a1 ≠ 0) (h3 : b1 ≠ 0) (h2 : b0 ≠ 0) : (dueN w a0 a1 b0 b1).2 ≠ 0 := by
  unfold dueN
  split
  · exact h2
  · split
    · exact Int.mul_ne_zero h1 h2
    · split
      · exact Int.mul_ne_zero h1 h2
      · exact h2
theorem due_log {w a0 a1 b0 b1 : Int} (s1 : a1.natAbs < 2 ^ 170) (s2 : b0.natAbs < 2 ^ 170) (_ : b1.natAbs < 2 ^ 170) : (dueN w a0 a1 b0 b1).2.natAbs.log2 < 9000 := by
  have m3 : (a1 * b0).natAbs.log2 < 9000 := Nat.lt_trans (PySem.Flt.log2_lt_of (by decide) (wide_lt s1 s2)) (by decide)
  unfold dueN
  split
  · exact lg170 s2
  · split
    · exact m3
    · split
      · exact m3
      · exact lg170 s2
/-! ### sizes -/
def Sz (n : Nat) (z : Int) : Prop := z.natAbs < 2 ^ n
theorem Sz.mono {n m : Nat} {z : Int} (h : Sz n z) (l : n ≤ m := by decide) : Sz m z := Nat.lt_of_lt_of_le h (Nat.pow_le_pow_right (by decide) l)
theorem Sz.mul {n m : Nat} {x y : Int} (h : Sz n x) (k : Sz m y) : Sz (n + m) (x * y) := by
  unfold Sz
  rw [Int.natAbs_mul, Nat.pow_add]
  exact Nat.mul_lt_mul_of_lt_of_le h (Nat.le_of_lt k) (Nat.two_pow_pos _)
theorem Sz.add {n m : Nat} {x y : Int} (h : Sz n x) (k : Sz m y) : Sz (n + m + 1) (x + y) := by
  unfold Sz at *
  have a : 2 ^ n ≤ 2 ^ (n + m) := Nat.pow_le_pow_right (by decide) (Nat.le_add_right _ _)
  have b : 2 ^ m ≤ 2 ^ (n + m) := Nat.pow_le_pow_right (by decide) (Nat.le_add_left _ _)
  rw [Nat.pow_succ]
  omega
/-- both of the same size -/
theorem Sz.add' {n : Nat} {x y : Int} (h : Sz n x) (k : Sz n y) : Sz (n + 1) (x + y) := by
  unfold Sz at *
  rw [Nat.pow_succ]
  omega
theorem Sz.neg {n : Nat} {x : Int} (h : Sz n x) : Sz n (-x) := by
  unfold Sz at *
  omega
theorem Sz.sub {n m : Nat} {x y : Int} (h : Sz n x) (k : Sz m y) : Sz (n + m + 1) (x - y) := by
  rw [Int.sub_eq_add_neg]
  exact h.add k.neg
theorem Sz.sub' {n : Nat} {x y : Int} (h : Sz n x) (k : Sz n y) : Sz (n + 1) (x - y) := by
  unfold Sz at *
  rw [Nat.pow_succ]
  omega
theorem Sz.lg {n : Nat} {x : Int} (h : Sz n x) (l : n ≤ 8999 := by decide) (l0 : 0 < n := by decide) : x.natAbs.log2 < 9000 :=
  Nat.lt_of_lt_of_le (PySem.Flt.log2_lt_of l0 h) (Nat.le_succ_of_le l)
theorem Sz.mok {n m : Nat} {x y : Int} (h : Sz n x) (k : Sz m y) (h0 : 0 < n := by decide) (h1 : 0 < m := by decide) (l : n + m ≤ 1000000 := by decide) : IntMulOk x y := mok_w h k h0 h1 l
theorem Sz.le {n : Nat} {x y : Int} (h : Sz n x) (l : y.natAbs ≤ x.natAbs) : Sz n y := Nat.lt_of_le_of_lt l h
theorem Sz.one : Sz 1 1 := show (1 : Int).natAbs < 2 ^ 1 by decide
theorem Sz.zero : Sz 1 0 := show (0 : Int).natAbs < 2 ^ 1 by decide

/-! ### fractions, and the ratios that stand for them -/
theorem nrm_add {a b c d : Int} (hb : b ≠ 0) (hd : d ≠ 0) : nrm ((nrm a b).1 * (nrm c d).2 + (nrm c d).1 * (nrm a b).2) ((nrm a b).2 * (nrm c d).2) = nrm (a * d + c * b) (b * d) := by
  have h1 := nrm_cross (a := a) (b := b)
  have h2 := nrm_cross (a := c) (b := d)
  refine nrm_same (Int.mul_ne_zero (nrm_ne hb) (nrm_ne hd)) (Int.mul_ne_zero hb hd) ?_
  rw [Int.add_mul, Int.add_mul]
  congr 1
  · calc (nrm a b).1 * (nrm c d).2 * (b * d) = ((nrm a b).1 * b) * (d * (nrm c d).2) := by ac_rfl
      _ = a * (nrm a b).2 * (d * (nrm c d).2) := by rw [h1]
      _ = a * d * ((nrm a b).2 * (nrm c d).2) := by ac_rfl
  · calc (nrm c d).1 * (nrm a b).2 * (b * d) = ((nrm c d).1 * d) * (b * (nrm a b).2) := by ac_rfl
      _ = c * (nrm c d).2 * (b * (nrm a b).2) := by rw [h2]
      _ = c * b * ((nrm a b).2 * (nrm c d).2) := by ac_rfl
theorem nrm_neg {a b : Int} (hb : b ≠ 0) : nrm (-a) b = (-(nrm a b).1, (nrm a b).2) := by
  have h1 := nrm_cross (a := a) (b := b)
  have r := nrm_red (a := a) hb
  rw [← nrm_id (t := -(nrm a b).1) (b := (nrm a b).2) ⟨r.pos, by rw [Int.natAbs_neg]; exact r.cop⟩]
  refine nrm_same hb (nrm_ne hb) ?_
  rw [Int.neg_mul, Int.neg_mul, h1]
theorem nrm_sub {a b c d : Int} (hb : b ≠ 0) (hd : d ≠ 0) : nrm ((nrm a b).1 * (nrm c d).2 - (nrm c d).1 * (nrm a b).2) ((nrm a b).2 * (nrm c d).2) = nrm (a * d - c * b) (b * d) := by
  have h := nrm_add (a := a) (c := -c) hb hd
  rw [nrm_neg hd] at h
  simp only [Int.neg_mul, ← Int.sub_eq_add_neg] at h
  exact h
theorem nrm_mul {a b c d : Int} (hb : b ≠ 0) (hd : d ≠ 0) : nrm ((nrm a b).1 * (nrm c d).1) ((nrm a b).2 * (nrm c d).2) = nrm (a * c) (b * d) := by
  have h1 := nrm_cross (a := a) (b := b)
  have h2 := nrm_cross (a := c) (b := d)
  refine nrm_same (Int.mul_ne_zero (nrm_ne hb) (nrm_ne hd)) (Int.mul_ne_zero hb hd) ?_
  calc (nrm a b).1 * (nrm c d).1 * (b * d) = ((nrm a b).1 * b) * ((nrm c d).1 * d) := by ac_rfl
    _ = a * (nrm a b).2 * (c * (nrm c d).2) := by rw [h1, h2]
    _ = a * c * ((nrm a b).2 * (nrm c d).2) := by ac_rfl
/-- the amount of a number -/
def iab (a : Int) : Int := if a < 0 then -a else a
theorem iab_nat {a : Int} : iab a = (a.natAbs : Int) := by unfold iab; split <;> omega
theorem Sz.iab {n : Nat} {x : Int} (h : Sz n x) : Sz n (iab x) := h.le (by rw [iab_nat]; exact Nat.le_of_eq (Int.natAbs_natCast _))
theorem nrm_abs {a b : Int} (hb : b ≠ 0) : nrm (iab (nrm a b).1) (nrm a b).2 = nrm (iab a) (iab b) := by
  have h1 := congrArg Int.natAbs (nrm_cross (a := a) (b := b))
  have r := nrm_red (a := a) hb
  rw [Int.natAbs_mul, Int.natAbs_mul] at h1
  have e : ((nrm a b).2.natAbs : Int) = (nrm a b).2 := Int.natAbs_of_nonneg (Int.le_of_lt r.pos)
  refine nrm_same (nrm_ne hb) (by rw [iab_nat]; omega) ?_
  rw [iab_nat, iab_nat, iab_nat, ← e, ← Int.natCast_mul, ← Int.natCast_mul, h1]
/-- the ratio of a / b stands at p -/
structure RatQ (ca : Nat → Addr) (H : Hp) (p : Addr) (a b : Int) : Prop where
  ne : b ≠ 0
  at_ : RatAt ca H p (nrm a b).1 (nrm a b).2
theorem RatQ.same {ca : Nat → Addr} {H H' : Hp} {p : Addr} {a b : Int} (h : RatQ ca H p a b) (s : Same H H') : RatQ ca H' p a b := ⟨h.ne, h.at_.same s⟩
theorem rsame {ca : Nat → Addr} {H H' : Hp} {p : Addr} {a b : Int} (s : Same H H') (h : RatQ ca H p a b) : RatQ ca H' p a b := h.same s
theorem strans {H H1 H2 : Hp} (t : Same H1 H2) (s : Same H H1) : Same H H2 := s.trans t
theorem RatQ.to {ca : Nat → Addr} {H : Hp} {p : Addr} {a b c d : Int} (h : RatQ ca H p a b) (hd : d ≠ 0) (e : a * d = c * b) : RatQ ca H p c d := ⟨hd, by rw [← nrm_same h.ne hd e]; exact h.at_⟩
theorem RatQ.ins {ca : Nat → Addr} {H : Hp} {p : Addr} {a b : Int} (h : RatQ ca H p a b) : ∃ dx, H p = some (.ins (ca 2) dx [("top", .int (nrm a b).1), ("bottom", .int (nrm a b).2)]) := h.at_.2
theorem RatQ.of {ca : Nat → Addr} {H : Hp} {p dx : Addr} {a b a' b' : Int} (hb : b ≠ 0) (e : H p = some (.ins (ca 2) dx [("top", .int (nrm a' b').1), ("bottom", .int (nrm a' b').2)])) (n : nrm a' b' = nrm a b) : RatQ ca H p a b :=
  ⟨hb, by rw [n] at e; exact RatAt.of hb e⟩
/-- a number that is a / b: an int, or a ratio -/
def NumQ (ca : Nat → Addr) (H : Hp) (x : V) (a b : Int) : Prop := (x = .int a ∧ b = 1) ∨ ∃ p, x = .ref p ∧ RatQ ca H p a b
theorem NumQ.same {ca : Nat → Addr} {H H' : Hp} {x : V} {a b : Int} (h : NumQ ca H x a b) (s : Same H H') : NumQ ca H' x a b := h.imp id fun ⟨p, e, r⟩ => ⟨p, e, r.same s⟩
theorem NumQ.ne {ca : Nat → Addr} {H : Hp} {x : V} {a b : Int} (h : NumQ ca H x a b) : b ≠ 0 := by
  rcases h with ⟨_, rfl⟩ | ⟨_, _, r⟩
  · decide
  · exact r.ne
theorem NumQ.num {ca : Nat → Addr} {H : Hp} {x : V} {a b : Int} (h : NumQ ca H x a b) : NumV ca H x (nrm a b).1 (nrm a b).2 := by
  rcases h with ⟨rfl, rfl⟩ | ⟨p, e, r⟩
  · rw [nrm_one]
    exact .inl ⟨rfl, rfl⟩
  · exact .inr ⟨p, e, r.at_⟩
theorem RatQ.num {ca : Nat → Addr} {H : Hp} {p : Addr} {a b : Int} (h : RatQ ca H p a b) : NumQ ca H (.ref p) a b := .inr ⟨p, rfl, h⟩
theorem NumQ.int {ca : Nat → Addr} {H : Hp} {a : Int} : NumQ ca H (.int a) a 1 := .inl ⟨rfl, rfl⟩
theorem rOwn_of {ca : Nat → Addr} {H : Hp} {p : Addr} {x : V} {a b a' b' : Int} {sp : Sp} {E : XK} {Q : VK} (h : RatQ ca H p a b) (n : NumQ ca H x a' b') (k : sp [.ref p, x] H Q E) : rOwn (ca 2) sp E (.ref p) x H Q := by
  obtain ⟨dx, e⟩ := h.ins
  refine ⟨p, dx, _, rfl, e, ?_, k⟩
  rcases n with ⟨rfl, rfl⟩ | ⟨q, rfl, r⟩
  · exact .inl ⟨_, rfl⟩
  · obtain ⟨dy, e2⟩ := r.ins
    exact .inr ⟨q, dy, _, rfl, e2⟩
theorem rRefl_of {ca : Nat → Addr} {H : Hp} {p : Addr} {i a b : Int} {sp : Sp} {E : XK} {Q : VK} (h : RatQ ca H p a b) (k : sp [.ref p, .int i] H Q E) : rRefl (ca 2) sp E (.int i) (.ref p) H Q := by
  obtain ⟨dx, e⟩ := h.ins
  exact ⟨i, p, dx, _, rfl, rfl, e, k⟩
theorem rUna_of {ca : Nat → Addr} {H : Hp} {p : Addr} {a b : Int} {sp : Sp} {E : XK} {Q : VK} (h : RatQ ca H p a b) (k : sp [.ref p] H Q E) : rUna (ca 2) sp E (.ref p) H Q := by
  obtain ⟨dx, e⟩ := h.ins
  exact ⟨p, dx, _, rfl, e, k⟩
/-- sums of fractions, from the left -/
def sumQ : Int × Int → List (Int × Int) → Int × Int := List.foldl fun x y => (x.1 * y.2 + y.1 * x.2, x.2 * y.2)
theorem sumQ_size : ∀ (fs : List (Int × Int)) (z : Int × Int) (n : Nat), (∀ f ∈ fs, Sz 200 f.1 ∧ Sz 200 f.2) → Sz n z.1 → Sz n z.2 → Sz (n + 201 * fs.length) (sumQ z fs).1 ∧ Sz (n + 201 * fs.length) (sumQ z fs).2
  | [], z, n, _, h1, h2 => ⟨h1, h2⟩
  | f :: fs, z, n, hf, h1, h2 => by
    obtain ⟨f1, f2⟩ := hf f List.mem_cons_self
    have g1 : Sz (n + 201) (z.1 * f.2 + f.1 * z.2) := ((h1.mul f2).add' ((f1.mul h2).mono (by omega))).mono (by omega)
    have g2 : Sz (n + 201) (z.2 * f.2) := (h2.mul f2).mono (by omega)
    obtain ⟨r1, r2⟩ := sumQ_size fs (z.1 * f.2 + f.1 * z.2, z.2 * f.2) (n + 201) (fun g hg => hf g (List.mem_cons_of_mem _ hg)) g1 g2
    rw [List.length_cons]
    exact ⟨r1.mono (by omega), r2.mono (by omega)⟩
theorem sumQ_ne : ∀ (fs : List (Int × Int)) (z : Int × Int), (∀ f ∈ fs, f.2 ≠ 0) → z.2 ≠ 0 → (sumQ z fs).2 ≠ 0
  | [], _, _, h => h
  | f :: fs, z, hf, h => sumQ_ne fs (z.1 * f.2 + f.1 * z.2, z.2 * f.2) (fun g hg => hf g (List.mem_cons_of_mem _ hg)) (Int.mul_ne_zero h (hf f List.mem_cons_self))
theorem sumQ_app {fs : List (Int × Int)} {z f : Int × Int} : sumQ z (fs ++ [f]) = ((sumQ z fs).1 * f.2 + f.1 * (sumQ z fs).2, (sumQ z fs).2 * f.2) := by
  unfold sumQ
  rw [List.foldl_append]
  rfl
/-- a sum whose first part alone is in lowest terms -/
theorem nrm_addL {a b c d : Int} (hb : b ≠ 0) (hd : d ≠ 0) : nrm ((nrm a b).1 * d + c * (nrm a b).2) ((nrm a b).2 * d) = nrm (a * d + c * b) (b * d) := by
  have h1 := nrm_cross (a := a) (b := b)
  refine nrm_same (Int.mul_ne_zero (nrm_ne hb) hd) (Int.mul_ne_zero hb hd) ?_
  rw [Int.add_mul, Int.add_mul]
  congr 1
  · calc (nrm a b).1 * d * (b * d) = ((nrm a b).1 * b) * (d * d) := by ac_rfl
      _ = a * (nrm a b).2 * (d * d) := by rw [h1]
      _ = a * d * ((nrm a b).2 * d) := by ac_rfl
  · ac_rfl
theorem RatQ.low {ca : Nat → Addr} {H : Hp} {p : Addr} {a b : Int} (h : RatQ ca H p a b) : RatQ ca H p (nrm a b).1 (nrm a b).2 := h.to (nrm_ne h.ne) nrm_cross.symm
/-! ### what another object's change leaves -/
theorem Bag.lst {H : Hp} {L b : Addr} (h : Bag H L b) : ∃ xs, H b = Option.some (.lst xs) := by
  obtain ⟨ns, i, big, mix, cnt, h1, _⟩ := h
  exact ⟨_, h1⟩
theorem RatQ.put {ca : Nat → Addr} {H H' : Hp} {p c : Addr} {a b : Int} {xs : List V} (h : RatQ ca H p a b) (e : H c = some (.lst xs)) (k : Keep c H H') : RatQ ca H' p a b :=
  ⟨h.ne, h.at_.1, let ⟨dx, q⟩ := h.at_.2; ⟨dx, k _ _ q (ne_of q e fun z => nomatch z)⟩⟩
theorem NumQ.put {ca : Nat → Addr} {H H' : Hp} {c : Addr} {x : V} {a b : Int} {xs : List V} (h : NumQ ca H x a b) (e : H c = some (.lst xs)) (k : Keep c H H') : NumQ ca H' x a b := h.imp id fun ⟨p, q, r⟩ => ⟨p, q, r.put e k⟩
theorem tput {H H' : Hp} {p c : Addr} {ys xs : List V} (h : H p = some (.tup ys)) (e : H c = some (.lst xs)) (k : Keep c H H') : H' p = some (.tup ys) := k _ _ h (ne_of h e fun z => nomatch z)
/-- a number with its fraction -/
def Item (ca : Nat → Addr) (H : Hp) (z : V) : Prop := ∃ t x v a b, z = .ref t ∧ H t = some (.tup [x, .ref v]) ∧ H v = some (.tup [.int a, .int b]) ∧ NumQ ca H x a b ∧ Sz 200 a ∧ Sz 200 b
theorem Item.put {ca : Nat → Addr} {H H' : Hp} {c : Addr} {z : V} {xs : List V} (h : Item ca H z) (e : H c = some (.lst xs)) (k : Keep c H H') : Item ca H' z := by
  obtain ⟨t, x, v, a, b, rfl, h1, h2, n, s⟩ := h
  exact ⟨t, x, v, a, b, rfl, tput h1 e k, tput h2 e k, n.put e k, s⟩
theorem Item.same {ca : Nat → Addr} {H H' : Hp} {z : V} (h : Item ca H z) (s : Same H H') : Item ca H' z := by
  obtain ⟨t, x, v, a, b, rfl, h1, h2, n, z⟩ := h
  exact ⟨t, x, v, a, b, rfl, s _ _ h1, s _ _ h2, n.same s, z⟩
/-- the numbers of a list and their fractions, beside each other -/
def Nums (ca : Nat → Addr) (H : Hp) : List V → List (Int × Int) → Prop := Paired fun x f => NumQ ca H x f.1 f.2 ∧ Sz 200 f.1 ∧ Sz 200 f.2
theorem paired_get {α β : Type} {F : α → β → Prop} : ∀ {xs : List α} {fs : List β} {i : Nat} {x : α} {f : β}, Paired F xs fs → xs[i]? = some x → fs[i]? = some f → F x f
  | _, _, 0, _, _, .cons r _, h1, h2 => by
    simp at h1 h2
    subst h1; subst h2
    exact r
  | _, _, i + 1, _, _, .cons _ t, h1, h2 => paired_get (i := i) t (by simpa using h1) (by simpa using h2)
theorem paired_mem {α β : Type} {F : α → β → Prop} : ∀ {xs : List α} {fs : List β}, Paired F xs fs → ∀ f ∈ fs, ∃ x, F x f
  | _, _, .cons r t, f, h => by
    rcases List.mem_cons.mp h with rfl | h
    · exact ⟨_, r⟩
    · exact paired_mem t f h
theorem Nums.same {ca : Nat → Addr} {H H' : Hp} {xs : List V} {fs : List (Int × Int)} (h : Nums ca H xs fs) (s : Same H H') : Nums ca H' xs fs := Paired.mapP h fun _ _ n => ⟨n.1.same s, n.2⟩
theorem Nums.put {ca : Nat → Addr} {H H' : Hp} {c : Addr} {xs ys : List V} {fs : List (Int × Int)} (h : Nums ca H xs fs) (e : H c = some (.lst ys)) (k : Keep c H H') : Nums ca H' xs fs := Paired.mapP h fun _ _ n => ⟨n.1.put e k, n.2⟩
theorem Nums.ne {ca : Nat → Addr} {H : Hp} {xs : List V} {fs : List (Int × Int)} (h : Nums ca H xs fs) : ∀ f ∈ fs, f.2 ≠ 0 := fun f m => let ⟨_, n⟩ := paired_mem h f m; n.1.ne
theorem Nums.sz {ca : Nat → Addr} {H : Hp} {xs : List V} {fs : List (Int × Int)} (h : Nums ca H xs fs) : ∀ f ∈ fs, Sz 200 f.1 ∧ Sz 200 f.2 := fun f m => let ⟨_, n⟩ := paired_mem h f m; n.2
/-! ### lists of the same things -/
def DId : Eqv := fun x y H => DFlat x y H ∨ ∃ a, x = .ref a ∧ y = .ref a
theorem mon_id : Mon DId := fun _ _ _ _ _ d => d
theorem eqG_id {X : Cx} : EqG X 0 DId := EqG.or eqG_flat fun A pins s σ H x y u v sb I rx ry d => by
  obtain ⟨a, rfl, rfl⟩ := d
  cases rx
  cases ry
  exact SeqAt.EqAt.same (A := A) (s := s) (.ref a) X.prog X.w X.xe _ ⟨rfl, H, I, Ext.rfl'⟩
theorem op_eqId {X : Cx} (hr : Room 1 X.A) : OpR X (compareOp .Eq) (rEqG (DList DId)) := op_eqG (rcG_list mon_id eqG_id) hr
/-! ### a static method, called on its class -/
structure OwnS (P : Program) (w : World) (K : PySem.W.Frag) (mg : Str → Option Value) (base : Heap) (k : Nat) (C : Addr) (m : Str) (ps : List Str) (sp : Sp) : Prop where
  ex : ∃ f fd p mc, FnOk P w K mg base (L2N.CX P w) k f fd ps sp ∧ ClX.CRead K C mc ∧ PySem.W.findCls K (.ref C) mc m = some (.get (.builtin "staticmethod.__get__") (.ref p) .none (.ref C)) ∧ (∃ rest, PySem.W.recIn K p "staticmethod" = some (.ref f :: rest)) ∧
    PySem.W.keepIn K (.ref f) = true ∧ Binds K fd ps []
def tStatS (C : Addr) (sp : Sp) (E : L2.St → XK) (ta : TE) (t : TA) : TE := fun σ H Q => ta σ H fun x H1 => x = .ref C ∧ t σ H1 fun vs H2 => sp vs H2 Q (E σ)
theorem pe_owns {X : Cx} {k : Nat} {C : Addr} {m : Str} {ps : List Str} {sp : Sp} {E : L2.St → XK} {pos apos : Pos} {e o : Expr} {es : List Expr} {ta : TE} {t : TA} {pl : Sem Bool} (O : OwnS X.prog X.w X.K X.mg X.base k C m ps sp) (he : PE X o ta) (hr : Room k X.A)
    (hx : ∀ σ, PassesAt (L2N.CX X.prog X.w) X σ (E σ)) (ha : PA X (e :: es) t)
    (hst : starEach (e :: es) X.env = (false, eval e X.env) :: starEach es X.env := by rfl) (hpl : (backTo pos (starEach es X.env)).any (·.1) = false := by rfl)
    (ht : eval (.Call (.Attribute o m apos) (e :: es) [] pos) X.env = (do
      let ov ← eval o X.env
      standAt apos.atName
      let (f, first) ← holding [ov] (getMethod ov m pl)
      callWith pos f first (backTo pos (starEach (e :: es) X.env)) (backToKw pos (keywordEach [] X.env))) := by rfl) :
    PE X (.Call (.Attribute o m apos) (e :: es) [] pos) (tStatS C sp E ta t) := by
  obtain ⟨f, fd, q, mc, F, r, hc, ⟨rest, hp⟩, hk, hb⟩ := O.ex
  refine ⟨fun pins s σ H Q I h => ?_⟩
  refine PySem.W.methodCall_KW (pl := pl) (thn (he.run pins s σ H _ I h) fun u s1 ⟨x, H1, I1, rx, ex, q1⟩ => ?_) ht
  subst ex
  obtain rfl : u = Value.ref C := rx
  refine PySem.W.method_cls I1.kIn r.ga (PySem.W.cls_bind I1.kIn r.rd hc ?_)
  refine wpAny_call (PySem.W.sm_get (s := { s1 with toks := s1.toks + 1 }) I1.kIn hp (PySem.W.handed_on rfl ?_))
  have I2 := I1.tok (s1.toks + 1)
  refine PySem.W.callWith_K (first := []) (h₀ := X.base) I.ok.mod.kin hk (thn (ha.run pos pins _ σ H1 _ I2 q1) fun us s2 ⟨vs, H2, I3, rv, q2⟩ => ⟨I3.kIn, ?_⟩) hst hpl
  exact run_fnS F hr hb (hx σ) I3 rv q2
/-! ### an own error that is caught -/
theorem exm1 {K : PySem.W.Frag} {C : Addr} (h1 : PySem.W.subIn K (.ref C) (.type "BaseException") = some true) (h2 : PySem.W.isClsIn K C = true) (h3 : PySem.W.typeIn K (.ref C) = some (.type "type")) (h4 : PySem.W.subIn K (.ref C) (.ref C) = some true) :
    PySem.W.exmOne K (.ref C) (.ref C) = some true := by
  have h2' : (PySem.W.clsIn K C).isSome = true := h2
  unfold PySem.W.exmOne PySem.W.kitCls
  rw [if_pos (by rw [h1]; rfl)]
  simp only [h2', h3, h4]
  rfl
def tGuard (p : Prop) (t : TS) : TS := fun D σ H => p ∧ t D σ H
theorem pss_err {X : Cx} {st : List Stmt} {t : TS} {cls : Value} {d : Option Addr} {oe : Obj} {C : Addr} (hz : Zc cls d oe) (h : Zc (.ref C) none oe → PSs X st t) : PSs X st (tGuard (cls = .ref C ∧ d = none) t) :=
  ⟨fun pins s σ H D I q => (h (q.1.1 ▸ q.1.2 ▸ hz)).run pins s σ H D I q.2⟩
/-! ### the law's own promise, and the end -/
def sp_law (K : PySem.W.Frag) (_ : Nat → Addr) : Sp := fun vs H Q _ => ∃ (a : Addr) (ns : List Int), vs = [.ref a] ∧ SqL K H a (ns.map V.int) ∧ ∀ H' : Hp, Q (.bl true) H'
theorem walk {l : PySem.W.OpenLaw} {q : Program} {loose : List Str} {XP : (Str → Option Value) → Heap → Prop} {YP : World → Heap → Prop} {d : DefRec} {K : Params → PySem.W.Frag} (k : Nat) (hk : Room k callerA) (hn : l.most = some 63) (hdf : d.params.defaults = [])
    (hY : ∀ (w : World) (h : Heap), YP w h → (K w.params).In h)
    (F : ∀ (w : World) (mg : Str → Option Value) (fa : Addr) (h : Heap), (K w.params).In h → h.Ns mainGlobals mg → mg d.name = some (.ref fa) →
      ∃ fd : FuncData, (∀ (s : Shared) (u : Value), BindsTo s fd ⟨[u], []⟩ [("_law_script", u)]) ∧ ∀ base : Heap, (K w.params).In base → base.Ns mainGlobals mg → FnOk l.prog w (K w.params) mg base (L2N.CX l.prog w) k fa fd ["_law_script"] (sp_law (K w.params) fun _ => 0)) :
    PySem.W.WalkO q loose XP YP l.row.toRowW d [] (fun f vs => PySem.call f vs) :=
  L2.walk_of (n := 63) (k := k) (x := "_law_script") (CX := fun w => L2N.CX l.prog w) (sp := fun w => sp_law (K w.params) fun _ => 0) hn (by decide) hdf hk hY F (fun _ _ a ns _ _ hS => ⟨a, ns, rfl, hS, fun _ => rfl⟩)
    fun _ _ _ _ _ h => by
      obtain ⟨_, _, _, _, _, _, _, _, _, _, _, _, z⟩ := h
      exact z
theorem binds_all {K : PySem.W.Frag} {fd : FuncData} {ps : List Str} {ds : List Value} (v : Vals [] ds) (b : L2.Binds K fd ps ds) : L2.Binds K fd ps [] := by
  cases v
  exact b
end Lo

set_option Elab.async false
set_option linter.all false
set_option maxRecDepth 100000
set_option maxHeartbeats 4000000
namespace Lo
open PySem PySem.Spec PyProof.Rows L2
open TL (tl tl_append)
/-! ### further rules -/
/-- a statement that is never reached -/
def tDead : TS := fun _ _ _ => False
theorem ps_dead {X : Cx} {st : Stmt} : PS X st tDead := ⟨fun _ _ _ _ _ _ h => h.elim⟩
theorem pe_const {X : Cx} {x : Str} {i : Int} {p : Pos} (hm : ∃ t, X.mg x = some (.int i t)) (hg : Gl X x) (hdb : (x == ("__debug__" : Str)) = false := by decide) : PE X (.Name x p) (tC (.int i)) := by
  obtain ⟨t, h⟩ := hm
  exact pe_glob hg h ⟨t, rfl⟩ hdb
theorem op_mulS {X : Cx} : OpR X (binaryOp .Mult) (fun x y H Q => ∃ z n, x = .str z ∧ y = .int n ∧ MulOk z n ∧ Q (.str (Txt.mul z n)) H) := by
  intro pins s σ H x y v u Q I rx ry h
  obtain ⟨z, n, rfl, rfl, hok, q⟩ := h
  obtain ⟨t, rfl⟩ := rx
  obtain ⟨t2, rfl⟩ := ry
  exact SB.mul hok fun t' k => ⟨.str (Txt.mul z n), H, I.tok _, ⟨t', rfl⟩, q⟩
section
variable {X : Cx} {k i : Nat} {C : Addr} {ps : List Str} {sp : Sp} {E : L2.St → XK} {x m y : Str} {p pos apos : Pos} {e o : Expr} {es : List Expr} {ta : TE} {t : TA} {dvs : List V}
/-- C() -/
theorem pe_owni0 (O : OwnI X.prog X.w X.K X.mg X.base k x C ps dvs sp) (hr : Room (k + 1) X.A) (hg : Gl X x) (hx : ∀ σ, PassesAt (L2N.CX X.prog X.w) X σ (E σ)) (hdb : (x == ("__debug__" : Str)) = false := by decide) :
    PE X (.Call (.Name x p) [] [] pos) (tMakeS C sp dvs E tNil) := by
  obtain ⟨f, fd, ds, F, M, hm, hb, hd⟩ := O.ex
  refine ⟨fun pins s σ H Q I h => ?_⟩
  refine wpAny_Call_Name_kw (ld_glob I hg hm ?_ hdb)
  exact PySem.W.callWith_K0 I.kIn M.kp (run_makeS (us := []) (vs := []) M F hr hb hd (hx σ) I .nil h)
/-- cls(..), cls a name of the def that holds the class -/
def tMakeL (i : Nat) (C : Addr) (sp : Sp) (dvs : List V) (E : L2.St → XK) (t : TA) : TE := fun σ H Q => σ[i]? = some (some (.ref C)) ∧ tMakeS C sp dvs E t σ H Q
theorem pe_ownl (O : OwnI X.prog X.w X.K X.mg X.base k x C ps dvs sp) (hr : Room (k + 1) X.A) (hN : X.N[i]? = some y) (hv : Vis X.env.scope y) (hx : ∀ σ, PassesAt (L2N.CX X.prog X.w) X σ (E σ)) (ha : PA X (e :: es) t)
    (hdb : (y == ("__debug__" : Str)) = false := by decide) (hcd : (y == ("__classdict__" : Str)) = false := by decide)
    (he : starEach (e :: es) X.env = (false, eval e X.env) :: starEach es X.env := by rfl) (hpl : (backTo pos (starEach es X.env)).any (·.1) = false := by rfl) :
    PE X (.Call (.Name y p) (e :: es) [] pos) (tMakeL i C sp dvs E t) := by
  obtain ⟨f, fd, ds, F, M, hm, hb, hd⟩ := O.ex
  refine ⟨fun pins s σ H Q I h => ?_⟩
  obtain ⟨hs, ht⟩ := h
  refine wpAny_Call_Name_kw (thn ((pe_var (pos := p) hN hv hdb hcd).run pins s σ H (fun v H1 => v = .ref C ∧ H1 = H) I ⟨.ref C, hs, rfl, rfl⟩) fun u s1 ⟨v, H1, I1, r1, q1⟩ => ?_)
  obtain ⟨rfl, rfl⟩ := q1
  cases r1
  refine PySem.W.callWith_K (h₀ := X.base) I.ok.mod.kin M.kp (thn (ha.run pos pins s1 σ _ _ I1 ht) fun us s2 ⟨vs, H2, I2, r, q⟩ => ⟨I2.kIn, ?_⟩) he hpl
  exact run_makeS M F hr hb hd (hx σ) I2 r q
end
/-- a field, the written part by its own name (within a comprehension) -/
theorem pe_fldK {X : Cx} {K : PySem.W.Frag} {e : Expr} {ta : TE} {f : Str} {pos : Pos} (he : PE X e ta) (hb : attributeBase e f X.env (eval e X.env) = eval e X.env) (hK : X.K = K) : PE X (.Attribute e f pos) (tFld K ta f) := by
  subst hK
  exact pe_fld he hb
/-- a class method, called on its class -/
structure OwnC (P : Program) (w : World) (K : PySem.W.Frag) (mg : Str → Option Value) (base : Heap) (k : Nat) (C : Addr) (m : Str) (ps : List Str) (sp : Sp) : Prop where
  ex : ∃ f fd p mc, FnOk P w K mg base (L2N.CX P w) k f fd ps sp ∧ ClX.CRead K C mc ∧ ClX.CMet K C mc m p f ∧ Binds K fd ps []
theorem pe_ownc {X : Cx} {k : Nat} {C : Addr} {m : Str} {ps : List Str} {sp : Sp} {E : XK} {pos apos : Pos} {e o : Expr} {es : List Expr} {ta : TE} {t : TA} {pl : Sem Bool} (O : OwnC X.prog X.w X.K X.mg X.base k C m ps sp) (he : PE X o ta) (hr : Room k X.A)
    (hx : Passes (L2N.CX X.prog X.w) X E) (ha : PA X (e :: es) t)
    (hst : starEach (e :: es) X.env = (false, eval e X.env) :: starEach es X.env := by rfl) (hpl : (backTo pos (starEach es X.env)).any (·.1) = false := by rfl)
    (ht : eval (.Call (.Attribute o m apos) (e :: es) [] pos) X.env = (do
      let ov ← eval o X.env
      standAt apos.atName
      let (f, first) ← holding [ov] (getMethod ov m pl)
      callWith pos f first (backTo pos (starEach (e :: es) X.env)) (backToKw pos (keywordEach [] X.env))) := by rfl) :
    PE X (.Call (.Attribute o m apos) (e :: es) [] pos) (ClX.tCMeth C sp E ta t) := by
  obtain ⟨f, fd, q, mc, F, r, c, hb⟩ := O.ex
  exact ClX.pe_cmeth he r c ((F.raw hb .nil).imp fun vs H Q E h => by rw [List.append_nil]; exact h) hr hx ha hst hpl ht
/-! ### an instance of another class on the right -/
section
open PySem.W
variable {prog : Program} {w : World} {A : Around} {E : Value → Shared → Prop} {s : Shared} {x y C D f g : Addr} {K : Frag} {ox oy : Obj} {od od' : Option Obj} {nm : String} {Q : Option Value → Shared → Prop} {rc ro : Option Value}
theorem bin1_other (X : K.In s.heap) (I : InstAt s.heap x ox C od) (J : InstAt s.heap y oy D od') (hc : selfFirst K C = true) (hs : findIn K (.ref C) (PySem.dunder nm) = some (some (.ref f))) (hf : isFn K (.ref f) = true) (hr : findIn K (.ref C) (dunderR nm) = some rc) (hp : rc = none ∨ ∃ g : Addr, rc = some (.ref g))
    (hcD : selfFirst K D = true) (hsD : findIn K (.ref D) (PySem.dunder nm) = some (some (.ref g))) (hrD : findIn K (.ref D) (dunderR nm) = some ro) (hpD : ro = none ∨ ∃ g : Addr, ro = some (.ref g)) (hne : C ≠ D) (hsub : subIn K (.ref D) (.ref C) = some false)
    (h : wpAny (model prog w) A (call (.ref f) [.ref x, .ref y]) (PySem.W.CmpBack fun v => Q (some v)) E s) : wpAny (model prog w) A (binaryOp1 nm (.ref x) (.ref y)) Q E s := by
  have one := ksp_try X I hs hf h
  have L3 : Looks (model prog w) s.heap (fillsNumberSlot (.ref C) nm) true := slot_fills X hc hs
  have L4 : Looks (model prog w) s.heap (fillsNumberSlot (.ref D) nm) true := slot_fills X hcD hsD
  have L1 : Looks (model prog w) s.heap (typeOf (.ref x)) (.ref C) := I.type
  have L2 : Looks (model prog w) s.heap (typeOf (.ref y)) (.ref D) := J.type
  have L5 : Looks (model prog w) s.heap (isSubtype (.ref D) (.ref C)) false := looks_subIn X hsub
  have L6 : Looks (model prog w) s.heap (numberSlotInPython (.ref C) nm) true := ksp_inPy X hs hr hp
  have L7 : Looks (model prog w) s.heap (numberSlotInPython (.ref D) nm) true := ksp_inPy X hsD hrD hpD
  have hne : (Value.ref C == Value.ref D) = false := Bool.eq_false_iff.mpr fun q => hne (Value.ref.inj (beq_iff_eq.mp q))
  obtain ⟨hh, gg, d, tt, os⟩ := s
  unfold binaryOp1
  refine wpAny_bind (L1.at (wpAny_bind (L2.at (wpAny_bind (L3.at ?_)))))
  simp only [hne, Bool.false_eq_true, if_false]
  ksp_lk
  refine wpAny_mono one (fun r s' hr => ?_) fun _ _ e => e
  obtain ⟨v, rfl, hq⟩ := hr
  ksp_lk
  exact hq
end
section
variable {X : Cx} {k : Nat} {C D : Addr} {ps : List Str} {sp : Sp} {E : XK}
/-- an instance of C on the left; an int, or an instance of C or of D on the right -/
def rOwnN (C D : Addr) (sp : Sp) (E : XK) : R2 := fun x y H Q => ∃ a dx fs, x = .ref a ∧ H a = some (.ins C dx fs) ∧ ((∃ i, y = .int i) ∨ (∃ b dy gs, y = .ref b ∧ H b = some (.ins C dy gs)) ∨ ∃ b dy gs, y = .ref b ∧ H b = some (.ins D dy gs)) ∧ sp [x, y] H Q E
theorem op_ownN (o : AOp) (A : Arith X.K C) (B : Arith X.K D) (hne : C ≠ D) (hsub : PySem.W.subIn X.K (.ref D) (.ref C) = some false) (O : OwnM X.prog X.w X.K X.mg X.base k C o.m ps sp) (hr : Room k X.A) (hx : Passes (L2N.CX X.prog X.w) X E) :
    OpR X (binaryOp o.op) (rOwnN C D sp E) := by
  intro pins s σ H x y v u Q I rx ry h
  obtain ⟨a, dx, fs, ex, ha, hy, hsp⟩ := h
  rcases hy with h1 | h1 | ⟨b, dy, gs, ey, hb'⟩
  · exact op_own o A O hr hx pins s σ H x y v u Q I rx ry ⟨a, dx, fs, ex, ha, .inl h1, hsp⟩
  · exact op_own o A O hr hx pins s σ H x y v u Q I rx ry ⟨a, dx, fs, ex, ha, .inr h1, hsp⟩
  · subst ex
    subst ey
    obtain rfl : v = Value.ref a := rx
    obtain rfl : u = Value.ref b := ry
    obtain ⟨f, fd, Fo, hm, hb⟩ := O.ex
    obtain ⟨_, od, J⟩ := inst_at I ha
    obtain ⟨_, od2, J2⟩ := inst_at I hb'
    have h1 : PySem.W.findIn X.K (.ref C) (PySem.dunder o.op.info.2) = some (some (.ref f)) := by rw [o.em]; exact hm.at_
    have refl_of : ∀ {c : Addr}, Arith X.K c → ∃ rc, PySem.W.findIn X.K (.ref c) (dunderR o.op.info.2) = some rc ∧ refOr rc = true := by
      intro c A
      rw [o.er]
      obtain ⟨a, b, c, q1, q2, q3⟩ := A.refl
      cases o
      · exact ⟨_, q1⟩
      · exact ⟨_, q2⟩
      · exact ⟨_, q3⟩
    obtain ⟨rc, h2, hrc⟩ := refl_of A
    obtain ⟨rd, h3, hrd⟩ := refl_of B
    obtain ⟨g, h4⟩ : ∃ g : Addr, PySem.W.findIn X.K (.ref D) (PySem.dunder o.op.info.2) = some (some (.ref g)) := by
      rw [o.em]
      obtain ⟨a, b, c, q1, q2, q3⟩ := B.has
      cases o
      · exact ⟨_, q1⟩
      · exact ⟨_, q2⟩
      · exact ⟨_, q3⟩
    have run := run_fn (us := [.ref a, .ref b]) (vs := [.ref a, .ref b]) (dvs := []) Fo hr hb .nil hx I (.cons rfl (.cons rfl .nil)) hsp
    have run2 := wpAny_mono run (fun u s' q => back_of (R := fun v s' => ∃ z, some v = some z ∧ EP X pins σ Q z s') q fun v s' q => ⟨v, rfl, q⟩) fun _ _ e => e
    exact bin_of1 (bin1_other I.kIn J J2 A.sf h1 hm.fn h2 (refOr_of hrc) B.sf h4 h3 (refOr_of hrd) hne hsub run2)
end
/-! ### name = {..} of a comprehension, the name a local -/
theorem ps_setDc {X : Cx} {slot : Nat} {nm : Str} {np : Pos} {ke ve target src : Expr} {tests : List Expr} {sc : Scope} {mine : List (Str × Nat)} {pc ps : Pos} {ti : TI} {tg : TG} {tt : TT} {tk tv : TE} (calm : X.calm = true) (nodup : X.N.Nodup) (at_ : X.N[slot]? = some nm)
    (loc : X.env.scope.names.lookup nm = some .local) (sw : swapsWith (.DictComp ke ve [⟨target, src, tests, 0⟩] sc pc) (some (.Name nm np)) ps.line X.env = pure true) (over : PI X target src ti) (blk : BlkOk X.N X.env.scope sc mine)
    (pg : ∀ (s1 : Shared) (H1 : Hp) (c1 : Addr) (l1 : List (Str × Addr)) (f1 : List Addr), PG (X.blk s1 H1 sc (compEnvC sc l1 c1 X.env) f1) target tg)
    (pt : ∀ (s1 : Shared) (H1 : Hp) (c1 : Addr) (l1 : List (Str × Addr)) (f1 : List Addr), PTs (X.blk s1 H1 sc (compEnvC sc l1 c1 X.env) f1) tests tt)
    (pk : ∀ (s1 : Shared) (H1 : Hp) (c1 : Addr) (l1 : List (Str × Addr)) (f1 : List Addr), PE (X.blk s1 H1 sc (compEnvC sc l1 c1 X.env) f1) ke tk)
    (pv : ∀ (s1 : Shared) (H1 : Hp) (c1 : Addr) (l1 : List (Str × Addr)) (f1 : List Addr), PE (X.blk s1 H1 sc (compEnvC sc l1 c1 X.env) f1) ve tv) (fold : ∀ x, foldedSetIterable src X.env x = pure x := by intro _; rfl) :
    PS X (.Assign [.Name nm np] (.DictComp ke ve [⟨target, src, tests, 0⟩] sc pc) ps) (tAsg (tDc ti tg tt tk tv (mine.map (·.2))) (gName slot)) := by
  refine ⟨fun pins s σ H D I want => ?_⟩
  rw [exec_Assign_Name_used _ _ _ _ sw]
  refine wpAny_bind (wpAny_standAt (wpAny_bind ?_))
  show wpAny _ X.A (do let _ ← comprehension (.DictComp ke ve [⟨target, src, tests, 0⟩] sc pc) sc X.env (firstIterPos [⟨target, src, tests, 0⟩] pc) newDict false (eval src X.env) (some (assign (.Name nm np) X.env))) _ _ s
  have want : tDc ti tg tt tk tv (mine.map (·.2)) σ H (fun x H1 => gName slot x σ H1 D.nx) := want
  refine wpAny_bind (thn (dc_core (Qf := fun _ s' => SP X pins D .next s') calm nodup I over blk pg pt pk pv fold want fun new C s' m H' I' q ns fp => ?_) fun _ s' hq => wpAny_pure (wpAny_pure hq))
  show wpAny _ _ (assign (.Name nm np) X.env (.ref new)) _ _ _
  refine wpAny_assign_Name (store_ok2 (v := V.ref new) I' nodup at_ (.inl loc) rfl (fun s2 I2 ⟨a, sb, ha⟩ => ?_) (.inr loc))
  obtain ⟨g0, g1, g2, g3, g4, g5⟩ := fp
  have apart : C ≠ a := ha.elim (fun z => z ▸ g1) fun z e => g4 nm a z e.symm
  exact ⟨m, ns.sameBut sb apart, fun h3 sb3 => ⟨_, H', I2.turned (t' := s2.toks) (fun b o hb e => (sb3.2 b hb).trans e) g0 g1 g3 g4 g5, q⟩⟩
theorem sw_trueD {ke ve : Expr} {gs : List Comprehension} {sc : Scope} {pc np : Pos} {nm : Str} {l : Nat} {env : Env} (kind : env.scope.kind = .function) (loc : env.scope.names.lookup nm = some .local) (line : (np.line == pc.line) = true)
    (other : (sc.names.any fun (n, k) => n == nm && (k == .local || k == .cell)) = false) : swapsWith (.DictComp ke ve gs sc pc) (some (.Name nm np)) l env = pure true := by
  have one : env.kindOf nm = some .local := loc
  have two : env.blockKind = .function := by unfold Env.blockKind; rw [kind]; rfl
  unfold swapsWith
  simp only [two, one, other, Expr.pos, line]
  rfl
/-! ### words of letters -/
def Lets (z : Str) : Prop := ∀ c ∈ tl z, 97 ≤ c ∧ c ≤ 122
structure NameOk (z : Str) : Prop where
  le : z.length ≤ 12
  ne : 0 < z.length
  ls : Lets z
theorem lets_app {x y : Str} (h : Lets x) (k : Lets y) : Lets (x ++ y) := fun c m => by
  rw [tl_append] at m
  rcases List.mem_append.mp m with m | m
  · exact h c m
  · exact k c m
theorem len_app {x y : Str} : (x ++ y).length = x.length + y.length := by
  show (x.cps ++ y.cps).size = _
  rw [Array.size_append]
  rfl
theorem lets_cut {z : Str} {lo hi : Option Int} (h : Lets z) : Lets (cutS z lo hi) := fun c m => h c (by
  have m : c ∈ (z.cps.toList.drop (HT.sIx z.length 0 lo)).take (HT.sIx z.length z.length hi - HT.sIx z.length 0 lo) := by
    have e : tl (cutS z lo hi) = (z.cps.toList.drop (HT.sIx z.length 0 lo)).take (HT.sIx z.length z.length hi - HT.sIx z.length 0 lo) := by
      unfold cutS tl
      rfl
    rw [e] at m
    exact m
  exact List.mem_of_mem_drop (List.mem_of_mem_take m))
theorem len_cuts {z : Str} {w : Int} : (cutS z none (some w)).length + (cutS z (some w) none).length = z.length := by
  unfold cutS Str.length
  have e1 : HT.sIx z.cps.size 0 none = 0 := rfl
  have e2 : HT.sIx z.cps.size z.cps.size none = z.cps.size := rfl
  have e3 : HT.sIx z.cps.size z.cps.size (some w) = HT.sIx z.cps.size 0 (some w) := rfl
  have e4 := HT.sIx_le z.cps.size 0 (Nat.zero_le _) (some w)
  simp only [Str.length, e1, e2, e3, List.size_toArray, List.length_take, List.length_drop, Array.length_toList]
  omega
theorem lets_one {c : Nat} (h : 97 ≤ c ∧ c ≤ 122) : Lets ⟨#[c]⟩ := fun d m => by
  have e : d = c := by simpa [tl] using m
  subst e
  exact h
theorem len_one {c : Nat} : (⟨#[c]⟩ : Str).length = 1 := rfl
theorem lets_nil : Lets Str.empty := fun c m => by simp [tl, Str.empty] at m
theorem mul_01 {z : Str} {n : Int} (h : n = 0 ∨ n = 1) : MulOk z n ∧ (Txt.mul z n = Str.empty ∨ Txt.mul z n = z) := by
  rcases h with rfl | rfl
  · exact ⟨⟨by decide, fun z => absurd (by decide) z, fun z => absurd (by decide) z⟩, .inl rfl⟩
  · exact ⟨⟨by decide, fun _ z => by simp at z, fun _ z => by simp at z⟩, .inr rfl⟩
theorem uni_alpha : ∀ c : Fin 26, Unicode.isAlpha (97 + c) = true ∧ Unicode.isLower (97 + c) = true ∧ Unicode.isUpper (97 + c) = false ∧ Unicode.isTitle (97 + c) = false := by decide +kernel
theorem uni_of {c : Nat} (h : 97 ≤ c ∧ c ≤ 122) : Unicode.isAlpha c = true ∧ Unicode.isLower c = true ∧ Unicode.isUpper c = false ∧ Unicode.isTitle c = false := by
  have := uni_alpha ⟨c - 97, by omega⟩
  have e : 97 + (c - 97) = c := by omega
  simp only [e] at this
  exact this
def nmB (z : Str) : Bool := decide (z.length ≤ 12) && (Txt.isascii z && (Txt.isalpha z && Txt.islower z))
theorem NameOk.asc {z : Str} (h : NameOk z) : Txt.isascii z = true := by
  unfold Txt.isascii
  rw [← Array.all_toList, List.all_eq_true]
  intro c m
  have := h.ls c m
  exact decide_eq_true (by omega)
theorem NameOk.alp {z : Str} (h : NameOk z) : Txt.isalpha z = true := by
  unfold Txt.isalpha
  rw [Bool.and_eq_true]
  refine ⟨decide_eq_true h.ne, ?_⟩
  rw [← Array.all_toList, List.all_eq_true]
  exact fun c m => (uni_of (h.ls c m)).1
theorem NameOk.low {z : Str} (h : NameOk z) : Txt.islower z = true := by
  unfold Txt.islower
  rw [Bool.and_eq_true, ← Array.any_toList, List.any_eq_true, Bool.not_eq_true', ← Array.any_toList, List.any_eq_false]
  have n := h.ne
  refine ⟨?_, fun c m => ?_⟩
  · have m : z.cps[0]'n ∈ z.cps.toList := by simpa using Array.getElem_mem n
    exact ⟨z.cps[0]'n, m, (uni_of (h.ls _ m)).2.1⟩
  · have u := uni_of (h.ls c m)
    rw [u.2.2.1, u.2.2.2]
    decide
theorem NameOk.nm {z : Str} (h : NameOk z) : nmB z = true := by
  unfold nmB
  rw [h.asc, h.alp, h.low, decide_eq_true h.le]
  rfl
/-! ### sorted lists of words -/
theorem tl_inj {x y : Str} (h : tl x = tl y) : x = y := by
  obtain ⟨⟨a⟩⟩ := x
  obtain ⟨⟨b⟩⟩ := y
  cases (show a = b from h)
  rfl
theorem rising_pw : ∀ (p : Str) (l : List Str), risingS p l = true → (p :: l).Pairwise fun a b => ¬ tl b < tl a
  | p, [], _ => by simp
  | p, x :: r, h => by
    have h : (!ltCps x.cps.toList p.cps.toList && risingS x r) = true := h
    rw [Bool.and_eq_true, Bool.not_eq_true', ltCps_eq] at h
    have h1 : ¬ tl x < tl p := of_decide_eq_false h.1
    have ih := rising_pw x r h.2
    refine List.pairwise_cons.mpr ⟨fun y m => ?_, ih⟩
    rcases List.mem_cons.mp m with rfl | m
    · exact h1
    · have h2 := (List.pairwise_cons.mp ih).1 y m
      exact List.not_lt.mpr (List.le_trans (List.not_lt.mp h1) (List.not_lt.mp h2))
theorem sorted_pw {l : List Str} (h : sortedS l = true) : l.Pairwise fun a b => ¬ tl b < tl a := by
  cases l with
  | nil => exact .nil
  | cons x r => exact rising_pw x r h
theorem sorted_uniq {l m : List Str} (h : sortedS l = true) (k : sortedS m = true) (p : l.Perm m) : l = m :=
  List.Perm.eq_of_pairwise (fun a b _ _ h1 h2 => tl_inj (List.le_antisymm (List.not_lt.mp h1) (List.not_lt.mp h2))) (sorted_pw h) (sorted_pw k) p
theorem nodup_len {α : Type} [DecidableEq α] : ∀ {l m : List α}, l.Nodup → (∀ x ∈ l, x ∈ m) → l.length ≤ m.length
  | [], m, _, _ => Nat.zero_le _
  | x :: l, m, h, s => by
    obtain ⟨h1, h2⟩ := List.nodup_cons.mp h
    have hx := s x List.mem_cons_self
    have ih := nodup_len (l := l) (m := m.erase x) h2 fun y hy => (List.mem_erase_of_ne (fun e => h1 (by rw [← e]; exact hy))).mpr (s y (List.mem_cons_of_mem _ hy))
    rw [List.length_erase_of_mem hx] at ih
    have : 0 < m.length := List.length_pos_of_mem hx
    rw [List.length_cons]
    omega
theorem nodup_perm {α : Type} [DecidableEq α] {l m : List α} (h : l.Nodup) (k : m.Nodup) (s : ∀ x, x ∈ l ↔ x ∈ m) : l.Perm m := by
  rw [List.perm_iff_count]
  intro a
  rw [h.count, k.count]
  simp only [s a]
/-! ### tables by names -/
/-- the names that may stand in tables -/
structure Uni (N : List Str) : Prop where
  len : N.length ≤ 60
  ok : ∀ z ∈ N, NameOk z
structure KOk (N : List Str) (kvs : List (Key × V)) : Prop where
  nd : (kvs.map (·.1)).Nodup
  mem : ∀ kv ∈ kvs, ∃ z ∈ N, kv.1 = .inr z
theorem KOk.nil {N : List Str} : KOk N [] := ⟨.nil, fun _ h => nomatch h⟩
theorem KOk.len {N : List Str} {kvs : List (Key × V)} (h : KOk N kvs) : kvs.length ≤ N.length := by
  have e := nodup_len (m := N.map (Sum.inr : Str → Key)) h.nd fun k hk => by
    obtain ⟨kv, m, rfl⟩ := List.mem_map.mp hk
    obtain ⟨z, hz, e⟩ := h.mem kv m
    rw [e]
    exact List.mem_map.mpr ⟨z, hz, rfl⟩
  rw [List.length_map, List.length_map] at e
  exact e
theorem valV_mem {kvs : List (Key × V)} {k : Key} {v : V} (h : valV kvs k = some v) : (k, v) ∈ kvs := by
  unfold valV at h
  obtain ⟨p, h1, rfl⟩ := Option.map_eq_some_iff.mp h
  have e : decide (p.1 = k) = true := List.find?_some (p := fun kv : Key × V => decide (kv.1 = k)) h1
  have e := of_decide_eq_true e
  have m := List.mem_of_find?_eq_some h1
  obtain ⟨a, b⟩ := p
  cases e
  exact m
theorem valV_none {kvs : List (Key × V)} {k : Key} : valV kvs k = none ↔ k ∉ kvs.map (·.1) := by
  unfold valV
  rw [Option.map_eq_none_iff, List.find?_eq_none]
  constructor
  · intro h m
    obtain ⟨p, hp, e⟩ := List.mem_map.mp m
    exact h p hp (decide_eq_true e)
  · intro h p hp e
    exact h (List.mem_map.mpr ⟨p, hp, of_decide_eq_true e⟩)
theorem valV_of : ∀ {kvs : List (Key × V)} {k : Key} {v : V}, (kvs.map (·.1)).Nodup → (k, v) ∈ kvs → valV kvs k = some v
  | p :: r, k, v, h, m => by
    rw [List.map_cons] at h
    obtain ⟨h1, h2⟩ := List.nodup_cons.mp h
    rcases List.mem_cons.mp m with e | m
    · subst e
      exact valV_pos rfl
    · rw [valV_neg fun e => h1 (by rw [e]; exact List.mem_map.mpr ⟨_, m, rfl⟩)]
      exact valV_of h2 m
theorem KOk.put {N : List Str} {kvs : List (Key × V)} {z : Str} (h : KOk N kvs) (hz : z ∈ N) (v : V) : KOk N (putK kvs (.inr z) v) := by
  cases e : valV kvs (.inr z) with
  | none =>
    rw [putK_new v e]
    refine ⟨?_, fun kv m => ?_⟩
    · rw [List.map_append, List.nodup_append]
      refine ⟨h.nd, by simp, fun a ha b hb => ?_⟩
      have eb : b = .inr z := by simpa using hb
      rintro rfl
      rw [eb] at ha
      exact valV_none.mp e ha
    · rcases List.mem_append.mp m with m | m
      · exact h.mem kv m
      · cases List.mem_singleton.mp m
        exact ⟨z, hz, rfl⟩
  | some u =>
    have a : (kvs.any fun kv => decide (kv.1 = .inr z)) = true := by rw [valV_any, e]; rfl
    unfold putK
    rw [if_pos a]
    have hk : (kvs.map fun kv => if kv.1 = .inr z then (kv.1, v) else kv).map (·.1) = kvs.map (·.1) := by
      rw [List.map_map]
      refine List.map_congr_left fun kv _ => ?_
      show (if kv.1 = .inr z then (kv.1, v) else kv).1 = kv.1
      split <;> rfl
    refine ⟨by rw [hk]; exact h.nd, fun kv m => ?_⟩
    obtain ⟨kv', m', rfl⟩ := List.mem_map.mp m
    obtain ⟨y, hy, e'⟩ := h.mem kv' m'
    refine ⟨y, hy, ?_⟩
    split
    · exact e'
    · exact e'
theorem KOk.at_ {N : List Str} {kvs : List (Key × V)} {k : Key} {v : V} {i : Nat} (h : KOk N kvs) (e : kvs[i]? = some (k, v)) : ∃ z ∈ N, k = .inr z ∧ valV kvs (.inr z) = some v := by
  have m := List.mem_of_getElem? e
  obtain ⟨z, hz, ez⟩ := h.mem _ m
  have ez : k = .inr z := ez
  subst ez
  exact ⟨z, hz, rfl, valV_of h.nd m⟩
/-- what stands at the names -/
structure Tab (N : List Str) (R : Str → V → Prop) (Z : Str → Prop) (kvs : List (Key × V)) : Prop where
  k : KOk N kvs
  r : ∀ z v, valV kvs (.inr z) = some v → R z v
  z : ∀ z, valV kvs (.inr z) = none → Z z
theorem Tab.mono {N : List Str} {R R' : Str → V → Prop} {Z Z' : Str → Prop} {kvs : List (Key × V)} (h : Tab N R Z kvs) (a : ∀ z v, R z v → R' z v) (b : ∀ z, Z z → Z' z) : Tab N R' Z' kvs := ⟨h.k, fun z v e => a z v (h.r z v e), fun z e => b z (h.z z e)⟩
theorem Tab.off {N : List Str} {R : Str → V → Prop} {Z : Str → Prop} {kvs : List (Key × V)} (h : Tab N R Z kvs) {z : Str} (n : z ∉ N) : Z z := h.z z (by
  rw [valV_none]
  intro m
  obtain ⟨kv, m, e⟩ := List.mem_map.mp m
  obtain ⟨y, hy, e'⟩ := h.k.mem kv m
  rw [e] at e'
  cases e'
  exact n hy)
/-- the first i names of kvs are done: the new table holds what R says, or nothing where Z holds; the others are not in it -/
structure Part (N : List Str) (R : Str → V → Prop) (Z : Str → Prop) (kvs : List (Key × V)) (i : Nat) (new : List (Key × V)) : Prop where
  k : KOk N new
  r : ∀ z v, valV new (.inr z) = some v → R z v ∧ (.inr z : Key) ∈ (kvs.take i).map (·.1)
  z : ∀ z, valV new (.inr z) = none → (.inr z : Key) ∈ (kvs.take i).map (·.1) → Z z
theorem Part.start {N : List Str} {R : Str → V → Prop} {Z : Str → Prop} {kvs : List (Key × V)} : Part N R Z kvs 0 [] := ⟨.nil, fun z v e => (by rw [valV_nil] at e; cases e), fun z _ m => (by simp at m)⟩
theorem take_mem {kvs : List (Key × V)} {k y : Key} {v : V} {i : Nat} (e : kvs[i]? = some (k, v)) : y ∈ (kvs.take (i + 1)).map (·.1) ↔ y ∈ (kvs.take i).map (·.1) ∨ y = k := by
  rw [List.take_add_one, e, List.map_append, List.mem_append]
  simp
theorem Part.mono {N : List Str} {R R' : Str → V → Prop} {Z Z' : Str → Prop} {kvs new : List (Key × V)} {i : Nat} (h : Part N R Z kvs i new) (a : ∀ z v, R z v → R' z v) (b : ∀ z, Z z → Z' z) : Part N R' Z' kvs i new :=
  ⟨h.k, fun z v e => ⟨a z v (h.r z v e).1, (h.r z v e).2⟩, fun z e m => b z (h.z z e m)⟩
theorem Part.put {N : List Str} {R : Str → V → Prop} {Z : Str → Prop} {kvs new : List (Key × V)} {i : Nat} {z : Str} {v u : V} (h : Part N R Z kvs i new) (e : kvs[i]? = some (.inr z, u)) (hz : z ∈ N) (r : R z v) : Part N R Z kvs (i + 1) (putK new (.inr z) v) := by
  refine ⟨h.k.put hz v, fun y w q => ?_, fun y q m => ?_⟩
  · rw [valV_put] at q
    rw [take_mem e]
    by_cases c : (Sum.inr y : Key) = Sum.inr z
    · rw [if_pos c] at q
      cases q
      cases c
      exact ⟨r, .inr rfl⟩
    · rw [if_neg c] at q
      obtain ⟨a, b⟩ := h.r y w q
      exact ⟨a, .inl b⟩
  · rw [valV_put] at q
    by_cases c : (Sum.inr y : Key) = Sum.inr z
    · rw [if_pos c] at q
      cases q
    · rw [if_neg c] at q
      rcases (take_mem e).mp m with m | m
      · exact h.z y q m
      · exact absurd m c
theorem Part.skip {N : List Str} {R : Str → V → Prop} {Z : Str → Prop} {kvs new : List (Key × V)} {i : Nat} {z : Str} {u : V} (h : Part N R Z kvs i new) (e : kvs[i]? = some (.inr z, u)) (n : Z z) : Part N R Z kvs (i + 1) new := by
  refine ⟨h.k, fun y w q => ?_, fun y q m => ?_⟩
  · obtain ⟨a, b⟩ := h.r y w q
    exact ⟨a, (take_mem e).mpr (.inl b)⟩
  · rcases (take_mem e).mp m with m | m
    · exact h.z y q m
    · cases m
      exact n
theorem Part.done {N : List Str} {R : Str → V → Prop} {Z : Str → Prop} {kvs new : List (Key × V)} (h : Part N R Z kvs kvs.length new) (o : ∀ z, valV kvs (.inr z) = none → Z z) : Tab N R Z new := by
  refine ⟨h.k, fun z v e => (h.r z v e).1, fun z e => ?_⟩
  cases q : valV kvs (.inr z) with
  | none => exact o z q
  | some u =>
    refine h.z z e ?_
    rw [List.take_length]
    exact List.mem_map.mpr ⟨_, valV_mem q, rfl⟩
/-! ### locks -/
theorem same_lock {H H2 : Hp} {d : Addr} {od : Obj} {u : HO} (h : H d = some u) (s : Same (upd H d (.frz od u)) H2) : Same H (upd H2 d u) := fun a o e => by
  by_cases c : a = d
  · subst c
    rw [h] at e
    cases e
    exact upd_same
  · rw [upd_ne c]
    exact s a o (by rw [upd_ne c]; exact e)
/-- over what is locked already, or with a lock of its own -/
structure LkW (p q : Prop) : Prop where
  h : p ∨ q
def tLk (t : TS) : TS := fun D σ H => LkW (tLock t D σ H) (t D σ H)
def tLkE (t : TE) : TE := fun σ H Q => LkW (tLockE t σ H Q) (t σ H Q)
theorem ps_lk {X : Cx} {st : Stmt} {t : TS} (h : PS X st t) : PS X st (tLk t) := ⟨fun pins s σ H D I q => q.h.elim (fun q => (ps_lock h).run pins s σ H D I q) fun q => h.run pins s σ H D I q⟩
theorem pe_lk {X : Cx} {e : Expr} {t : TE} (h : PE X e t) : PE X e (tLkE t) := ⟨fun pins s σ H Q I q => q.h.elim (fun q => (pe_lock h).run pins s σ H Q I q) fun q => h.run pins s σ H Q I q⟩
/-- a dict comprehension over what Walk tells of -/
theorem dc_it {J : It} {n : Nat} {G : Hp → Prop} {Y : Nat → Hp → V → Hp → Prop} (w : Walk J n G Y) {g : TG} {tt : TT} {tk tv : TE} {vs : List Nat} {σ : L2.St} {H1 : Hp} {D : Addr} {Qd : Hp → Prop} (Pv : Nat → Hp → Prop) (h0 : Pv 0 (upd H1 D (.dK []))) (hG : ∀ i H, i ≤ n → Pv i H → G H)
    (hs : ∀ i x H H', i < n → Pv i H → Y i H x H' → g x (wipe σ vs) H' fun σ2 H2 => wipe σ2 vs = wipe σ vs ∧ tt σ2 H2 fun b H3 =>
      if b = true then tk σ2 H3 fun y H4 => tv σ2 H4 fun z H5 => ∃ kvs k, y = kV k ∧ H5 D = some (.dK kvs) ∧ kvs.length < sizeLine ∧ Pv (i + 1) (upd H5 D (.dK (putK kvs k z))) else Pv (i + 1) H3) (hd : ∀ H, Pv n H → Qd H) :
    ∃ W : Nat → Nat → Hp → Prop, (∃ m, W 0 m (upd H1 D (.dK []))) ∧ ∀ i m H, W i m H →
      (J.stop i H ∧ Qd H) ∨ (J.go i H ∧ ∃ Nx : Hp → Prop, (∀ H', Nx H' → ∃ m', m' < m ∧ W (i + 1) m' H') ∧ ∀ x H', J.yld i H x H' → g x (wipe σ vs) H' fun σ2 H2 => wipe σ2 vs = wipe σ vs ∧ tt σ2 H2 fun b H3 =>
        if b = true then tk σ2 H3 fun y H4 => tv σ2 H4 fun z H5 => ∃ kvs k, y = kV k ∧ H5 D = some (.dK kvs) ∧ kvs.length < sizeLine ∧ Nx (upd H5 D (.dK (putK kvs k z))) else Nx H3) := by
  refine ⟨fun i m H => m = n - i ∧ i ≤ n ∧ Pv i H, ⟨n, by simp, Nat.zero_le _, h0⟩, ?_⟩
  rintro i m H ⟨rfl, hi, p⟩
  have q := hG i H hi p
  by_cases hlt : i < n
  · refine .inr ⟨w.goes i H hlt q, Pv (i + 1), fun H' p' => ⟨n - (i + 1), by omega, rfl, hlt, p'⟩, fun x H' y => hs i x H H' hlt p (w.yields i H x H' hlt q y)⟩
  · have e : i = n := by omega
    subst e
    exact .inl ⟨w.stops H q, hd H p⟩
/-- the same over the keys of a locked dict with names -/
theorem dc_names {d : Addr} {od : Obj} {N : List Str} {kvs : List (Key × V)} (hk : KOk N kvs) {g : TG} {tt : TT} {tk tv : TE} {vs : List Nat} {σ : L2.St} {H1 : Hp} {D : Addr} {Qd : Hp → Prop} (Pv : Nat → Hp → Prop) (h0 : Pv 0 (upd H1 D (.dK [])))
    (hG : ∀ i H, i ≤ kvs.length → Pv i H → H d = some (.frz od (.dK kvs)))
    (hs : ∀ i z v H, kvs[i]? = some (.inr z, v) → z ∈ N → valV kvs (.inr z) = some v → Pv i H → g (.str z) (wipe σ vs) H fun σ2 H2 => wipe σ2 vs = wipe σ vs ∧ tt σ2 H2 fun b H3 =>
      if b = true then tk σ2 H3 fun y H4 => tv σ2 H4 fun z H5 => ∃ kvs k, y = kV k ∧ H5 D = some (.dK kvs) ∧ kvs.length < sizeLine ∧ Pv (i + 1) (upd H5 D (.dK (putK kvs k z))) else Pv (i + 1) H3) (hd : ∀ H, Pv kvs.length H → Qd H) :
    ∃ W : Nat → Nat → Hp → Prop, (∃ m, W 0 m (upd H1 D (.dK []))) ∧ ∀ i m H, W i m H →
      ((Itk d od kvs).stop i H ∧ Qd H) ∨ ((Itk d od kvs).go i H ∧ ∃ Nx : Hp → Prop, (∀ H', Nx H' → ∃ m', m' < m ∧ W (i + 1) m' H') ∧ ∀ x H', (Itk d od kvs).yld i H x H' → g x (wipe σ vs) H' fun σ2 H2 => wipe σ2 vs = wipe σ vs ∧ tt σ2 H2 fun b H3 =>
        if b = true then tk σ2 H3 fun y H4 => tv σ2 H4 fun z H5 => ∃ kvs k, y = kV k ∧ H5 D = some (.dK kvs) ∧ kvs.length < sizeLine ∧ Nx (upd H5 D (.dK (putK kvs k z))) else Nx H3) :=
  dc_it walk_keys Pv h0 hG (fun i x H H' hi p y => by
    obtain ⟨e, k, v, hkv, ex⟩ := y
    obtain ⟨z, hz, ek, hv⟩ := hk.at_ hkv
    subst e; subst ex; subst ek
    exact hs i z v _ hkv hz hv p) hd
/-- a list comprehension over the keys of a locked dict with names -/
theorem lc_names {d : Addr} {od : Obj} {N : List Str} {kvs : List (Key × V)} (hk : KOk N kvs) {g : TG} {tt : TT} {te : TE} {vs : List Nat} {σ : L2.St} {H1 : Hp} {D : Addr} {Qd : Hp → Prop} (Pv : Nat → Hp → Prop) (h0 : Pv 0 (upd H1 D (.lst [])))
    (hG : ∀ i H, i ≤ kvs.length → Pv i H → H d = some (.frz od (.dK kvs)))
    (hs : ∀ i z v H, kvs[i]? = some (.inr z, v) → z ∈ N → valV kvs (.inr z) = some v → Pv i H → g (.str z) (wipe σ vs) H fun σ2 H2 => wipe σ2 vs = wipe σ vs ∧ tt σ2 H2 fun b H3 =>
      if b = true then te σ2 H3 fun y H4 => ∃ acc, H4 D = some (.lst acc) ∧ acc.length < sizeLine ∧ Pv (i + 1) (upd H4 D (.lst (acc ++ [y]))) else Pv (i + 1) H3) (hd : ∀ H, Pv kvs.length H → Qd H) :
    ∃ W : Nat → Nat → Hp → Prop, (∃ m, W 0 m (upd H1 D (.lst []))) ∧ ∀ i m H, W i m H →
      ((Itk d od kvs).stop i H ∧ Qd H) ∨ ((Itk d od kvs).go i H ∧ ∃ Nx : Hp → Prop, (∀ H', Nx H' → ∃ m', m' < m ∧ W (i + 1) m' H') ∧ ∀ x H', (Itk d od kvs).yld i H x H' → g x (wipe σ vs) H' fun σ2 H2 => wipe σ2 vs = wipe σ vs ∧ tt σ2 H2 fun b H3 =>
        if b = true then te σ2 H3 fun y H4 => ∃ acc, H4 D = some (.lst acc) ∧ acc.length < sizeLine ∧ Nx (upd H4 D (.lst (acc ++ [y]))) else Nx H3) :=
  lc_it walk_keys Pv h0 hG (fun i x H H' hi p y => by
    obtain ⟨e, k, v, hkv, ex⟩ := y
    obtain ⟨z, hz, ek, hv⟩ := hk.at_ hkv
    subst e; subst ex; subst ek
    exact hs i z v _ hkv hz hv p) hd
/-- a for over the keys of a locked dict with names -/
theorem for_names {d : Addr} {od : Obj} {N : List Str} {kvs : List (Key × V)} (hk : KOk N kvs) {g : TG} {tb : TS} {D : Ends} {σ : L2.St} {H : Hp} (Pv : Nat → L2.St → Hp → Prop) (h0 : Pv 0 σ H) (hG : ∀ i σ H, i ≤ kvs.length → Pv i σ H → H d = some (.frz od (.dK kvs)))
    (hs : ∀ i z v σ H, kvs[i]? = some (.inr z, v) → z ∈ N → valV kvs (.inr z) = some v → Pv i σ H → g (.str z) σ H fun σ2 H2 => tb { D with nx := Pv (i + 1), ct := Pv (i + 1), bk := D.nx } σ2 H2) (hd : ∀ σ H, Pv kvs.length σ H → D.nx σ H) :
    ∃ W : Nat → Nat → L2.St → Hp → Prop, (∃ m, W 0 m σ H) ∧ ∀ i m σ H, W i m σ H →
      ((Itk d od kvs).stop i H ∧ D.nx σ H) ∨ ((Itk d od kvs).go i H ∧ ∃ N : L2.St → Hp → Prop, (∀ σ' H', N σ' H' → ∃ m', m' < m ∧ W (i + 1) m' σ' H') ∧ ∀ x H', (Itk d od kvs).yld i H x H' → g x σ H' fun σ2 H2 => tb { D with nx := N, ct := N, bk := D.nx } σ2 H2) :=
  for_it walk_keys Pv h0 hG (fun i x σ H H' hi p y => by
    obtain ⟨e, k, v, hkv, ex⟩ := y
    obtain ⟨z, hz, ek, hv⟩ := hk.at_ hkv
    subst e; subst ex; subst ek
    exact hs i z v σ _ hkv hz hv p) hd
/-! ### forms -/
abbrev Fm := Str → Int × Int
def RedF (f : Fm) : Prop := ∀ z, Red (f z).1 (f z).2
def SzF (n : Nat) (f : Fm) : Prop := ∀ z, Sz n (f z).1 ∧ Sz n (f z).2
theorem SzF.mono {n m : Nat} {f : Fm} (h : SzF n f) (l : n ≤ m := by decide) : SzF m f := fun z => ⟨(h z).1.mono l, (h z).2.mono l⟩
def ShR (ca : Nat → Addr) (f : Fm) (H : Hp) : Str → V → Prop := fun z v => ∃ q, v = .ref q ∧ RatAt ca H q (f z).1 (f z).2 ∧ (f z).1 ≠ 0
def ShZ (f : Fm) : Str → Prop := fun z => f z = (0, 1)
/-- the dict of a form's shares -/
def FormSh (ca : Nat → Addr) (H : Hp) (d : Addr) (N : List Str) (f : Fm) : Prop := ∃ kvs, H d = some (.dK kvs) ∧ Tab N (ShR ca f H) (ShZ f) kvs
def FormAt (ca : Nat → Addr) (H : Hp) (p : Addr) (N : List Str) (f : Fm) : Prop := ∃ dx d, H p = some (.ins (ca 3) dx [("_shares", .ref d)]) ∧ FormSh ca H d N f
theorem ShR.same {ca : Nat → Addr} {f : Fm} {H H' : Hp} (s : Same H H') {z : Str} {v : V} (h : ShR ca f H z v) : ShR ca f H' z v := by
  obtain ⟨q, e, r, n⟩ := h
  exact ⟨q, e, r.same s, n⟩
theorem RatAt.keep {ca : Nat → Addr} {H H' : Hp} {p c : Addr} {a b : Int} {u : HO} (h : RatAt ca H p a b) (e : H c = some u) (n : ∀ C dx fs, u ≠ .ins C dx fs) (k : Keep c H H') : RatAt ca H' p a b :=
  ⟨h.1, let ⟨dx, q⟩ := h.2; ⟨dx, k _ _ q (ne_of q e fun z => n _ _ _ z.symm)⟩⟩
theorem ShR.keep {ca : Nat → Addr} {f : Fm} {H H' : Hp} {c : Addr} {u : HO} (e : H c = some u) (n : ∀ C dx fs, u ≠ .ins C dx fs) (k : Keep c H H') {z : Str} {v : V} (h : ShR ca f H z v) : ShR ca f H' z v := by
  obtain ⟨q, e1, r, m⟩ := h
  exact ⟨q, e1, r.keep e n k, m⟩
theorem FormSh.same {ca : Nat → Addr} {H H' : Hp} {d : Addr} {N : List Str} {f : Fm} (h : FormSh ca H d N f) (s : Same H H') : FormSh ca H' d N f := by
  obtain ⟨kvs, e, t⟩ := h
  exact ⟨kvs, s _ _ e, t.mono (fun _ _ => ShR.same s) fun _ z => z⟩
theorem FormAt.same {ca : Nat → Addr} {H H' : Hp} {p : Addr} {N : List Str} {f : Fm} (h : FormAt ca H p N f) (s : Same H H') : FormAt ca H' p N f := by
  obtain ⟨dx, d, e, t⟩ := h
  exact ⟨dx, d, s _ _ e, t.same s⟩
theorem FormAt.put {ca : Nat → Addr} {H H' : Hp} {p c : Addr} {N : List Str} {f : Fm} {xs : List V} (h : FormAt ca H p N f) (e : H c = some (.lst xs)) (k : Keep c H H') : FormAt ca H' p N f := by
  obtain ⟨dx, d, e1, kvs, e2, t⟩ := h
  exact ⟨dx, d, k _ _ e1 (ne_of e1 e fun z => nomatch z), kvs, k _ _ e2 (ne_of e2 e fun z => nomatch z), t.mono (fun _ _ => ShR.keep e (fun _ _ _ z => nomatch z) k) fun _ z => z⟩
theorem red01 : Red 0 1 := ⟨by decide, by decide⟩
theorem FormSh.red {ca : Nat → Addr} {H : Hp} {d : Addr} {N : List Str} {f : Fm} (h : FormSh ca H d N f) : RedF f := fun z => by
  obtain ⟨kvs, _, t⟩ := h
  cases e : valV kvs (.inr z) with
  | none =>
    rw [show f z = (0, 1) from t.z z e]
    exact red01
  | some v =>
    obtain ⟨q, _, r, _⟩ := t.r z v e
    exact r.1
theorem FormAt.red {ca : Nat → Addr} {H : Hp} {p : Addr} {N : List Str} {f : Fm} (h : FormAt ca H p N f) : RedF f := by
  obtain ⟨_, _, _, t⟩ := h
  exact t.red
theorem FormAt.off {ca : Nat → Addr} {H : Hp} {p : Addr} {N : List Str} {f : Fm} (h : FormAt ca H p N f) {z : Str} (n : z ∉ N) : f z = (0, 1) := by
  obtain ⟨_, _, _, kvs, _, t⟩ := h
  exact t.off n
theorem RatAt.q {ca : Nat → Addr} {H : Hp} {p : Addr} {a b : Int} (h : RatAt ca H p a b) : RatQ ca H p a b := ⟨by have := h.1.pos; omega, by rw [nrm_id h.1]; exact h⟩
/-- sums, and products with c / d -/
def addP (x y : Int × Int) : Int × Int := nrm (x.1 * y.2 + y.1 * x.2) (x.2 * y.2)
def mulP (x y : Int × Int) : Int × Int := nrm (x.1 * y.1) (x.2 * y.2)
/-- numbers handed to a form -/
def NumR (ca : Nat → Addr) (f : Fm) (H : Hp) : Str → V → Prop := fun z v => NumV ca H v (f z).1 (f z).2
theorem NumR.same {ca : Nat → Addr} {f : Fm} {H H' : Hp} (s : Same H H') {z : Str} {v : V} (h : NumR ca f H z v) : NumR ca f H' z v := NumV.same h s
theorem dget {H : Hp} {d : Addr} {kvs : List (Key × V)} {z : Str} {v : V} (e : Rd H d (.dK kvs)) (h : valV kvs (.inr z) = some v) : DGet H d (.str z) (some v) := .inl ⟨kvs, .inr z, e, rfl, h.symm⟩
/-- what a form's dict is, while it is built over the keys of kvs -/
def Build (ca : Nat → Addr) (N : List Str) (f : Fm) (Z : Str → Prop) (R : Str → V → Hp → Prop) (H0 : Hp) (D : Addr) (kvs : List (Key × V)) (i : Nat) (H : Hp) : Prop :=
  Same H0 H ∧ ∃ new, H D = some (.dK new) ∧ Part N (fun z v => R z v H) Z kvs i new
theorem NumV.keep {ca : Nat → Addr} {H H' : Hp} {x : V} {c : Addr} {a b : Int} {u : HO} (h : NumV ca H x a b) (e : H c = some u) (n : ∀ C dx fs, u ≠ .ins C dx fs) (k : Keep c H H') : NumV ca H' x a b := h.imp id fun ⟨p, q, r⟩ => ⟨p, q, r.keep e n k⟩
theorem nd {kvs : List (Key × V)} : ∀ C dx fs, HO.dK kvs ≠ .ins C dx fs := fun _ _ _ z => nomatch z
theorem nf {o : Obj} {u : HO} : ∀ C dx fs, HO.frz o u ≠ .ins C dx fs := fun _ _ _ z => nomatch z
theorem KOk.line {N : List Str} {kvs : List (Key × V)} (h : KOk N kvs) (u : Uni N) : kvs.length < sizeLine := by
  have := h.len
  have := u.len
  rw [sizeLine_eq]
  omega
theorem Red.zero {t b : Int} (h : Red t b) (e : t = 0) : b = 1 := by
  subst e
  have c := h.cop
  have p := h.pos
  simp only [Int.natAbs_zero, Nat.gcd_zero_left] at c
  omega
theorem RatAt.keepN {ca : Nat → Addr} {H H' : Hp} {p c C dx : Addr} {a b : Int} (h : RatAt ca H p a b) (e : H c = some (.ins C dx [])) (k : Keep c H H') : RatAt ca H' p a b :=
  ⟨h.1, let ⟨dy, q⟩ := h.2; ⟨dy, k _ _ q (ne_of q e fun z => by injection z with _ _ h; cases h)⟩⟩
theorem ShR.keepN {ca : Nat → Addr} {f : Fm} {H H' : Hp} {c C dx : Addr} (e : H c = some (.ins C dx [])) (k : Keep c H H') {z : Str} {v : V} (h : ShR ca f H z v) : ShR ca f H' z v := by
  obtain ⟨q, e1, r, m⟩ := h
  exact ⟨q, e1, r.keepN e k, m⟩
theorem KOk.names {N : List Str} {kvs : List (Key × V)} (h : KOk N kvs) : ∃ ks : List Str, kvs.map (·.1) = ks.map Sum.inr ∧ ks.Nodup ∧ (∀ z, z ∈ ks ↔ ∃ v, valV kvs (.inr z) = some v) ∧ ks.length = kvs.length := by
  have all : ∀ l : List (Key × V), (∀ kv ∈ l, ∃ z ∈ N, kv.1 = .inr z) → ∃ ks : List Str, l.map (·.1) = ks.map Sum.inr := by
    intro l
    induction l with
    | nil => exact fun _ => ⟨[], rfl⟩
    | cons a l ih =>
      intro hm
      obtain ⟨z, _, e⟩ := hm a List.mem_cons_self
      obtain ⟨ks, e2⟩ := ih fun kv m => hm kv (List.mem_cons_of_mem _ m)
      exact ⟨z :: ks, by rw [List.map_cons, List.map_cons, e, e2]⟩
  obtain ⟨ks, e⟩ := all kvs h.mem
  have n := h.nd
  rw [e] at n
  refine ⟨ks, e, ?_, fun z => ?_, by have := congrArg List.length e; rw [List.length_map, List.length_map] at this; exact this.symm⟩
  · exact List.Pairwise.of_map Sum.inr (fun a b hab e => hab (by rw [e])) n
  · have m : z ∈ ks ↔ (Sum.inr z : Key) ∈ kvs.map (·.1) := by
      rw [e, List.mem_map]
      exact ⟨fun m => ⟨z, m, rfl⟩, fun ⟨y, m, q⟩ => by cases q; exact m⟩
    rw [m]
    cases q : valV kvs (.inr z) with
    | none => exact ⟨fun m => absurd m (valV_none.mp q), fun ⟨v, r⟩ => nomatch r⟩
    | some v => exact ⟨fun _ => ⟨v, rfl⟩, fun _ => List.mem_map.mpr ⟨_, valV_mem q, rfl⟩⟩
theorem Tab.put {N : List Str} {R : Str → V → Prop} {Z : Str → Prop} {kvs : List (Key × V)} {z : Str} {v : V} (h : Tab N R Z kvs) (hz : z ∈ N) (r : R z v) : Tab N R Z (putK kvs (.inr z) v) := by
  refine ⟨h.k.put hz v, fun y w q => ?_, fun y q => ?_⟩
  · rw [valV_put] at q
    by_cases c : (Sum.inr y : Key) = Sum.inr z
    · rw [if_pos c] at q
      cases q
      cases c
      exact r
    · rw [if_neg c] at q
      exact h.r y w q
  · rw [valV_put] at q
    by_cases c : (Sum.inr y : Key) = Sum.inr z
    · rw [if_pos c] at q
      cases q
    · rw [if_neg c] at q
      exact h.z y q
/-- .. where at z something else is told from then on -/
theorem Tab.set {N : List Str} {R R' : Str → V → Prop} {Z Z' : Str → Prop} {kvs : List (Key × V)} {z : Str} {v : V} (h : Tab N R Z kvs) (hz : z ∈ N) (r : R' z v) (a : ∀ y u, y ≠ z → R y u → R' y u) (b : ∀ y, y ≠ z → Z y → Z' y) : Tab N R' Z' (putK kvs (.inr z) v) := by
  refine ⟨h.k.put hz v, fun y w q => ?_, fun y q => ?_⟩
  · rw [valV_put] at q
    by_cases c : (Sum.inr y : Key) = Sum.inr z
    · rw [if_pos c] at q
      cases q
      cases c
      exact r
    · rw [if_neg c] at q
      exact a y w (fun e => c (by rw [e])) (h.r y w q)
  · rw [valV_put] at q
    by_cases c : (Sum.inr y : Key) = Sum.inr z
    · rw [if_pos c] at q
      cases q
    · rw [if_neg c] at q
      exact b y (fun e => c (by rw [e])) (h.z y q)
theorem Tab.nil {N : List Str} {R : Str → V → Prop} {Z : Str → Prop} (h : ∀ z, Z z) : Tab N R Z [] := ⟨.nil, fun z v e => (by rw [valV_nil] at e; cases e), fun z _ => h z⟩
theorem FormSh.mem {ca : Nat → Addr} {H : Hp} {N : List Str} {f : Fm} {kvs : List (Key × V)} (t : Tab N (ShR ca f H) (ShZ f) kvs) (z : Str) : (∃ v, valV kvs (.inr z) = some v) ↔ (f z).1 ≠ 0 := by
  cases q : valV kvs (.inr z) with
  | none => exact ⟨fun ⟨v, r⟩ => (nomatch r), fun n => absurd (by rw [show f z = (0, 1) from t.z z q]) n⟩
  | some v =>
    obtain ⟨_, _, _, n⟩ := t.r z v q
    exact ⟨fun _ => n, fun _ => ⟨v, rfl⟩⟩
/-- the form of one name -/
def oneF (z : Str) : Fm := fun y => if y = z then (1, 1) else (0, 1)
theorem addP_zero {x : Int × Int} (h : Red x.1 x.2) : addP x (0, 1) = x := by
  unfold addP
  rw [Int.mul_one, Int.zero_mul, Int.add_zero, Int.mul_one, nrm_id h]
theorem oneF_self {z : Str} : oneF z z = (1, 1) := if_pos rfl
theorem oneF_ne {z y : Str} (h : y ≠ z) : oneF z y = (0, 1) := if_neg h
theorem FormAt.ins {ca : Nat → Addr} {H : Hp} {p : Addr} {N : List Str} {f : Fm} (h : FormAt ca H p N f) : ∃ dx d, H p = some (.ins (ca 3) dx [("_shares", .ref d)]) := let ⟨dx, d, e, _⟩ := h; ⟨dx, d, e⟩
/-- a form and a form beside an operator of theirs -/
theorem fOwn2_of {ca : Nat → Addr} {H : Hp} {p q : Addr} {N N' : List Str} {f g : Fm} {sp : Sp} {E : XK} {Q : VK} (h : FormAt ca H p N f) (h2 : FormAt ca H q N' g) (k : sp [.ref p, .ref q] H Q E) : rOwn (ca 3) sp E (.ref p) (.ref q) H Q := by
  obtain ⟨dx, d, e⟩ := h.ins
  obtain ⟨dy, d2, e2⟩ := h2.ins
  exact ⟨p, dx, _, rfl, e, .inr ⟨q, dy, _, rfl, e2⟩, k⟩
/-- a form and an int -/
theorem fOwn_of {ca : Nat → Addr} {H : Hp} {p : Addr} {x : V} {N : List Str} {f : Fm} {sp : Sp} {E : XK} {Q : VK} (h : FormAt ca H p N f) (hx : ∃ i, x = .int i) (k : sp [.ref p, x] H Q E) : rOwn (ca 3) sp E (.ref p) x H Q := by
  obtain ⟨dx, d, e⟩ := h.ins
  exact ⟨p, dx, _, rfl, e, .inl hx, k⟩
theorem fRefl_of {ca : Nat → Addr} {H : Hp} {p : Addr} {i : Int} {N : List Str} {f : Fm} {sp : Sp} {E : XK} {Q : VK} (h : FormAt ca H p N f) (k : sp [.ref p, .int i] H Q E) : rRefl (ca 3) sp E (.int i) (.ref p) H Q := by
  obtain ⟨dx, d, e⟩ := h.ins
  exact ⟨i, p, dx, _, rfl, rfl, e, k⟩
theorem fUna_of {ca : Nat → Addr} {H : Hp} {p : Addr} {N : List Str} {f : Fm} {sp : Sp} {E : XK} {Q : VK} (h : FormAt ca H p N f) (k : sp [.ref p] H Q E) : rUna (ca 3) sp E (.ref p) H Q := by
  obtain ⟨dx, d, e⟩ := h.ins
  exact ⟨p, dx, _, rfl, e, k⟩
theorem nrm_0 {d : Int} (h : d ≠ 0) : nrm 0 d = (0, 1) := by
  rw [nrm_same h (show (1 : Int) ≠ 0 by decide) (show (0 : Int) * 1 = 0 * d by rw [Int.zero_mul, Int.zero_mul]), nrm_id red01]
theorem mulP_0 {c d : Int} (h : d ≠ 0) : mulP (0, 1) (c, d) = (0, 1) := by
  unfold mulP
  rw [Int.zero_mul, Int.one_mul, nrm_0 h]
theorem RatQ.keep {ca : Nat → Addr} {H H' : Hp} {p c : Addr} {a b : Int} {u : HO} (h : RatQ ca H p a b) (e : H c = some u) (n : ∀ C dx fs, u ≠ .ins C dx fs) (k : Keep c H H') : RatQ ca H' p a b := ⟨h.ne, h.at_.keep e n k⟩
theorem NumQ.keep {ca : Nat → Addr} {H H' : Hp} {x : V} {c : Addr} {a b : Int} {u : HO} (h : NumQ ca H x a b) (e : H c = some u) (n : ∀ C dx fs, u ≠ .ins C dx fs) (k : Keep c H H') : NumQ ca H' x a b := h.imp id fun ⟨p, q, r⟩ => ⟨p, q, r.keep e n k⟩
theorem NumQ.own {ca : Nat → Addr} {H : Hp} {x : V} {a b : Int} (h : NumQ ca H x a b) : (∃ i, x = .int i) ∨ (∃ b dy gs, x = .ref b ∧ H b = some (.ins (ca 3) dy gs)) ∨ ∃ b dy gs, x = .ref b ∧ H b = some (.ins (ca 2) dy gs) := by
  rcases h with ⟨e, _⟩ | ⟨p, e, r⟩
  · exact .inl ⟨_, e⟩
  · obtain ⟨dx, q⟩ := r.ins
    exact .inr (.inr ⟨p, dx, _, e, q⟩)
theorem fOwnN_of {ca : Nat → Addr} {H : Hp} {p : Addr} {x : V} {N : List Str} {f : Fm} {a b : Int} {sp : Sp} {E : XK} {Q : VK} (h : FormAt ca H p N f) (hx : NumQ ca H x a b) (k : sp [.ref p, x] H Q E) : rOwnN (ca 3) (ca 2) sp E (.ref p) x H Q := by
  obtain ⟨dx, d, e⟩ := h.ins
  exact ⟨p, dx, _, rfl, e, hx.own, k⟩
theorem mulP_neg {y : Int × Int} (h : Red y.1 y.2) : mulP y (-1, 1) = (-y.1, y.2) := by
  have n : y.2 ≠ 0 := by have := h.pos; omega
  unfold mulP
  show nrm (y.1 * -1) (y.2 * 1) = _
  rw [Int.mul_one, Int.mul_neg, Int.mul_one, nrm_neg n, nrm_id h]
theorem sub_0 {x y : Int × Int} (h : Red x.1 x.2) (k : Red y.1 y.2) : (addP x (mulP y (-1, 1))).1 = 0 ↔ x = y := by
  have n1 : x.2 ≠ 0 := by have := h.pos; omega
  have n2 : y.2 ≠ 0 := by have := k.pos; omega
  rw [mulP_neg k]
  unfold addP
  rw [nrm_zero (Int.mul_ne_zero n1 n2)]
  show x.1 * y.2 + -y.1 * x.2 = 0 ↔ x = y
  rw [Int.neg_mul]
  constructor
  · intro e
    obtain ⟨a, b⟩ := h.uniq k (show x.1 * y.2 = y.1 * x.2 by omega)
    exact Prod.ext a b
  · rintro rfl
    omega
/-! ### drawn words -/
theorem joinL_nil : ∀ ps : List (List Nat), TL.joinL [] ps = ps.flatten
  | [] => rfl
  | [p] => by simp [TL.joinL]
  | p :: q :: r => by
    show p ++ ([] ++ TL.joinL [] (q :: r)) = _
    rw [List.nil_append, joinL_nil (q :: r), List.flatten_cons (l := p)]
def Sign (z : Str) : Prop := ∃ c, (97 ≤ c ∧ c ≤ 122) ∧ z = ⟨#[c]⟩
theorem Sign.lets {z : Str} (h : Sign z) : Lets z := by
  obtain ⟨c, hc, rfl⟩ := h
  exact lets_one hc
theorem Sign.len {z : Str} (h : Sign z) : z.length = 1 := by
  obtain ⟨c, hc, rfl⟩ := h
  rfl
theorem tl_len {z : Str} : (tl z).length = z.length := by
  unfold tl Str.length
  rw [Array.length_toList]
theorem join_signs {zs : List Str} (h : ∀ z ∈ zs, Sign z) : Lets (Txt.join Str.empty zs) ∧ (Txt.join Str.empty zs).length = zs.length := by
  have e : tl (Txt.join Str.empty zs) = (zs.map tl).flatten := by
    rw [TL.join_eq, TL.tl_join]
    exact joinL_nil _
  constructor
  · intro c m
    rw [e] at m
    obtain ⟨l, hl, hc⟩ := List.mem_flatten.mp m
    obtain ⟨z, hz, rfl⟩ := List.mem_map.mp hl
    exact (h z hz).lets c hc
  · rw [← tl_len, e]
    clear e
    induction zs with
    | nil => rfl
    | cons z zs ih =>
      rw [List.map_cons, List.flatten_cons, List.length_append, ih fun y m => h y (List.mem_cons_of_mem _ m), tl_len, (h z List.mem_cons_self).len, List.length_cons]
      omega
theorem abc_all : (Str.ofString "abcdefghijklmnopqrstuvwxyz").length = 26 ∧ ∀ d : Fin 26, (Str.ofString "abcdefghijklmnopqrstuvwxyz").cps[d.val]? = some (97 + d.val) := by decide +kernel
/-- one of the letters -/
theorem abc_at {d : Int} (h0 : 0 ≤ d) (h1 : d < 26) : (Str.ofString "abcdefghijklmnopqrstuvwxyz").cps[d.toNat]? = some (97 + d.toNat) := abc_all.2 ⟨d.toNat, by omega⟩
theorem sign_abc {d : Int} (h1 : d < 26) : Sign ⟨#[97 + d.toNat]⟩ := ⟨_, by omega, rfl⟩
theorem rIxS_abc {d : Int} {H : Hp} {Q : VK} (h0 : 0 ≤ d) (h1 : d < 26) (k : Q (.str ⟨#[97 + d.toNat]⟩) H) : rIxS (.str (Str.ofString "abcdefghijklmnopqrstuvwxyz")) (.int d) H Q := by
  obtain ⟨n, rfl⟩ := Int.eq_ofNat_of_zero_le h0
  have e : (Str.ofString "abcdefghijklmnopqrstuvwxyz").cps.toList[n]? = some (97 + n) := by
    rw [Array.getElem?_toList]
    exact abc_at h0 h1
  exact ⟨_, _, _, rfl, rfl, line_le (by rw [abc_all.1]; decide), atI_nat e, k⟩
theorem keep_new {b D : Addr} {H H' : Hp} {o : HO} (k : Keep b H H') (n : H D = none) : Keep b H (upd H' D o) := fun a u e m => by
  rw [upd_ne (ne_of_none e n)]
  exact k a u e m
theorem size_line {n : Nat} (h : n < 10000) : n < sizeLine := Nat.lt_of_lt_of_le h (line_le (by decide))
theorem size_le {n : Nat} (h : n < 10000) : n ≤ sizeLine := Nat.le_of_lt (size_line h)
theorem strs_snoc {acc : List Str} {z : Str} : acc.map V.str ++ [V.str z] = (acc ++ [z]).map V.str := by simp
theorem keep_free {b p : Addr} {H H' : Hp} (k : Keep b H H') (n : H' p = none) (m : p ≠ b) : H p = none := by
  cases e : H p with
  | none => rfl
  | some o =>
    rw [k p o e m] at n
    cases n
theorem keep_put {b p : Addr} {H H1 H2 : Hp} (k : Keep b H H1) (k2 : Keep p H1 H2) (n : H p = none) : Keep b H H2 := fun a o e m => k2 a o (k a o e m) (ne_of_none e n)
/-- a text once or not at all -/
theorem op_mulS1 {X : Cx} : OpR X (binaryOp .Mult) (fun x y H Q => ∃ z n, x = .str z ∧ y = .int n ∧ (n = 0 ∨ n = 1) ∧ ∀ w, (w = Str.empty ∨ w = z) → Q (.str w) H) := by
  intro pins s σ H x y v u Q I rx ry h
  obtain ⟨z, n, rfl, rfl, hn, q⟩ := h
  obtain ⟨m1, m2⟩ := mul_01 (z := z) hn
  exact op_mulS pins s σ H _ _ v u Q I rx ry ⟨z, n, rfl, rfl, m1, q _ m2⟩
/-! ### the law's tables -/
def TupF (f : Fm) (H : Hp) : Str → V → Prop := fun z v => ∃ t, v = .ref t ∧ H t = some (.tup [.int (f z).1, .int (f z).2])
/-- a dict with a pair for each name -/
def TabAt (H : Hp) (d : Addr) (N : List Str) (f : Fm) : Prop := ∃ kvs, H d = some (.dK kvs) ∧ Tab N (TupF f H) (ShZ f) kvs
theorem TupF.same {f : Fm} {H H' : Hp} (s : Same H H') {z : Str} {v : V} (h : TupF f H z v) : TupF f H' z v := let ⟨t, e, q⟩ := h; ⟨t, e, s _ _ q⟩
theorem TupF.keep {f : Fm} {H H' : Hp} {c : Addr} {u : HO} (e : H c = some u) (n : ∀ xs, u ≠ .tup xs) (k : Keep c H H') {z : Str} {v : V} (h : TupF f H z v) : TupF f H' z v := let ⟨t, e1, q⟩ := h; ⟨t, e1, k _ _ q (ne_of q e fun z => n _ z.symm)⟩
theorem TabAt.same {H H' : Hp} {d : Addr} {N : List Str} {f : Fm} (h : TabAt H d N f) (s : Same H H') : TabAt H' d N f := let ⟨kvs, e, t⟩ := h; ⟨kvs, s _ _ e, t.mono (fun _ _ => TupF.same s) fun _ z => z⟩
theorem TabAt.put {H H' : Hp} {d c : Addr} {N : List Str} {f : Fm} {xs : List V} (h : TabAt H d N f) (e : H c = some (.lst xs)) (k : Keep c H H') : TabAt H' d N f :=
  let ⟨kvs, e1, t⟩ := h; ⟨kvs, k _ _ e1 (ne_of e1 e fun z => nomatch z), t.mono (fun _ _ => TupF.keep e (fun _ z => nomatch z) k) fun _ z => z⟩
theorem TabAt.off {H : Hp} {d : Addr} {N : List Str} {f : Fm} (h : TabAt H d N f) {z : Str} (n : z ∉ N) : f z = (0, 1) := let ⟨_, _, t⟩ := h; t.off n
theorem ndt {kvs : List (Key × V)} : ∀ xs, HO.dK kvs ≠ .tup xs := fun _ z => nomatch z
theorem nft {o : Obj} {u : HO} : ∀ xs, HO.frz o u ≠ .tup xs := fun _ z => nomatch z
def setF (f : Fm) (z : Str) (x : Int × Int) : Fm := fun y => if y = z then x else f y
theorem setF_self {f : Fm} {z : Str} {x : Int × Int} : setF f z x z = x := if_pos rfl
theorem setF_ne {f : Fm} {z y : Str} {x : Int × Int} (h : y ≠ z) : setF f z x y = f y := if_neg h
theorem setF_red {f : Fm} {z : Str} {x : Int × Int} (h : RedF f) (k : Red x.1 x.2) : RedF (setF f z x) := fun y => by
  unfold setF
  split
  · exact k
  · exact h y
theorem setF_sz {n : Nat} {f : Fm} {z : Str} {x : Int × Int} (h : SzF n f) (k : Sz n x.1 ∧ Sz n x.2) : SzF n (setF f z x) := fun y => by
  unfold setF
  split
  · exact k
  · exact h y
theorem zeroF_sz {n : Nat} (l : 1 ≤ n := by decide) : SzF n fun _ => (0, 1) := fun _ => ⟨Sz.zero.mono l, Sz.one.mono l⟩
theorem Tab.setT {N : List Str} {f : Fm} {H : Hp} {d p : Addr} {kvs : List (Key × V)} {y : Str} {x : Int × Int} (t : Tab N (TupF f H) (ShZ f) kvs) (hd : H d = some (.dK kvs)) (hy : y ∈ N) (hp : H p = some (.tup [.int x.1, .int x.2])) :
    TabAt (upd H d (.dK (putK kvs (.inr y) (.ref p)))) d N (setF f y x) := by
  refine ⟨_, upd_same, t.set hy ?_ (fun z u c r => ?_) fun z c n => ?_⟩
  · refine ⟨p, rfl, ?_⟩
    rw [setF_self, upd_ne (ne_of hp hd fun z => nomatch z)]
    exact hp
  · obtain ⟨q, e, h⟩ := TupF.keep hd ndt keep_upd r
    exact ⟨q, e, by rw [setF_ne c]; exact h⟩
  · show setF f y x z = (0, 1)
    rw [setF_ne c]
    exact n
theorem Part.again {N : List Str} {R : Str → V → Prop} {Z : Str → Prop} {kvs new : List (Key × V)} {i : Nat} {z : Str} {v : V} (h : Part N R Z kvs i new) (m : (Sum.inr z : Key) ∈ (kvs.take i).map (·.1)) (hz : z ∈ N) (r : R z v) : Part N R Z kvs i (putK new (.inr z) v) := by
  refine ⟨h.k.put hz v, fun y w q => ?_, fun y q m => ?_⟩
  · rw [valV_put] at q
    by_cases c : (Sum.inr y : Key) = Sum.inr z
    · rw [if_pos c] at q
      cases q
      cases c
      exact ⟨r, m⟩
    · rw [if_neg c] at q
      exact h.r y w q
  · rw [valV_put] at q
    by_cases c : (Sum.inr y : Key) = Sum.inr z
    · rw [if_pos c] at q
      cases q
    · rw [if_neg c] at q
      exact h.z y q m
theorem keep_lock {H H2 : Hp} {b d : Addr} {od : Obj} {u : HO} (h : H d = some u) (s : Keep b (upd H d (.frz od u)) H2) : Keep b H (upd H2 d u) := fun a o e n => by
  by_cases c : a = d
  · subst c
    rw [h] at e
    cases e
    exact upd_same
  · rw [upd_ne c]
    exact s a o (by rw [upd_ne c]; exact e) n
theorem same_updL {H H1 : Hp} {d : Addr} {o : HO} (s : Same H H1) : Same (upd H d o) (upd H1 d o) := fun a u e => by
  by_cases c : a = d
  · subst c
    rw [upd_same] at e ⊢
    exact e
  · rw [upd_ne c] at e ⊢
    exact s a u e
theorem Bag.ned {H : Hp} {L b d : Addr} {kvs : List (Key × V)} (h : Bag H L b) (e : H d = Option.some (.dK kvs)) : d ≠ b ∧ d ≠ L := by
  obtain ⟨ns, i, big, mix, cnt, h1, h2, h3⟩ := h
  exact ⟨ne_of e h1 fun z => (nomatch z), ne_of e h2 fun z => nomatch z⟩
/-! ### lists of words compared -/
theorem strs_lay : ∀ {zs : List Str}, (∀ z ∈ zs, Lets z) → PyData.canLayAll0 (zs.map PyData.str) = true ∧ PyData.depthAll (zs.map PyData.str) = 0
  | [], _ => ⟨rfl, rfl⟩
  | z :: zs, h => by
    obtain ⟨a, b⟩ := strs_lay (zs := zs) fun y m => h y (List.mem_cons_of_mem _ m)
    have hz := h z List.mem_cons_self
    constructor
    · show (PyData.strOk z && PyData.canLayAll0 (zs.map PyData.str)) = true
      rw [a, Bool.and_true]
      show z.cps.all (· < 0x110000) = true
      rw [← Array.all_toList, List.all_eq_true]
      intro c m
      have := hz c m
      exact decide_eq_true (by omega)
    · show max 0 (PyData.depthAll (zs.map PyData.str)) = 0
      rw [b]
      rfl
theorem strs_dp {K : PySem.W.Frag} {H : Hp} : ∀ {zs : List Str}, DpAll K H (zs.map V.str) (zs.map PyData.str)
  | [] => .nil
  | z :: zs => .cons (.str z) strs_dp
theorem neS {K : PySem.W.Frag} {H : Hp} {p q : Addr} {zs : List Str} {Q : VK} (hp : H p = some (.lst (zs.map V.str))) (hq : H q = some (.lst (zs.map V.str))) (h : ∀ z ∈ zs, Lets z) (k : Q (.bl false) H) : rNeD K (.ref p) (.ref q) H Q := by
  obtain ⟨a, b⟩ := strs_lay h
  have c : (PyData.list (zs.map .str)).canLay0 = true := a
  have s : SeqAt.shaped (PyData.list (zs.map .str)) = true := by
    unfold SeqAt.shaped
    rw [c, Bool.true_and]
    refine decide_eq_true ?_
    show PyData.depthAll (zs.map .str) + 1 ≤ 64
    rw [b]
    decide
  refine ⟨_, _, .lst (SqL.of hp) strs_dp, .lst (SqL.of hq) strs_dp, s, s, ?_⟩
  rw [SeqAt.eqv_refl _ c]
  exact k
theorem eqS {K : PySem.W.Frag} {H : Hp} {p q : Addr} {zs : List Str} {Q : VK} (hp : H p = some (.lst (zs.map V.str))) (hq : H q = some (.lst (zs.map V.str))) (h : ∀ z ∈ zs, Lets z) (k : Q (.bl true) H) : rEqD K (.ref p) (.ref q) H Q := by
  obtain ⟨a, b⟩ := strs_lay h
  have c : (PyData.list (zs.map .str)).canLay0 = true := a
  have s : SeqAt.shaped (PyData.list (zs.map .str)) = true := by
    unfold SeqAt.shaped
    rw [c, Bool.true_and]
    refine decide_eq_true ?_
    show PyData.depthAll (zs.map .str) + 1 ≤ 64
    rw [b]
    decide
  refine ⟨_, _, .lst (SqL.of hp) strs_dp, .lst (SqL.of hq) strs_dp, s, s, ?_⟩
  rw [SeqAt.eqv_refl _ c]
  exact k
theorem pw_uniq {l m : List Str} (h : l.Pairwise fun a b => ¬ tl b < tl a) (k : m.Pairwise fun a b => ¬ tl b < tl a) (a : l.Nodup) (b : m.Nodup) (s : ∀ z, z ∈ l ↔ z ∈ m) : l = m :=
  List.Perm.eq_of_pairwise (fun a b _ _ h1 h2 => tl_inj (List.le_antisymm (List.not_lt.mp h1) (List.not_lt.mp h2))) h k (nodup_perm a b s)
/-! ### tables added and multiplied -/
def sumF (s : Int) (f g : Fm) : Fm := fun z => nrm ((f z).1 * (g z).2 + s * (g z).1 * (f z).2) ((f z).2 * (g z).2)
def timesF (f : Fm) (c d : Int) : Fm := fun z => mulP (f z) (c, d)
theorem keys_str {kvs : List (Key × V)} {ks : List Str} (e : kvs.map (·.1) = ks.map Sum.inr) : (kvs.map fun kv => kV kv.1) = ks.map V.str := by
  have := congrArg (List.map kV) e
  rw [List.map_map, List.map_map] at this
  exact this
def doneF (L : List Str) (h : Fm) : Fm := fun z => if z ∈ L then h z else (0, 1)
theorem doneF_red {L : List Str} {h : Fm} (r : RedF h) : RedF (doneF L h) := fun z => by
  unfold doneF
  split
  · exact r z
  · exact red01
theorem doneF_snoc {L : List Str} {h : Fm} {y : Str} : doneF (L ++ [y]) h = setF (doneF L h) y (h y) := by
  funext z
  unfold doneF setF
  by_cases c : z = y
  · subst c
    simp
  · simp [c]
theorem sumF_red {s : Int} {f g : Fm} (rf : RedF f) (rg : RedF g) : RedF (sumF s f g) := fun z => nrm_red (Int.mul_ne_zero (by have := (rf z).pos; omega) (by have := (rg z).pos; omega))
theorem sumF_add {f g : Fm} : sumF 1 f g = fun z => addP (f z) (g z) := by
  funext z
  unfold sumF addP
  rw [Int.one_mul]
theorem sumF_sub {f g : Fm} (r : RedF g) : sumF (-1) f g = fun z => addP (f z) (mulP (g z) (-1, 1)) := by
  funext z
  rw [mulP_neg (r z)]
  unfold sumF addP
  show nrm ((f z).1 * (g z).2 + -1 * (g z).1 * (f z).2) _ = nrm ((f z).1 * (g z).2 + -(g z).1 * (f z).2) _
  rw [Int.neg_mul 1, Int.one_mul]
theorem sumF_off {s : Int} {f g : Fm} {z : Str} (a : f z = (0, 1)) (b : g z = (0, 1)) : sumF s f g z = (0, 1) := by
  unfold sumF
  rw [a, b]
  show nrm (0 * 1 + s * 0 * 1) (1 * 1) = (0, 1)
  rw [Int.mul_zero]
  exact nrm_0 (by decide)
theorem rd_lock {H : Hp} {a b : Addr} {u v : HO} {od : Obj} (h1 : H a = some u) (h2 : H b = some v) : Rd (upd H b (.frz od v)) a u := by
  by_cases c : a = b
  · subst c
    rw [h1] at h2
    cases h2
    exact .inr ⟨od, upd_same⟩
  · exact .inl (by rw [upd_ne c]; exact h1)
theorem rd_same {H H' : Hp} {a : Addr} {u : HO} (s : Same H H') (h : Rd H a u) : Rd H' a u := h.imp (fun e => s _ _ e) fun ⟨o, e⟩ => ⟨o, s _ _ e⟩
theorem dget_at {H : Hp} {d : Addr} {kvs : List (Key × V)} {z : Str} (e : Rd H d (.dK kvs)) : DGet H d (.str z) (valV kvs (.inr z)) := .inl ⟨kvs, .inr z, e, rfl, rfl⟩
theorem get_tup {H : Hp} {N : List Str} {f : Fm} {kvs : List (Key × V)} {z : Str} {p : Addr} (t : Tab N (TupF f H) (ShZ f) kvs) (hp : H p = some (.tup [.int 0, .int 1])) : ∃ u, (valV kvs (.inr z)).getD (.ref p) = .ref u ∧ H u = some (.tup [.int (f z).1, .int (f z).2]) := by
  cases q : valV kvs (.inr z) with
  | none => exact ⟨p, rfl, by rw [show f z = (0, 1) from t.z z q]; exact hp⟩
  | some v =>
    obtain ⟨u, rfl, h⟩ := t.r z v q
    exact ⟨u, rfl, h⟩
theorem fsame {ca : Nat → Addr} {H H' : Hp} {p : Addr} {N : List Str} {f : Fm} (s : Same H H') (h : FormAt ca H p N f) : FormAt ca H' p N f := h.same s
theorem tsame {H H' : Hp} {d : Addr} {N : List Str} {f : Fm} (s : Same H H') (h : TabAt H d N f) : TabAt H' d N f := h.same s
theorem addP_sz {n m : Nat} {x y : Int × Int} (hx : Sz n x.1 ∧ Sz n x.2) (hy : Sz m y.1 ∧ Sz m y.2) (nx : x.2 ≠ 0) (ny : y.2 ≠ 0) : Sz (n + m + 1) (addP x y).1 ∧ Sz (n + m + 1) (addP x y).2 := by
  have n0 := Int.mul_ne_zero nx ny
  unfold addP
  exact ⟨((hx.1.mul hy.2).add' ((hy.1.mul hx.2).mono (by omega))).le (nrm_le1 n0), ((hx.2.mul hy.2).mono (by omega)).le (nrm_le2 n0)⟩
theorem mulP_sz {n m : Nat} {x y : Int × Int} (hx : Sz n x.1 ∧ Sz n x.2) (hy : Sz m y.1 ∧ Sz m y.2) (nx : x.2 ≠ 0) (ny : y.2 ≠ 0) : Sz (n + m) (mulP x y).1 ∧ Sz (n + m) (mulP x y).2 := by
  have n0 := Int.mul_ne_zero nx ny
  unfold mulP
  exact ⟨(hx.1.mul hy.1).le (nrm_le1 n0), (hx.2.mul hy.2).le (nrm_le2 n0)⟩
theorem RedF.ne {f : Fm} (h : RedF f) (z : Str) : (f z).2 ≠ 0 := by have := (h z).pos; omega
theorem addF_sz {n m k : Nat} {f g : Fm} (hf : SzF n f) (hg : SzF m g) (rf : RedF f) (rg : RedF g) (l : n + m + 1 ≤ k := by decide) : SzF k fun z => addP (f z) (g z) := fun z =>
  let ⟨a, b⟩ := addP_sz (hf z) (hg z) (rf.ne z) (rg.ne z); ⟨a.mono l, b.mono l⟩
theorem mulF_sz {n m k : Nat} {f : Fm} {c d : Int} (hf : SzF n f) (rf : RedF f) (hc : Sz m c) (hd : Sz m d) (nd : d ≠ 0) (l : n + m ≤ k := by decide) : SzF k fun z => mulP (f z) (c, d) := fun z =>
  let ⟨a, b⟩ := mulP_sz (y := (c, d)) (hf z) ⟨hc, hd⟩ (rf.ne z) nd; ⟨a.mono l, b.mono l⟩
theorem neg_sub {x y : Int × Int} (h : Red x.1 x.2) (k : Red y.1 y.2) : mulP (addP x (mulP y (-1, 1))) (-1, 1) = addP y (mulP x (-1, 1)) := by
  have n1 : x.2 ≠ 0 := by have := h.pos; omega
  have n2 : y.2 ≠ 0 := by have := k.pos; omega
  rw [mulP_neg k, mulP_neg h]
  have r : Red (addP x (-y.1, y.2)).1 (addP x (-y.1, y.2)).2 := nrm_red (Int.mul_ne_zero n1 n2)
  rw [mulP_neg r]
  unfold addP
  show (-(nrm (x.1 * y.2 + -y.1 * x.2) (x.2 * y.2)).1, (nrm (x.1 * y.2 + -y.1 * x.2) (x.2 * y.2)).2) = nrm (y.1 * x.2 + -x.1 * y.2) (y.2 * x.2)
  rw [← nrm_neg (Int.mul_ne_zero n1 n2), Int.mul_comm y.2 x.2]
  congr 1
  rw [Int.neg_mul, Int.neg_mul]
  omega
/-! ### a dict and its copy -/
def Plain1 (v : V) : Prop := flatB v = true ∨ ∃ a, v = .ref a
theorem hits_copy {A : Around} {s : Shared} {all : List (Key × V)} {other : List (Key × Value)} (r : KV all other) : ∀ {part : List (Key × V)} {mine : List (Key × Value)}, KV part mine → (∀ e ∈ part, valV all e.1 = some e.2) → (∀ e ∈ part, Plain1 e.2) → PySem.W.KeqHits A s other mine true
  | _, _, .nil, _, _ => .nil
  | e :: part, (k, v) :: mine, .cons ⟨same, rv⟩ rest, hall, hplain => by
    obtain ⟨y, hy, ry⟩ := RelO.some_of (v := e.2) (o := valueAt other e.1) (by rw [← hall e List.mem_cons_self]; exact r.val e.1)
    have same : e.1 = k := same
    rw [same] at hy
    have tail := hits_copy (A := A) (s := s) r rest (fun x m => hall x (List.mem_cons_of_mem _ m)) fun x m => hplain x (List.mem_cons_of_mem _ m)
    have both : PySem.W.KeqHits A s other ((k, v) :: mine) (true && true) := by
      refine .hit hy ?_ tail
      rcases hplain e List.mem_cons_self with h | ⟨a, h⟩
      · exact eqAt_same rv ry h
      · rw [h] at rv ry
        cases rv
        cases ry
        exact SeqAt.EqAt.same (.ref a)
    exact both
def rNeCopy : R2 := fun x y H Q => ∃ (a b : Addr) (kvs : List (Key × V)), x = .ref a ∧ y = .ref b ∧ H a = some (.dK kvs) ∧ H b = some (.dK kvs) ∧ (kvs.map (·.1)).Nodup ∧ (∀ e ∈ kvs, Plain1 e.2) ∧ Q (.bl false) H
theorem op_ne_copy {X : Cx} (hu : X.A.units < cLine) : OpR X (compareOp .NotEq) rNeCopy := by
  intro pins s σ H x y v u Q I rx ry ⟨a, b, kvs, ex, ey, ea, eb, hnd, hpl, q⟩
  subst ex ey
  cases (show v = Value.ref a from rx)
  cases (show u = Value.ref b from ry)
  obtain ⟨_, la, va, ka, da⟩ := (show ObjOk X.prog X.w H s.heap a (.dK kvs) from I.hok a _ ea)
  obtain ⟨_, lb, vb, kb, db⟩ := (show ObjOk X.prog X.w H s.heap b (.dK kvs) from I.hok b _ eb)
  have len : va.length = vb.length := by rw [← ka.length, ← kb.length]
  refine PySem.W.keq_ne (knd := mixKind X.prog X.w) (r := true) la lb da db hu (fun _ => hits_copy kb ka (fun e m => valV_of hnd m) hpl) (fin_bl I q (by simp [len]))
def nameB (z : Str) : Bool := decide (z.length ≤ 12) && (decide (0 < z.length) && z.cps.toList.all fun c => decide (97 ≤ c) && decide (c ≤ 122))
theorem nameB_ok {z : Str} (h : nameB z = true) : NameOk z := by
  obtain ⟨h1, h⟩ := Bool.and_eq_true_iff.mp h
  obtain ⟨h2, h3⟩ := Bool.and_eq_true_iff.mp h
  refine ⟨of_decide_eq_true h1, of_decide_eq_true h2, fun c m => ?_⟩
  obtain ⟨a, b⟩ := Bool.and_eq_true_iff.mp (List.all_eq_true.mp h3 c m)
  exact ⟨of_decide_eq_true a, of_decide_eq_true b⟩
theorem namesB_ok {ws : List Str} (h : ws.all nameB = true) : ∀ z ∈ ws, NameOk z := fun z m => nameB_ok (List.all_eq_true.mp h z m)
theorem FormSh.putD {ca : Nat → Addr} {H H' : Hp} {d c : Addr} {N : List Str} {f : Fm} {kvs : List (Key × V)} (h : FormSh ca H d N f) (e : H c = some (.dK kvs)) (n : d ≠ c) (k : Keep c H H') : FormSh ca H' d N f :=
  let ⟨ks, e1, t⟩ := h; ⟨ks, k _ _ e1 n, t.mono (fun _ _ => ShR.keep e nd k) fun _ z => z⟩
theorem TabAt.putD {H H' : Hp} {d c : Addr} {N : List Str} {f : Fm} {kvs : List (Key × V)} (h : TabAt H d N f) (e : H c = some (.dK kvs)) (n : d ≠ c) (k : Keep c H H') : TabAt H' d N f :=
  let ⟨ks, e1, t⟩ := h; ⟨ks, k _ _ e1 n, t.mono (fun _ _ => TupF.keep e ndt k) fun _ z => z⟩
theorem TabAt.ne {H : Hp} {d c : Addr} {N : List Str} {f : Fm} (h : TabAt H d N f) (n : H c = none) : d ≠ c := let ⟨_, e, _⟩ := h; ne_of_none e n
theorem numR_plain {ca : Nat → Addr} {H : Hp} {N : List Str} {f : Fm} {kvs : List (Key × V)} (t : Tab N (NumR ca f H) (ShZ f) kvs) : ∀ e ∈ kvs, Plain1 e.2 := fun e m => by
  obtain ⟨k, v⟩ := e
  obtain ⟨z, _, ek⟩ := t.k.mem _ m
  have ek : k = .inr z := ek
  subst ek
  rcases t.r z v (valV_of t.k.nd m) with ⟨h, _⟩ | ⟨p, h, _⟩
  · exact .inl (by show flatB v = true; rw [h]; rfl)
  · exact .inr ⟨p, h⟩
theorem FormSh.putL {ca : Nat → Addr} {H H' : Hp} {d c : Addr} {N : List Str} {f : Fm} {xs : List V} (h : FormSh ca H d N f) (e : H c = some (.lst xs)) (k : Keep c H H') : FormSh ca H' d N f :=
  let ⟨ks, e1, t⟩ := h; ⟨ks, k _ _ e1 (ne_of e1 e fun z => nomatch z), t.mono (fun _ _ => ShR.keep e (fun _ _ _ z => nomatch z) k) fun _ z => z⟩
theorem oneT {H : Hp} {d t : Addr} {N : List Str} {z : Str} (hz : z ∈ N) (ht : H t = some (.tup [.int 1, .int 1])) (n : t ≠ d) : TabAt (upd H d (.dK (mergeK [] [(.inr z, .ref t)]))) d N (oneF z) := by
  refine ⟨_, upd_same, Tab.set (R := fun _ _ => False) (Z := fun _ => True) (.nil fun _ => True.intro) hz ?_ (fun _ _ _ h => h.elim) fun y c _ => oneF_ne c⟩
  refine ⟨t, rfl, ?_⟩
  rw [oneF_self, upd_ne n]
  exact ht
end Lo

set_option Elab.async false
set_option linter.all false
set_option maxRecDepth 100000
set_option maxHeartbeats 4000000
namespace Lo
open PySem PySem.Spec PyProof.Rows L2
/-! ### own errors with fields -/
/-- __init__ of an error stores its parameters under the names fs -/
def spErr (C : Addr) (fs : List Str) : Sp := fun vs H Q _ => ∃ (a : Addr) (us : List V), vs = .ref a :: us ∧ us.length = fs.length ∧ H a = some (exo a C none) ∧
  ∀ (dx : Addr) (H2 : Hp), H dx = none → dx ≠ a → H2 a = some (exo a C (some dx)) → H2 dx = some (exd dx (fs.zip us).reverse) → (∀ b o, H b = some o → b ≠ a → H2 b = some o) → Q .non H2
structure OwnE (P : Program) (w : World) (K : PySem.W.Frag) (mg : Str → Option Value) (base : Heap) (x : Str) (C : Addr) (fs : List Str) : Prop where
  cl : OexC K C
  ex : ∃ f fd ps, FnOk P w K mg base (L2N.CX P w) 1 f fd ps (spErr C fs) ∧ PySem.W.findIn K (.ref C) "__init__" = some (some (.ref f)) ∧ PySem.W.typeIn K (.ref f) = some (.type "function") ∧ mg x = some (.ref C) ∧ Binds K fd ps []
theorem pmk_err {X : Cx} {x : Str} {C : Addr} {fs : List Str} {e : Expr} {es : List Expr} {ta : TA} {p pos : Pos} (O : OwnE X.prog X.w X.K X.mg X.base x C fs) (hr : Room 2 X.A) (hg : Gl X x) (ha : PA X (e :: es) ta)
    (hdb : (x == ("__debug__" : Str)) = false := by decide) (he : starEach (e :: es) X.env = (false, eval e X.env) :: starEach es X.env := by rfl) (hpl : (backTo pos (starEach es X.env)).any (·.1) = false := by rfl) :
    L2N.PMk X (.Call (.Name x p) (e :: es) [] pos) (tMkO C (spErr C fs) [] ta) := by
  obtain ⟨f, fd, ps, G, hi, ht, hm, hb⟩ := O.ex
  obtain ⟨nm, q, N, bs, bm, sn, sub, ab, col, dd, k0, k1, k2, k3, k5, hC, hbm⟩ := O.cl.cls
  intro pins s σ H Q I h
  apply wpAny_Call_Name_kw (ld_glob I hg hm ?_ hdb)
  apply PySem.W.callWith_K (h₀ := X.base) I.ok.mod.kin O.cl.kC ?_ he hpl
  apply thn (ha.run pos pins s σ H _ I h)
  rintro us ⟨hp, g, dr, tk, os⟩ ⟨vs, H1, I1, r1, l1000, q1⟩
  refine ⟨I1.kIn, ?_⟩
  have sz : hp.objs.size ≤ hp.objs.size + 1 := Nat.le_succ _
  have hn : H1 (hp.objs.size + 1) = none := I1.hok.fresh sz
  have old : ∀ b o, hp.get? b = some o → ((hp.push (PySem.W.kdv_tup us)).push (PySem.HandSPX.excO C hp.objs.size)).get? b = some o := fun b o e =>
    Heap.get?_push_of_some _ (Heap.get?_push_of_some _ e)
  have new : ((hp.push (PySem.W.kdv_tup us)).push (PySem.HandSPX.excO C hp.objs.size)).get? (hp.objs.size + 1) =
      some (PySem.HandSPX.excO C hp.objs.size) := by heap_get
  have I2 := I1.laid (t' := tk) old sz (exo_ok (P := X.prog) (w := X.w) (H := upd H1 (hp.objs.size + 1) (exo (hp.objs.size + 1) C none)) new)
  have hsp := q1 _ hn
  have r2 : Vals (V.ref (hp.objs.size + 1) :: (vs ++ [])) (Value.ref (hp.objs.size + 1) :: (us ++ [])) := .cons rfl (r1.append .nil)
  have lps : (Value.ref (hp.objs.size + 1) :: us ++ []).length = ps.length := by
    have e := r2.length
    rw [G.len _ _ _ _ hsp] at e
    exact e.symm
  have lus : us.length ≤ sizeLine := by rw [← Paired.length r1, sizeLine_eq]; omega
  have run := G.run _ X.stack _ _ ⟨Value.ref (hp.objs.size + 1) :: us, []⟩ _ _ _ (fun _ _ _ => False) (hr.make C us []) (I2.env0.make C us []) (hb _ (Value.ref (hp.objs.size + 1) :: us) I2.kIn lps) r2 hsp
  refine wpAny_call (PySem.HandSPX.call_own F.excBase_ValueError (fun Y => PySem.HandSPX.refsVE_contains Y bm hbm) (I1.kIn _ _ hC) (PySem.W.looks_findIn I1.kIn hi) (fun self => PySem.W.bind_fn I1.kIn self ht) lus (codeAny_mono run ?_))
  rintro (er | fl) s' hq'
  · exact pas0 σ pins _ _ er s' I2 hq'
  · cases fl with
    | ret u =>
      obtain ⟨v, G2, hos, ab, un, ok2, rv, ev, d, gs, ga, gd, fresh, q3⟩ := hq'
      subst ev
      obtain ⟨z2, y2, x2, w2, u2⟩ := s'
      obtain ⟨t0, GG, J, kept, gone, at2, na⟩ := mk_end0 (d2 := x2) (t2 := w2) I1 sz old un ok2 hos ab ga gd fresh
      have hz : L2N.Zn (.ref C) (some d) ({ cls := .ref C, dict := some d, data := .fields #[.ref t0, .none, .none, .none, .bool false, .none] } : Obj) := ⟨rfl, rfl, fun vs e => by cases e; rfl⟩
      exact ⟨rv, ⟨_, _, _, ⟨GG, y2, x2, w2, u2⟩, _, _, _, rfl, J, kept, gone, at2, hz, rfl, rfl, na, rfl, ab, raises_own O.cl.exC O.cl.tyC, q3⟩⟩
    | next => exact hq'.elim
    | brk => exact hq'.elim
    | cont => exact hq'.elim
/-- raise X(e, ..) -/
def tRaiseE (C : Addr) (fs : List Str) (W : WX) (ta : TA) : TS := fun _ σ H => tMkO C (spErr C fs) [] ta σ H fun cls d H' => W cls d σ H'
theorem ps_raiseE {X : Cx} {x : Str} {C : Addr} {fs : List Str} {e : Expr} {es : List Expr} {ta : TA} {W : WX} {p pos pos2 : Pos} (hc : X.calm = true) (O : OwnE X.prog X.w X.K X.mg X.base x C fs) (hr : Room 2 X.A) (tk : L2N.Takes X W) (hg : Gl X x) (ha : PA X (e :: es) ta)
    (hdb : (x == ("__debug__" : Str)) = false := by decide) (he : starEach (e :: es) X.env = (false, eval e X.env) :: starEach es X.env := by rfl) (hpl : (backTo pos (starEach es X.env)).any (·.1) = false := by rfl) :
    PS X (.Raise (some (.Call (.Name x p) (e :: es) [] pos)) none pos2) (tRaiseE C fs W ta) := L2N.ps_raise hc tk (pmk_err O hr hg ha hdb he hpl)
/-- behind the arguments' reading -/
theorem err_in {C : Addr} {fs : List Str} {us : List V} {H1 : Hp} {Q : XK} (hl : us.length = fs.length) (h100 : fs.length ≤ 100) (k : ∀ (d : Addr) (H2 : Hp), H1 d = none → Same H1 H2 → H2 d = some (.xd (fs.zip us).reverse) → Q (.ref C) (some d) H2) :
    us.length ≤ 1000 ∧ ∀ a, H1 a = none → spErr C fs (.ref a :: (us ++ [])) (upd H1 a (exo a C none))
      (fun v H2 => v = .non ∧ ∃ (d : Addr) (fs' : List (Str × V)), H2 a = some (exo a C (some d)) ∧ H2 d = some (exd d fs') ∧ H1 d = none ∧ Q (.ref C) (some d) (upd (L2.del H2 a) d (.xd fs'))) (fun _ _ _ => False) := by
  refine ⟨by omega, fun a na => ⟨a, us, by rw [List.append_nil], hl, upd_same, fun dx H2 nd ne ea ed sm => ⟨rfl, dx, _, ea, ed, ?_, ?_⟩⟩⟩
  · rw [upd_ne ne] at nd
    exact nd
  · rw [upd_ne ne] at nd
    refine k dx _ nd (fun b o e => ?_) upd_same
    have hb := ne_of_none e na
    rw [upd_ne (ne_of_none e nd), del_ne hb]
    exact sm b o (by rw [upd_ne hb]; exact e) hb
/-- the stores of __init__ -/
theorem err_1 {K : PySem.W.Frag} {C a : Addr} {f : Str} {y : V} {H : Hp} {R : Hp → Prop} (T : OexC K C) (hno : PySem.W.findIn K (.ref C) f = some none) (h : H a = some (exo a C none)) (k : ∀ dx H2, H dx = none → dx ≠ a → H2 a = some (exo a C (some dx)) → H2 dx = some (exd dx [(f, y)]) → (∀ b o, H b = some o → b ≠ a → H2 b = some o) → R H2) :
    ∃ a' C' : Addr, V.ref a = .ref a' ∧ OexC K C' ∧ PySem.W.findIn K (.ref C') f = some none ∧
      ((H a' = some (exo a' C' none) ∧ ∀ dx, H dx = none → dx ≠ a' → R (upd (upd H dx (exd dx [(f, y)])) a' (exo a' C' (some dx)))) ∨
        ∃ (dx : Addr) (fs : List (Str × V)), H a' = some (exo a' C' (some dx)) ∧ H dx = some (exd dx fs) ∧ fs.length ≤ 900 ∧ R (upd H dx (exd dx ((f, y) :: fs)))) :=
  ⟨a, C, rfl, T, hno, .inl ⟨h, fun dx n ne => k dx _ n ne upd_same (by rw [upd_ne ne]; exact upd_same) fun b o e m => by rw [upd_ne m, upd_ne (ne_of_none e n)]; exact e⟩⟩
theorem err_2 {K : PySem.W.Frag} {C a dx : Addr} {f : Str} {y : V} {H : Hp} {R : Hp → Prop} {fs : List (Str × V)} (T : OexC K C) (hno : PySem.W.findIn K (.ref C) f = some none) (h : H a = some (exo a C (some dx))) (h2 : H dx = some (exd dx fs)) (hl : fs.length ≤ 900) (hne : dx ≠ a)
    (k : ∀ H2, H2 a = some (exo a C (some dx)) → H2 dx = some (exd dx ((f, y) :: fs)) → (∀ b o, H b = some o → b ≠ dx → H2 b = some o) → R H2) :
    ∃ a' C' : Addr, V.ref a = .ref a' ∧ OexC K C' ∧ PySem.W.findIn K (.ref C') f = some none ∧
      ((H a' = some (exo a' C' none) ∧ ∀ dx, H dx = none → dx ≠ a' → R (upd (upd H dx (exd dx [(f, y)])) a' (exo a' C' (some dx)))) ∨
        ∃ (dx : Addr) (fs : List (Str × V)), H a' = some (exo a' C' (some dx)) ∧ H dx = some (exd dx fs) ∧ fs.length ≤ 900 ∧ R (upd H dx (exd dx ((f, y) :: fs)))) :=
  ⟨a, C, rfl, T, hno, .inr ⟨dx, fs, h, h2, hl, k _ (by rw [upd_ne hne.symm]; exact h) upd_same fun b o e m => by rw [upd_ne m]; exact e⟩⟩
end Lo

set_option Elab.async false
set_option linter.all false
set_option maxRecDepth 100000
set_option maxHeartbeats 4000000
namespace Lo
open PySem L2
/-! ### sets of words: set(list), sorted(set) -/
section
variable {P : Program} {w : World} {K : Type} [DecidableEq K]
def SetQ (knd : KeyKind P w K) (h : Heap) (a : Addr) (S : K → Bool) (n : Nat) : Prop :=
  ∃ o es ep t, h.get? a = some o ∧ o.ExactSet ∧ o.data = Data.set es ep t ∧ ElemsOf knd es.toList ∧ (es.toList.Pairwise fun x y => ∀ k, knd.is k x.2 = true → knd.is k y.2 = false) ∧
    (∀ k, S k = true ↔ ∃ e, e ∈ es.toList ∧ knd.is k e.2 = true) ∧ es.size < scanBound ∧ t.fits es.size = true ∧ es.size = n ∧ Ris t.place.toList ∧ (w.params.followText "set-order" = true ∨ t.led = true)
theorem gate {M : Model} {A : Around} {E : Value → Shared → Prop} {s : Shared} {α : Type} {g : Bool → Sem Unit} {b : Bool} {rest : Unit → Sem α} {R : α → Shared → Prop} (hg : ∀ (b : Bool) (s₁ : Shared) (Q' : Unit → Shared → Prop), Q' () s₁ → wpAny M A (g b) Q' E s₁)
    (k : (∀ (b : Bool) (s₁ : Shared) (Q' : Unit → Shared → Prop), Q' () s₁ → wpAny M A (g b) Q' E s₁) → wpAny M A (rest ()) R E s) : wpAny M A (g b >>= rest) R E s := wpAny_bind (hg _ _ _ (k hg))
theorem pw_sym {knd : KeyKind P w K} {es es' : List (Int × Value)} (h : es.Perm es') (k : es'.Pairwise fun x y => ∀ k, knd.is k x.2 = true → knd.is k y.2 = false) : es.Pairwise fun x y => ∀ k, knd.is k x.2 = true → knd.is k y.2 = false :=
  (h.pairwise_iff (fun {x y} hxy k hy => by
    cases e : knd.is k x.2 with
    | false => rfl
    | true => rw [hxy k e] at hy; exact hy.symm)).mpr k
theorem setQ_tail {knd : KeyKind P w K} {A : Around} {E : Value → Shared → Prop} {s : Shared} {a : Addr} {g : Bool → Sem Unit} (hg : ∀ (b : Bool) (s₁ : Shared) (Q' : Unit → Shared → Prop), Q' () s₁ → wpAny (model P w) A (g b) Q' E s₁)
    {o : Obj} {es : Array (Int × Value)} {ep : Nat} {t : SetTable} (ho : s.heap.get? a = some o) (hex : o.ExactSet) (hd : o.data = Data.set es ep t) {es1 : Array (Int × Value)} {t2 : SetTable} {S' : K → Bool}
    (hel : ElemsOf knd es1.toList) (hnd : es1.toList.Pairwise fun x y => ∀ k, knd.is k x.2 = true → knd.is k y.2 = false) (hm : ∀ k, S' k = true ↔ ∃ e, e ∈ es1.toList ∧ knd.is k e.2 = true) (hsb : es1.size < scanBound)
    (hf : t2.fits es1.size = true) (hr : Ris t2.place.toList) (hl : w.params.followText "set-order" = true ∨ t2.led = true) {wasDummy : Bool} {R : Option Bool → Shared → Prop}
    (h : ∀ h', Heap.SameBut a s.heap h' → SetQ knd h' a S' es1.size → R (some true) { s with heap := h' }) :
    wpAny (model P w) A (do
      storeSet a es1 t2
      if (!wasDummy && t2.tooFull) = true then do
        g (relayAll t2 es1 (SetTable.grown es1.size)).snd.snd
        storeSet a (relayAll t2 es1 (SetTable.grown es1.size)).fst (relayAll t2 es1 (SetTable.grown es1.size)).snd.fst
        pure (some true)
      else pure (some true)) R E s := by
  have e1 := store_at (es' := es1) (t' := t2) ho hd
  refine wpAny_bind (wpAny_storeSet_of ho hd ?_ (fits_of_scanBound hsb))
  have sb := Heap.SameBut.update s.heap a (Obj.putSet es1 t2)
  generalize s.heap.update a (Obj.putSet es1 t2) = h1 at *
  by_cases c : (!wasDummy && t2.tooFull) = true
  · rw [if_pos c]
    refine wpAny_bind (hg _ _ _ ?_)
    have hp := relayAll_perm t2 es1 (SetTable.grown es1.size)
    have hz : (relayAll t2 es1 (SetTable.grown es1.size)).fst.size = es1.size := by simpa using hp.length_eq
    refine wpAny_bind (wpAny_storeSet_of e1 rfl ?_ (fits_of_scanBound (by rw [hz]; exact hsb)))
    have e2 := store_at (es' := (relayAll t2 es1 (SetTable.grown es1.size)).fst) (t' := (relayAll t2 es1 (SetTable.grown es1.size)).snd.fst) e1 rfl
    have sb2 := sb.trans (Heap.SameBut.update h1 a (Obj.putSet (relayAll t2 es1 (SetTable.grown es1.size)).fst (relayAll t2 es1 (SetTable.grown es1.size)).snd.fst))
    refine wpAny_pure (h _ sb2 ⟨_, _, _, _, e2, ⟨hex.1, hex.2.1, hex.2.2⟩, rfl, fun e m => hel e (hp.mem_iff.mp m), pw_sym hp hnd, fun k => ?_, by rw [hz]; exact hsb, relayAll_fits _ _ _, hz, relayAll_ris _ _ _, ?_⟩)
    · rw [hm]
      exact ⟨fun ⟨e, m, q⟩ => ⟨e, hp.mem_iff.mpr m, q⟩, fun ⟨e, m, q⟩ => ⟨e, hp.mem_iff.mp m, q⟩⟩
    · rw [relayAll_led]
      exact hl
  · rw [if_neg c]
    exact wpAny_pure (h _ sb ⟨_, _, _, _, e1, ⟨hex.1, hex.2.1, hex.2.2⟩, rfl, hel, hnd, hm, hsb, hf, rfl, hr, hl⟩)
theorem setQ_add {knd : KeyKind P w K} {A : Around} {E : Value → Shared → Prop} {s : Shared} {a : Addr} {S : K → Bool} {n : Nat} {k : K} {x : Value} {Q : Bool → Shared → Prop}
    (hS : SetQ knd s.heap a S n) (hn : n + 1 < scanBound) (hx : knd.is k x = true) (hsc : x.scannable = true)
    (h : ∀ h', Heap.SameBut a s.heap h' → SetQ knd h' a (fun j => S j || decide (j = k)) (if S k = true then n else n + 1) → Q (!S k) { s with heap := h' }) :
    wpAny (model P w) A (setAddHashed a x (knd.hash k)) Q E s := by
  obtain ⟨o, es, ep, t, ho, hex, hd, hel, hnd, hm, hsb, hf, hsz, hr, hl⟩ := hS
  unfold setAddHashed
  refine wpAny_holding ?_
  unfold setAddHashedIn
  refine wpAny_bind (wpAny_setState_of ho hd hf ?_)
  simp only
  rw [byScan_of hsc hsb hel]
  rw [if_pos rfl]
  refine wpAny_bind ?_
  unfold setAddByScan
  refine wpAny_bind (wpAny_rule ?_)
  refine wpAny_bind (wpAny_setScan_of hx ho hd hf hel ?_)
  have hk : S k = true ↔ (es.toList.findIdx? fun e => knd.is k e.2).isSome = true := by
    rw [hm, List.findIdx?_isSome, List.any_eq_true]
  cases q : es.toList.findIdx? fun e => knd.is k e.2 with
  | some j =>
    rw [q] at hk
    have hk : S k = true := hk.mpr rfl
    refine wpAny_pure (wpAny_pure ?_)
    have e : (fun j => S j || decide (j = k)) = S := by
      funext j
      by_cases c : j = k
      · rw [c, hk]; rfl
      · rw [decide_eq_false c, Bool.or_false]
    have := h s.heap ⟨rfl, fun _ _ => rfl⟩ (by rw [e, if_pos hk]; exact ⟨o, es, ep, t, ho, hex, hd, hel, hnd, hm, hsb, hf, hsz, hr, hl⟩)
    rw [hk] at this
    exact this
  | none =>
    rw [q] at hk
    have hk : S k = false := by
      cases e : S k with
      | false => rfl
      | true => exact nomatch hk.mp e
    rw [hk, if_neg (fun z => nomatch z)] at h
    simp only
    have hp := layNew_perm t es (knd.hash k) x
    have hf1 := layNew_fits t es (knd.hash k) x
    have hr1 := layNew_ris t es (knd.hash k) x hr
    have hl1 := layNew_led t es (knd.hash k) x
    have hz : (layNew t es (knd.hash k) x).1.size = n + 1 := by
      have := hp.length_eq
      simp at this
      omega
    have hmem : ∀ e, e ∈ (layNew t es (knd.hash k) x).1.toList ↔ e ∈ es.toList ∨ e = (knd.hash k, x) := fun e => by
      rw [hp.mem_iff, Array.toList_push, List.mem_append, List.mem_singleton]
    have tl : ∀ (g : Bool → Sem Unit) (hg : ∀ (b : Bool) (s₁ : Shared) (Q' : Unit → Shared → Prop), Q' () s₁ → wpAny (model P w) A (g b) Q' E s₁) (t2 : SetTable), t2.fits (layNew t es (knd.hash k) x).1.size = true → Ris t2.place.toList → t2.led = t.led → wpAny (model P w) A (do
        storeSet a (layNew t es (knd.hash k) x).1 t2
        if (!(layNew t es (knd.hash k) x).2.2.1 && t2.tooFull) = true then do
          g (relayAll t2 (layNew t es (knd.hash k) x).1 (SetTable.grown (layNew t es (knd.hash k) x).1.size)).snd.snd
          storeSet a (relayAll t2 (layNew t es (knd.hash k) x).1 (SetTable.grown (layNew t es (knd.hash k) x).1.size)).fst (relayAll t2 (layNew t es (knd.hash k) x).1 (SetTable.grown (layNew t es (knd.hash k) x).1.size)).snd.fst
          pure (some true)
        else pure (some true)) (fun a_1 s' => wpAny (model P w) A (match a_1 with | some added => pure added | none => setAddHashedIn a x (knd.hash k) 99999) Q E s') E s := by
      intro g hg t2 f2 r2 l2
      refine setQ_tail (knd := knd) (S' := fun j => S j || decide (j = k)) hg ho hex hd ?_ ?_ ?_ (by rw [hz]; exact hn) f2 r2 (by rw [l2]; exact hl) fun h' sb hq => wpAny_pure (h h' sb (by rw [← hz]; exact hq))
      · intro e m
        rcases (hmem e).mp m with m | rfl
        · exact hel e m
        · exact ⟨⟨k, hx, rfl⟩, hsc⟩
      · refine pw_sym hp ?_
        rw [Array.toList_push, List.pairwise_append]
        refine ⟨hnd, List.pairwise_singleton _ _, fun e m y my j hj => ?_⟩
        rw [List.mem_singleton] at my
        subst my
        cases ex : knd.is j x with
        | false => rfl
        | true =>
          have ej := knd.inj x j k ex hx
          subst ej
          rw [(hm j).mpr ⟨e, m, hj⟩] at hk
          cases hk
      · intro j
        rw [Bool.or_eq_true, decide_eq_true_iff, hm]
        constructor
        · rintro (⟨e, m, q⟩ | rfl)
          · exact ⟨e, (hmem e).mpr (.inl m), q⟩
          · exact ⟨_, (hmem _).mpr (.inr rfl), hx⟩
        · rintro ⟨e, m, q⟩
          rcases (hmem e).mp m with m | rfl
          · exact .inl ⟨e, m, q⟩
          · exact .inr (knd.inj x j k q hx)
    refine gate (fun b s₁ Q' q => ?_) fun hg => ?_
    · cases b
      · exact wpAny_pure q
      · exact wpAny_rule q
    by_cases c : (layNew t es (knd.hash k) x).2.1.plain = true
    · rw [if_pos c, hashByValue_scannable 8 hsc]
      refine wpAny_bind (wpAny_pure ?_)
      refine tl _ hg _ ?_ ?_ ?_
      · split
        · exact hf1
        · exact hf1
      · split
        · exact hr1
        · exact hr1
      · split
        · exact hl1
        · exact hl1
    · rw [if_neg c]
      refine wpAny_bind (wpAny_pure ?_)
      exact tl _ hg _ hf1 hr1 hl1
theorem SetQ.at {knd : KeyKind P w K} {h h' : Heap} {a : Addr} {S : K → Bool} {n : Nat} (q : SetQ knd h a S n) (k : ∀ o, h.get? a = some o → h'.get? a = some o) : SetQ knd h' a S n :=
  let ⟨o, es, ep, t, ho, r⟩ := q
  ⟨o, es, ep, t, k o ho, r⟩
theorem SetQ.congr {knd : KeyKind P w K} {h : Heap} {a : Addr} {S S' : K → Bool} {n : Nat} (q : SetQ knd h a S n) (k : S' = S) : SetQ knd h a S' n := k ▸ q
theorem setQ_update {knd : KeyKind P w K} {A : Around} {I : Addr} {fp wr : List Addr} {G : Array GenState → Array GenState → Prop} {n : Nat} {Pv : Nat → Value → Prop} {St : Nat → Shared → Prop} {R : Result → Shared → Prop}
    (hW : WalksS P w A.in1 I fp wr G n Pv St) (S : Addr) (hS : ¬ S ∈ fp) (ks : List K) (hn : n = ks.length) (hb : ks.length + 1 < scanBound) (hv : ∀ i v, Pv i v → ∃ k, ks[i]? = some k ∧ knd.is k v = true ∧ v.scannable = true) :
    ∀ (k i : Nat) (s : Shared), n - i = k → i ≤ n → St i s → (∃ c, c ≤ i ∧ SetQ knd s.heap S (fun j => decide (j ∈ ks.take i)) c) →
      (∀ (s' : Shared) (c : Nat), Moved (S :: wr) G s s' → c ≤ n → SetQ knd s'.heap S (fun j => decide (j ∈ ks)) c → R (Except.ok (Flow.ret Value.none)) s') →
      codeAny (model P w) A (Code.builtin "set.update.loop" { pos := [Value.ref S, Value.ref I] }) R s
  | k, i, s, hk, hi, hst, ⟨c, hc, hq⟩, h => by
    refine codeAny_builtin PyProof.Rows.F.entry_set_update_loop ?_
    unfold Builtin.«set.update.loop»
    simp only
    show wpAny _ A.in1 _ _ _ s
    have hSw : ¬ S ∈ wr := fun m => hS (hW.sub _ m)
    by_cases e : i = n
    · subst e
      refine wpAny_bind (hW.done s _ _ hst fun s' m => wpAny_pure (h s' c ⟨fun b o nb => m.heap b o fun z => nb (List.mem_cons_of_mem _ z), m.gens, m.drawn, m.os, m.toks⟩ hc ?_))
      refine (hq.at fun o => m.heap S o hSw).congr ?_
      rw [hn, List.take_length]
    · refine wpAny_bind (hW.item i s _ _ (by omega) hst fun v s' hp hst' m => ?_)
      obtain ⟨z, hz, hzv, hsc⟩ := hv i v hp
      simp only
      refine wpAny_bind (wpAny_holding ?_)
      unfold setAdd
      refine wpAny_holding (wpAny_bind (knd.pyHash hzv ?_))
      have hq1 := hq.at fun o => m.heap S o hSw
      refine setQ_add (s := { s' with toks := s'.toks + 1 }) (n := c) hq1 (by omega) hzv hsc fun h' sb q2 => wpAny_pure ⟨plainId_quiet PyProof.Rows.F.plain_set_update_loop _, ?_⟩
      have hst2 := hW.frame (i + 1) s' h' (s'.toks + 1) hst' (Nat.le_succ _) fun b mb o ho => by rw [sb.2 b (fun z => hS (z ▸ mb))]; exact ho
      refine setQ_update hW S hS ks hn hb hv (n - (i + 1)) (i + 1) _ rfl (by omega) hst2 ⟨_, ?_, q2.congr ?_⟩ fun s3 c3 m3 => h s3 c3 ⟨fun b o nb ho => ?_, ?_, ?_, ?_, ?_⟩
      · split <;> omega
      · funext j
        have e : ks.take (i + 1) = ks.take i ++ [z] := by rw [List.take_add_one, hz]; rfl
        rw [e]
        by_cases c1 : j ∈ ks.take i
        · rw [decide_eq_true c1, decide_eq_true (List.mem_append_left _ c1)]; rfl
        · rw [decide_eq_false c1, Bool.false_or]
          by_cases c2 : j = z
          · rw [decide_eq_true c2, decide_eq_true (List.mem_append_right _ (by rw [c2]; simp))]
          · rw [decide_eq_false c2, decide_eq_false fun q => (List.mem_append.mp q).elim c1 fun q => c2 (by simpa using q)]
      · refine m3.heap b o nb ?_
        show h'.get? b = some o
        rw [sb.2 b (fun z => nb (by rw [z]; exact List.mem_cons_self))]
        exact m.heap b o (fun z => nb (List.mem_cons_of_mem _ z)) ho
      · exact hW.gtrans _ _ _ m.gens m3.gens
      · exact m3.drawn.trans m.drawn
      · exact m3.os.trans m.os
      · exact Nat.le_trans m.toks (Nat.le_trans (Nat.le_succ _) m3.toks)
  termination_by k => k
  decreasing_by omega
theorem tc_quiet (a : Args) : (Code.builtin "type.__call__" a).quiet = true := by
  unfold Code.quiet Thread.loud
  simp [L2.call_set_tups._proof_1, Thread.atCollectorCode, Thread.yieldsInsideHandler, Thread.atExit]
theorem call_setQ {knd : KeyKind P w K} {A : Around} {E : Value → Shared → Prop} {s : Shared} {l : Addr} {items : Array Value} (ks : List K) {Q : Value → Shared → Prop} (hA : A.handled = none) (hl : s.heap.IsList l items)
    (hlen : items.size = ks.length) (hb : ks.length + 1 < scanBound) (hv : ∀ (i : Nat) (v : Value), items[i]? = some v → ∃ k, ks[i]? = some k ∧ knd.is k v = true ∧ v.scannable = true)
    (h : ∀ (h' : Heap) (tk c : Nat), c ≤ ks.length → SetQ knd h' s.heap.objs.size (fun j => decide (j ∈ ks)) c → (∀ (b : Addr) (o : Obj), s.heap.get? b = some o → h'.get? b = some o) → Q (Value.ref s.heap.objs.size) { s with heap := h', toks := tk }) :
    wpAny (model P w) A (call (Value.type "set") [Value.ref l]) Q E s := by
  refine wpAny_call (codeAny_of_tree ?_)
  show wpAny _ (A.under _) (pure (Fin.again (Code.builtin "type.__call__" { pos := [Value.type "set", Value.ref l] }))) _ _ s
  refine wpAny_pure ⟨tc_quiet _, ?_⟩
  refine codeAny_builtin F.entry_type_call ?_
  show wpAny _ A.in1 _ _ _ s
  unfold Builtin.«type.__call__»
  simp only
  refine wpAny_ite_false (by decide) ?_
  refine wpAny_ite_false (by decide +kernel) ?_
  rw [F.typeCall_set_1]
  refine wpAny_bind (wpAny_pure ?_)
  have hs := F.called_set
  obtain ⟨c0, tl, hm⟩ := hs.mro
  rw [hm]
  refine wpAny_bind (wpAny_pure ?_)
  refine wpAny_ite_false rfl ?_
  rw [hs.made]
  refine wpAny_bind (wpAny_pure ?_)
  simp only
  refine wpAny_bind (wpAny_pure ?_)
  refine wpAny_bind (wpAny_holding (wpAny_call ?_))
  refine codeAny_mono (code_set_led1 (E := fun _ _ => False) (Q₁ := fun v s' => v = Value.ref s.heap.objs.size ∧ s' = { s with heap := s.heap.push { cls := Value.type "set", data := Data.set #[] 0 (SetTable.fresh 0 0 !w.params.followText "set-order") } }) _ ⟨rfl, rfl⟩) fun r s1 hr => ?_
  obtain ⟨v, rfl, e1, e2⟩ : ∃ v, r = .ok (.ret v) ∧ v = Value.ref s.heap.objs.size ∧ s1 = { s with heap := s.heap.push { cls := Value.type "set", data := Data.set #[] 0 (SetTable.fresh 0 0 !w.params.followText "set-order") } } := by
    match r with
    | .ok (.ret v) => exact ⟨v, rfl, hr.1, hr.2⟩
    | .error _ => exact hr.elim
    | .ok (.next) => exact hr.elim
    | .ok (.brk) => exact hr.elim
  subst e1
  subst e2
  simp only
  have ho := Heap.get?_push_size (h := s.heap) (o := { cls := Value.type "set", data := Data.set #[] 0 (SetTable.fresh 0 0 !w.params.followText "set-order") }) rfl
  refine wpAny_bind (wpAny_isInstance (T := "set") ⟨_, ho, rfl⟩ hs.sub ?_)
  refine wpAny_ite_false rfl ?_
  refine wpAny_bind (wpAny_holding ?_)
  unfold callSpecial?
  refine wpAny_bind (wpAny_specialOf (T := "set") ⟨_, ho, rfl⟩ hs.init.lookup ?_)
  simp only
  refine wpAny_holding ?_
  rw [hs.init.bind]
  refine wpAny_bind (wpAny_pure ?_)
  simp only
  refine wpAny_bind (wpAny_call ?_)
  refine codeAny_call_builtin hs.init.plain F.entry_set_init (check_set_init_1 ⟨_, ho, rfl⟩ ?_)
  unfold Builtin.«set.__init__»
  simp only [List.cons_append, List.nil_append]
  refine wpAny_bind (wpAny_pure ?_)
  refine wpAny_bind ?_
  unfold typeNameOfCut
  refine wpAny_bind (?_ : wpAny _ _ (shownTypeOf _) _ _ _)
  unfold shownTypeOf
  refine wpAny_bind (wpAny_typeOf (T := "set") ⟨_, ho, rfl⟩ ?_)
  refine wpAny_ite_false (by decide) (wpAny_pure ?_)
  unfold typeNameCut typeName
  refine wpAny_pure ?_
  refine wpAny_bind ?_
  unfold checkCount
  refine wpAny_ite_false rfl ?_
  refine wpAny_ite_false rfl ?_
  refine wpAny_ite_false rfl (wpAny_pure ?_)
  refine wpAny_bind (wpAny_pure ?_)
  unfold setUsed
  refine wpAny_bind (wpAny_bind (wpAny_setState_of ho rfl rfl (wpAny_pure ?_)))
  refine wpAny_ite_false rfl ?_
  unfold Builtin.Frozenset.updateFrom
  refine wpAny_bind (wpAny_bind ?_)
  unfold Builtin.Frozenset.isAnySet
  obtain ⟨ol, hol, hcls, cap, hdat⟩ := hl
  have hol1 := Heap.get?_push_of_some (o := { cls := Value.type "set", data := Data.set #[] 0 (SetTable.fresh 0 0 !w.params.followText "set-order") }) hol
  refine wpAny_bind (wpAny_isInstance (T := "list") ⟨_, hol1, hcls⟩ F.sub_list_set ?_)
  refine wpAny_isInstance (T := "list") ⟨_, hol1, hcls⟩ F.sub_list_frozenset ?_
  refine wpAny_ite_false rfl ?_
  refine wpAny_bind (wpAny_typeOf (T := "list") ⟨_, hol1, hcls⟩ ?_)
  refine wpAny_ite_false (by decide) ?_
  refine wpAny_bind (wpAny_pyIter_list ⟨_, hol1, hcls, cap, hdat⟩ ?_)
  refine wpAny_bind (wpAny_runValue ?_)
  have hlt : l ≠ s.heap.objs.size + 1 := Nat.ne_of_lt (Nat.lt_succ_of_lt (Heap.lt_size hol))
  have hlt2 : l ≠ s.heap.objs.size := Nat.ne_of_lt (Heap.lt_size hol)
  have hI := Heap.get?_push_size (s.heap.push { cls := Value.type "set", data := Data.set #[] 0 (SetTable.fresh 0 0 !w.params.followText "set-order") }) (o := { cls := Value.type "list_iterator", data := Data.fields #[Value.ref l, Value.int 0 0] }) rfl
  have hol2 := Heap.get?_push_of_some { cls := Value.type "list_iterator", data := Data.fields #[Value.ref l, Value.int 0 0] } hol1
  have ho2 := Heap.get?_push_of_some { cls := Value.type "list_iterator", data := Data.fields #[Value.ref l, Value.int 0 0] } ho
  have hsz : (s.heap.push { cls := Value.type "set", data := Data.set #[] 0 (SetTable.fresh 0 0 !w.params.followText "set-order") }).objs.size = s.heap.objs.size + 1 := Heap.size_push _ _
  rw [hsz] at hI ⊢
  refine setQ_update (knd := knd) (Walks.toS (Walks.list (A := A.in1.in1.in1) hA (s.heap.objs.size + 1) l hlt items)) s.heap.objs.size ?_ ks hlen hb hv items.size 0 _ rfl (Nat.zero_le _) ⟨?_, ?_⟩ ⟨0, Nat.le_refl _, ?_⟩ fun s3 c3 m3 hc3 q3 => ?_
  · intro m
    simp only [List.mem_cons, List.not_mem_nil, or_false] at m
    rcases m with m | m
    · exact absurd m (Nat.ne_of_lt (Nat.lt_succ_self _))
    · exact hlt2 m.symm
  · exact ⟨_, hI, rfl, rfl⟩
  · exact ⟨_, hol2, hcls, cap, hdat⟩
  · refine ⟨_, _, _, _, ho2, ⟨rfl, rfl, rfl⟩, rfl, fun e m => ?_, ?_, fun j => ?_, ?_, rfl, rfl, ?_, ?_⟩
    · exact absurd m (by simp)
    · exact List.Pairwise.nil
    · simp
    · show 0 < scanBound
      omega
    · exact List.Pairwise.nil
    · show w.params.followText "set-order" = true ∨ (!w.params.followText "set-order") = true
      cases w.params.followText "set-order"
      · exact .inr rfl
      · exact .inl rfl
  · refine wpAny_pure (wpAny_pure (wpAny_pure ?_))
    refine wpAny_ite_false (by decide) (wpAny_pure ?_)
    have eg : s3.gens = s.gens := m3.gens
    have ed : s3.drawn = s.drawn := m3.drawn
    have eo : s3.os = s.os := m3.os
    have := h s3.heap s3.toks c3 (by omega) q3 fun b o hb => m3.heap b o (fun m => ?_) (Heap.get?_push_of_some _ (Heap.get?_push_of_some _ hb))
    · rw [← eg, ← ed, ← eo] at this
      exact this
    · have hb1 := Heap.lt_size hb
      rcases List.mem_cons.mp m with m | m
      · exact absurd m (Nat.ne_of_lt hb1)
      · exact absurd (List.mem_singleton.mp m) (Nat.ne_of_lt (Nat.lt_succ_of_lt hb1))
/-! ### sorted of a set of texts -/
def toS : Value → Str
  | .str z _ => z
  | _ => Str.empty
theorem strs_are : ∀ {vs : List Value}, (∀ v ∈ vs, ∃ z t, v = Value.str z t) → PyProof.Rows.StrsAre vs (vs.map toS)
  | [], _ => .nil
  | v :: vs, h => by
    obtain ⟨z, t, rfl⟩ := h v List.mem_cons_self
    exact .cons z t (strs_are fun u m => h u (List.mem_cons_of_mem _ m))
theorem isStrOf_of {z : Str} {v : Value} (h : Value.isStrOf z v = true) : ∃ t, v = Value.str z t := by
  cases v <;> simp [Value.isStrOf, Value.isStr] at h
  subst h
  exact ⟨_, rfl⟩
theorem sorted_setQ {A : Around} {E : Value → Shared → Prop} {s : Shared} {a : Addr} {S : Str → Bool} {n : Nat} {Q : Value → Shared → Prop} (hq : SetQ (strKind P w) s.heap a S n) (hA : A.handled = none) (hn : n < 64)
    (h : ∀ (s' : Shared) (p : Nat) (out : Array Value) (c : Nat) (ys : List Str), (∀ (b : Addr) (o : Obj), s.heap.get? b = some o → s'.heap.get? b = some o) → s'.gens = s.gens → s'.os = s.os → s.heap.objs.size ≤ p →
      s'.heap.get? p = some (PyProof.Rows.seqObj "list" out c) → PyProof.Rows.StrsAre out.toList ys → PyProof.Rows.sortedS ys = true → ys.Nodup → (∀ z, z ∈ ys ↔ S z = true) → ys.length = n → Q (Value.ref p) s') :
    wpAny (model P w) A (call (Value.builtin "sorted") [Value.ref a]) Q E s := by
  obtain ⟨o, es, ep, t, ho, hex, hd, hel, hnd, hm, hsb, hf, hsz, hr, hl⟩ := hq
  refine Calls.call_function_entry PyProof.Rows.kind_sorted PyProof.Rows.plain_sorted PyProof.Rows.entry_sorted (PyProof.Rows.args_sorted1 _) ?_
  unfold Builtin.sorted
  refine wpAny_bind ?_
  unfold checkCount
  refine wpAny_ite_false rfl ?_
  refine wpAny_ite_false rfl ?_
  refine wpAny_ite_false rfl (wpAny_pure ?_)
  refine wpAny_bind (collect_set (A := A.in1) hA ⟨o, ho, hex.1, hd⟩ hf hsb hr hl fun s1 out k1 z1 g1 o1 pm => ?_)
  have hlen : out.length = n := by
    have e := pm.length_eq
    rw [List.length_map] at e
    rw [e, ← hsz]
    exact Array.length_toList
  have ha : ∀ e ∈ es.toList, ∃ t, e.2 = Value.str (toS e.2) t := fun e m => by
    obtain ⟨⟨k, hk, _⟩, _⟩ := hel e m
    obtain ⟨t, ht⟩ := isStrOf_of hk
    rw [ht]
    exact ⟨t, rfl⟩
  have hs := strs_are (vs := out) fun v m => by
    obtain ⟨e, me, rfl⟩ := List.mem_map.mp (pm.mem_iff.mp m)
    obtain ⟨t, ht⟩ := ha e me
    exact ⟨_, t, ht⟩
  have nd : (out.map toS).Nodup := by
    have n1 : ((es.toList.map (·.2)).map toS).Nodup := by
      rw [List.map_map, List.Nodup, List.pairwise_map]
      refine (List.Pairwise.and_mem.mp hnd).imp fun {x y} ⟨mx, my, hxy⟩ e => ?_
      obtain ⟨t1, h1⟩ := ha x mx
      obtain ⟨t2, h2⟩ := ha y my
      have i1 : (strKind P w).is (toS x.2) x.2 = true := by rw [h1]; exact beq_self_eq_true _
      have i2 : (strKind P w).is (toS x.2) y.2 = true := by
        have e : toS x.2 = toS y.2 := e
        rw [e, h2]
        exact beq_self_eq_true _
      rw [hxy _ i1] at i2
      cases i2
    exact (pm.map toS).nodup_iff.mpr n1
  have mem : ∀ z, z ∈ out.map toS ↔ S z = true := fun z => by
    rw [hm]
    constructor
    · intro m
      obtain ⟨v, mv, rfl⟩ := List.mem_map.mp m
      obtain ⟨e, me, rfl⟩ := List.mem_map.mp (pm.mem_iff.mp mv)
      obtain ⟨t, ht⟩ := ha e me
      exact ⟨e, me, by rw [ht]; exact beq_self_eq_true _⟩
    · rintro ⟨e, me, hz⟩
      obtain ⟨t, ht⟩ := isStrOf_of hz
      exact List.mem_map.mpr ⟨e.2, pm.mem_iff.mpr (List.mem_map.mpr ⟨e, me, rfl⟩), by rw [ht]; rfl⟩
  refine wpAny_bind (wpAny_newList ?_ (by rw [hlen]; exact small64 hn))
  have hp := Heap.get?_push_size s1.heap (o := { cls := Value.type "list", data := Data.seq out.toArray }) rfl
  have old : ∀ (b : Addr) (o : Obj), s.heap.get? b = some o → (s1.heap.push { cls := Value.type "list", data := Data.seq out.toArray }).get? b = some o ∧ b < s1.heap.objs.size := fun b o hb => ⟨Heap.get?_push_of_some _ (k1 b o hb), Heap.lt_size (k1 b o hb)⟩
  refine wpAny_bind (wpAny_holding (wpAny_call_entry PyProof.Rows.slot_list_sort ⟨_, hp, rfl⟩ PyProof.Rows.entry_list_sort ?_ (PyProof.Rows.args_list_sort _)))
  refine PyProof.Rows.list_sort_treeK PyProof.Rows.strKind_oneLt hp (PyProof.Rows.StrsAre.keysOf hs) (fun v1 v2 rest e => ?_) (by rw [hlen]; exact hn) fun st' pm2 so => ?_
  · exact PyProof.Rows.keyKind_strs (e ▸ hs)
  · obtain ⟨ss, h1, h2, h3⟩ := PyProof.Rows.sorted_out_str hs pm2 so
    obtain ⟨c, hc⟩ := PyProof.Rows.sortedHeap_at (out := Array.map (fun x => x.2) (PyProof.Rows.arrOf st')) hp
    generalize hO : Array.map (fun x => x.2) (PyProof.Rows.arrOf st') = O at *
    have old2 : ∀ (b : Addr) (o : Obj), s.heap.get? b = some o → (PyProof.Rows.sortedHeap (s1.heap.push { cls := Value.type "list", data := Data.seq out.toArray }) s1.heap.objs.size out O).get? b = some o := fun b o hb => by
      obtain ⟨e1, e2⟩ := old b o hb
      have e3 : b < (s1.heap.push { cls := Value.type "list", data := Data.seq out.toArray }).objs.size := by
        rw [Heap.size_push]
        exact Nat.lt_succ_of_lt e2
      rw [PyProof.Rows.sortedHeap_old (Nat.ne_of_lt e2) e3]
      exact e1
    generalize PyProof.Rows.sortedHeap (s1.heap.push { cls := Value.type "list", data := Data.seq out.toArray }) s1.heap.objs.size out O = HF at *
    have key := h { heap := HF, gens := s1.gens, drawn := s1.drawn, toks := s1.toks, os := s1.os } s1.heap.objs.size _ c ss old2 g1 o1 z1 hc h1 h3 (h2.nodup_iff.mpr nd) (fun z => by rw [h2.mem_iff, mem]) (by rw [h2.length_eq, List.length_map, hlen])
    refine ⟨Value.none, rfl, ?_⟩
    exact wpAny_pure ⟨_, rfl, key⟩
theorem strs_at : ∀ {vs : List Value} {zs : List Str} {i : Nat} {v : Value}, PyProof.Rows.StrsAre vs zs → vs[i]? = some v → ∃ z t, zs[i]? = some z ∧ v = Value.str z t
  | _, _, 0, _, .cons y t _, e => by
    have e : some (Value.str y t) = some _ := e
    cases e
    exact ⟨y, t, rfl, rfl⟩
  | _, _, i + 1, _, .cons y t h, e => strs_at (i := i) h e
/-- the set that set(words) makes -/
def SetQO (P : Program) (w : World) (a : Addr) (zs : List Str) : HO := .ext fun h => ∃ c, c ≤ zs.length ∧ SetQ (strKind P w) h a (fun j => decide (j ∈ zs)) c
theorem setQO_ok {H : Hp} {h : Heap} {a : Addr} {zs : List Str} {c : Nat} (hc : c ≤ zs.length) (q : SetQ (strKind P w) h a (fun j => decide (j ∈ zs)) c) : ObjOk P w H h a (SetQO P w a zs) := by
  unfold SetQO
  rw [ObjOk.eq_13]
  exact ⟨⟨c, hc, q⟩, ⟨q.choose, q.choose_spec.choose_spec.choose_spec.choose_spec.1⟩, fun h1 h2 ⟨c, hc, q⟩ k => ⟨c, hc, q.at k⟩⟩
def rSetOfS (K : W.Frag) (P : Program) (w : World) : List V → Hp → VK → Prop := fun xs H Q => ∃ (l : Addr) (zs : List Str), xs = [V.ref l] ∧ SqL K H l (zs.map V.str) ∧ zs.length < 1000 ∧ ∀ a, H a = none → Q (.ref a) (upd H a (SetQO P w a zs))
theorem cr_setOfS {X : Cx} (hc : X.calm = true) : CallR X (Value.type "set") (rSetOfS X.K X.prog X.w) := by
  intro pins s σ H xs us Q I rx hr
  obtain ⟨l, zs, rfl, hl, hlen, k⟩ := hr
  cases Vals.ref1 rx
  obtain ⟨its, hv, ⟨o, n, ho, hcl, hdi, hda⟩, _⟩ := I.list hl
  have hs := Vals.strs hv
  have e : its.length = zs.length := by
    have := Vals.length hv
    rw [List.length_map] at this
    exact this.symm
  refine call_setQ (knd := strKind X.prog X.w) (items := its.toArray) zs (I.ok.hd hc) ⟨o, ho, hcl, n, hda⟩ (by rw [List.size_toArray]; exact e) ?_ (fun i v hi => ?_) fun h' tk c hc' q old => ?_
  · have : (1000 : Nat) < scanBound := by decide
    omega
  · rw [List.getElem?_toArray] at hi
    obtain ⟨z, t, hz, rfl⟩ := strs_at hs hi
    exact ⟨z, hz, beq_self_eq_true _, rfl⟩
  · exact ⟨.ref s.heap.objs.size, _, I.laid old (Nat.le_refl _) (setQO_ok hc' q), rfl, k _ (HOk.fresh I.hok (Nat.le_refl _))⟩
def rSortedQ (P : Program) (w : World) : List V → Hp → VK → Prop := fun vs H Q => ∃ (a : Addr) (zs : List Str), vs = [V.ref a] ∧ H a = some (SetQO P w a zs) ∧ zs.length < 64 ∧
  ∀ (ys : List Str) (p : Addr), PyProof.Rows.sortedS ys = true → ys.Nodup → (∀ z, z ∈ ys ↔ z ∈ zs) → H p = none → Q (.ref p) (upd H p (.lst (ys.map V.str)))
theorem cr_sortedQ {X : Cx} (hc : X.calm = true) : CallR X (Value.builtin "sorted") (rSortedQ X.prog X.w) := by
  intro pins s σ H xs us Q I rx hr
  obtain ⟨a, zs, rfl, ha, hlen, k⟩ := hr
  cases Vals.ref1 rx
  have q := I.hok a _ ha
  unfold SetQO at q
  rw [ObjOk.eq_13] at q
  obtain ⟨c, hc', q⟩ := q.1
  refine sorted_setQ q (I.ok.hd hc) (by omega) fun s' p out e ys old hg hos hle hp hs so nd mem len => ?_
  have hn := HOk.fresh I.hok hle
  refine ⟨.ref p, _, ?_, rfl, k ys p so nd (fun z => by rw [mem, decide_eq_true_iff]) hn⟩
  obtain ⟨h', g', d', t', o'⟩ := s'
  cases hos
  have hg : g' = s.gens := hg
  refine I.call (ch := []) (Un.laid old hle hn) (HOk.laid I.hok old hle ?_) (hg ▸ I.bare) (fun b m => nomatch m)
  rw [ObjOk.eq_1]
  refine ⟨?_, out.toList, e, vals_of_strs hs, by rw [Array.toArray_toList]; exact hp⟩
  rw [List.length_map, len]
  exact small64 (by omega)
end
end Lo

set_option Elab.async false
set_option linter.all false
set_option maxRecDepth 100000
set_option maxHeartbeats 4000000
namespace Lo
open PySem PySem.Spec PyProof.Rows L2
/-! ### errors with fields, caught -/
/-- isinstance(e, c), e the error that the suite holds, of the class at D, with a dict or without -/
def rIsD (K : PySem.W.Frag) (D a : Addr) (cls : Value) (d : Option Addr) : List V → Hp → VK → Prop := fun xs H Q => ∃ (c : V) (cv : Value) (b : Bool), xs = [.ref a, c] ∧ cls = .ref D ∧ (∀ x, d = some x → ∃ fs, H x = some (.xd fs)) ∧ (∀ u, RelV c u → u = cv) ∧ PySem.W.kitOne K (.ref D) cv = some b ∧ Q (.bl b) H
theorem call_isD {X : Cx} {a D : Addr} {oe : Obj} {cls : Value} {d : Option Addr} {pn : List (Addr × Obj)} (C : ExcC X.K D) (hz : Zc cls d oe) (hf : ∃ vs, oe.data = .fields vs) : CallR (X.suite a ((a, oe) :: pn)) (.builtin "isinstance") (rIsD X.K D a cls d) := by
  intro pins s σ H xs us Q I r h
  obtain ⟨c, cv, b, rfl, hcl, hd, hcv, e, q⟩ := h
  subst hcl
  match us, r with
  | _, .cons rx (.cons rt .nil) =>
    obtain rfl := hcv _ rt
    cases rx
    have hp := (I.pin (a, oe) (List.mem_append.mpr (.inl List.mem_cons_self))).1
    obtain ⟨vs, hv⟩ := hf
    obtain ⟨od, J⟩ : ∃ od, PySem.W.InstAt s.heap a oe D od := by
      cases d with
      | none => exact ⟨none, hp, hz.1, by unfold PySem.W.notCls; rw [hv] <;> rfl, by rw [hz.2]; exact True.intro⟩
      | some x =>
        obtain ⟨fs, ex⟩ := hd x rfl
        obtain ⟨mA, hns, _⟩ := (show ObjOk X.prog X.w H s.heap x (.xd fs) from I.hok x _ ex)
        obtain ⟨o, ho, _⟩ := lookIn_ns hns
        exact ⟨some o, hp, hz.1, by unfold PySem.W.notCls; rw [hv] <;> rfl, by rw [hz.2]; exact ho⟩
    obtain ⟨cd, hcd, _⟩ := PySem.W.any_some C.hd
    exact PySem.W.kia_one (PySem.W.kitx_exc (by rw [hcd]; rfl) C.hg C.hk C.hs C.ha C.hn C.ht C.hm) I.kIn J e (fun z => nomatch z) fun tk => ⟨.bl b, H, I.kept (t' := tk) fun _ _ z => z, rfl, q⟩
theorem list_1 {α : Type} {us : List α} {a : Str} (h : us.length = [a].length) : ∃ x, us = [x] := match us, h with | [x], _ => ⟨x, rfl⟩
theorem list_2 {α : Type} {us : List α} {a b : Str} (h : us.length = [a, b].length) : ∃ x y, us = [x, y] := match us, h with | [x, y], _ => ⟨x, y, rfl⟩
theorem list_3 {α : Type} {us : List α} {a b c : Str} (h : us.length = [a, b, c].length) : ∃ x y z, us = [x, y, z] := match us, h with | [x, y, z], _ => ⟨x, y, z, rfl⟩
/-! ### C(e, .., k = v, ..) -/
structure OwnK (P : Program) (w : World) (K : PySem.W.Frag) (mg : Str → Option Value) (base : Heap) (k : Nat) (x : Str) (C : Addr) (ps : List Str) (n : Nat) (ks : List Str) (gV : List V → List V → List V) (sp : Sp) : Prop where
  ex : ∃ f fd g, FnOk P w K mg base (L2N.CX P w) k f fd ps sp ∧ Mk K C f ∧ mg x = some (.ref C) ∧ KBn K fd ps (n + 1) ks g gV
def tOwnK (C : Addr) (n m : Nat) (sp : Sp) (gV : List V → List V → List V) (E : L2.St → XK) (t tk : TA) : TE := fun σ H Q => t σ H fun vs H1 => tk σ H1 fun zs H2 => vs.length = n ∧ zs.length = m ∧ ∀ x dx, H2 x = none → H2 dx = none → dx ≠ x →
  sp (gV (.ref x :: vs) zs) (upd (upd H2 dx (.own x)) x (.ins C dx [])) (fun v H3 => v = .non ∧ Q (.ref x) H3) (E σ)
theorem pe_ownk {X : Cx} {k n : Nat} {C : Addr} {ps ks : List Str} {sp : Sp} {E : L2.St → XK} {x : Str} {p pos : Pos} {e : Expr} {es : List Expr} {kws : List Keyword} {t tk : TA} {gV : List V → List V → List V} (O : OwnK X.prog X.w X.K X.mg X.base k x C ps n ks gV sp) (hr : Room (k + 1) X.A) (hg : Gl X x)
    (hx : ∀ σ, PassesAt (L2N.CX X.prog X.w) X σ (E σ)) (ha : PA X (e :: es) t) (hkw : PK X kws tk)
    (hall : (backToKw pos (keywordEach kws X.env)).all (·.1.isSome) = true := by rfl) (hks : (backToKw pos (keywordEach kws X.env)).filterMap (·.1) = ks := by rfl) (hdb : (x == ("__debug__" : Str)) = false := by decide)
    (he : starEach (e :: es) X.env = (false, eval e X.env) :: starEach es X.env := by rfl) (hpl : ((backTo pos (starEach (e :: es) X.env)).any (·.1) || (backToKw pos (keywordEach kws X.env)).any (·.1.isNone)) = false := by rfl) :
    PE X (.Call (.Name x p) (e :: es) kws pos) (tOwnK C n ks.length sp gV E t tk) := by
  obtain ⟨f, fd, g, F, M, hm, hb⟩ := O.ex
  constructor
  intro pins s σ H Q I h
  apply wpAny_Call_Name_kw (ld_glob I hg hm ?_ hdb)
  apply PySem.W.callWith_KW (h₀ := X.base) I.ok.mod.kin M.kp hall ?_ hpl he
  apply thn (ha.run pos pins s σ H _ I h)
  rintro us s1 ⟨vs, H1, I1, r, q⟩
  apply thn (hkw.run pos pins s1 σ H1 _ I1 q)
  rintro ws s2 ⟨zs, H2, I2, rz, l1, l2, q2⟩
  refine ⟨I2.kIn, ?_⟩
  rw [hks]
  have hq := q2 (s2.heap.objs.size + 1) s2.heap.objs.size (I2.hok.fresh (Nat.le_succ _)) (I2.hok.fresh (Nat.le_refl _)) (Nat.ne_of_lt (Nat.lt_succ_self _))
  have I3 := Inv.made (C := C) I2
  have r1 : Vals (V.ref (s2.heap.objs.size + 1) :: vs) (Value.ref (s2.heap.objs.size + 1) :: us) := .cons rfl r
  have n1 : (Value.ref (s2.heap.objs.size + 1) :: us).length = n + 1 := by rw [List.length_cons, ← r.length, l1]
  have run := F.run _ X.stack _ _ ⟨Value.ref (s2.heap.objs.size + 1) :: us, ks.zip ws⟩ _ _ _ (E σ) (hr.make C us (ks.zip ws)) (I3.env0.make C us (ks.zip ws)) (hb.to _ (Value.ref (s2.heap.objs.size + 1) :: us) ws I3.kIn n1 (rz.length.symm.trans l2)) (hb.rel r1 rz) hq
  refine wpAny_call (make_map (f := f) I2.kIn M.makes M.init (beq_iff_eq.mp M.fn) (codeAny_mono run ?_))
  rintro (e | fl) s' hq'
  · exact hx σ pins _ _ e s' I3 hq'
  · cases fl with
    | ret u =>
      obtain ⟨v, H', I4, rv, ev, q3⟩ := I3.after hq'
      subst ev
      exact ⟨rv, ⟨V.ref (s2.heap.objs.size + 1), H', I4, rfl, q3⟩⟩
    | next => exact hq'.elim
    | brk => exact hq'.elim
    | cont => exact hq'.elim
theorem vals_rev {vs : List V} {us : List Value} (h : Vals vs us) : Vals vs.reverse us.reverse := by
  induction h with
  | nil => exact .nil
  | cons r _ ih =>
    rw [List.reverse_cons, List.reverse_cons]
    exact ih.append (.cons r .nil)
theorem hq_nil {F : Str × V → Prop} : ∀ q ∈ ([] : List (Str × V)), F q := fun _ h => by cases h
theorem hq_cons {F : Str × V → Prop} {p : Str × V} {l : List (Str × V)} (h : F p) (k : ∀ q ∈ l, F q) : ∀ q ∈ p :: l, F q := fun q m => by
  rcases List.mem_cons.mp m with rfl | m
  · exact h
  · exact k q m
end Lo
namespace Lo
open PySem PySem.Spec PyProof.Rows L2
theorem iteBT {b : Bool} {A B : Prop} (h : b = true) (k : A) : if b = true then A else B := by rw [if_pos h]; exact k
theorem iteBF {b : Bool} {A B : Prop} (h : b = false) (k : B) : if b = true then A else B := by rw [if_neg (by rw [h]; decide)]; exact k
/-- a whole number from l to 1000000 -/
def wholeB (v : V) (l : Int) : Bool := match v with
  | .int i => decide (l ≤ i) && decide (i ≤ 1000000)
  | _ => false
/-! ### flat values compared -/
def dat : V → PyData
  | .non => .none | .bl b => .bool b | .int i => .int i | .str z => .str z
  | _ => .none
/-- None, a bool, an int, a text of sound signs -/
def fdB : V → Bool
  | .non => true | .bl _ => true | .int _ => true | .str z => PyData.strOk z
  | _ => false
theorem fd_flat {v : V} (h : fdB v = true) : flatV v = true := by
  cases v <;> first | rfl | cases h
theorem fd_all {K : PySem.W.Frag} {H : Hp} : ∀ {vs : List V}, vs.all fdB = true → DpAll K H vs (vs.map dat) ∧ PyData.canLayAll0 (vs.map dat) = true ∧ PyData.depthAll (vs.map dat) = 0
  | [], _ => ⟨.nil, rfl, rfl⟩
  | v :: vs, h => by
    obtain ⟨h1, h2⟩ := Bool.and_eq_true_iff.mp (show (fdB v && vs.all fdB) = true from h)
    obtain ⟨a, b, c⟩ := fd_all (K := K) (H := H) h2
    have one : Dp K H v (dat v) ∧ (dat v).canLay0 = true ∧ (dat v).depth = 0 := by
      cases v with
      | non => exact ⟨.non, rfl, rfl⟩
      | bl b => exact ⟨.bl b, rfl, rfl⟩
      | int i => exact ⟨.int i, rfl, rfl⟩
      | str z => exact ⟨.str z, h1, rfl⟩
      | _ => cases h1
    refine ⟨.cons one.1 a, ?_, ?_⟩
    · show ((dat v).canLay0 && PyData.canLayAll0 (vs.map dat)) = true
      rw [one.2.1, b]
      rfl
    · show max (dat v).depth (PyData.depthAll (vs.map dat)) = 0
      rw [one.2.2, c]
      rfl
theorem fd_tup {vs : List V} {K : PySem.W.Frag} {H : Hp} (h : vs.all fdB = true) : (PyData.tuple (vs.map dat)).canLay0 = true ∧ SeqAt.shaped (PyData.tuple (vs.map dat)) = true := by
  obtain ⟨_, b, c⟩ := fd_all (K := K) (H := H) h
  refine ⟨b, ?_⟩
  unfold SeqAt.shaped
  rw [show (PyData.tuple (vs.map dat)).canLay0 = true from b, Bool.true_and]
  refine decide_eq_true ?_
  show PyData.depthAll (vs.map dat) + 1 ≤ 64
  rw [c]
  decide
/-- t != u, tuples of the same flat values -/
theorem neTF {K : PySem.W.Frag} {H : Hp} {p q : Addr} {vs : List V} {Q : VK} (hp : H p = some (.tup vs)) (hq : H q = some (.tup vs)) (h : vs.all fdB = true) (k : Q (.bl false) H) : rNeD K (.ref p) (.ref q) H Q := by
  obtain ⟨c, s⟩ := fd_tup (K := K) (H := H) h
  have d := (fd_all (K := K) (H := H) h).1
  refine ⟨_, _, .tup (SqT.of hp) d, .tup (SqT.of hq) d, s, s, ?_⟩
  rw [SeqAt.eqv_refl _ c]
  exact k
theorem eqTF {K : PySem.W.Frag} {H : Hp} {p q : Addr} {vs : List V} {Q : VK} (hp : H p = some (.tup vs)) (hq : H q = some (.tup vs)) (h : vs.all fdB = true) (k : Q (.bl true) H) : rEqD K (.ref p) (.ref q) H Q := by
  obtain ⟨c, s⟩ := fd_tup (K := K) (H := H) h
  have d := (fd_all (K := K) (H := H) h).1
  refine ⟨_, _, .tup (SqT.of hp) d, .tup (SqT.of hq) d, s, s, ?_⟩
  rw [SeqAt.eqv_refl _ c]
  exact k
/-- one of a list at a place that was drawn -/
theorem at_mem {xs : List V} {d : Int} (h0 : 0 ≤ d) (h1 : d < (xs.length : Nat)) : ∃ v, atI xs d = some v ∧ v ∈ xs := by
  obtain ⟨D, rfl⟩ := Int.eq_ofNat_of_zero_le h0
  have hD : D < xs.length := by omega
  exact ⟨xs[D], atI_nat (by simp [hD]), List.getElem_mem hD⟩
end Lo

set_option Elab.async false
set_option linter.all false
set_option maxRecDepth 100000
set_option maxHeartbeats 4000000
namespace Lo
open PySem PySem.Spec PyProof.Rows L2
/-! ### own errors as values -/
def tExV (C : Addr) (fs : List Str) (ta : TA) : TE := fun σ H Q => ta σ H fun us H1 => us.length = fs.length ∧ fs.length ≤ 100 ∧
  ∀ (a d : Addr) (H2 : Hp), H1 a = none → H1 d = none → d ≠ a → Same H1 H2 → H2 a = some (exo a C (some d)) → H2 d = some (exd d (fs.zip us).reverse) → Q (.ref a) H2
theorem pe_exv {X : Cx} {x : Str} {C : Addr} {fs : List Str} {e : Expr} {es : List Expr} {ta : TA} {p pos : Pos} (O : OwnE X.prog X.w X.K X.mg X.base x C fs) (hr : Room 2 X.A) (hg : Gl X x) (ha : PA X (e :: es) ta)
    (hdb : (x == ("__debug__" : Str)) = false := by decide) (he : starEach (e :: es) X.env = (false, eval e X.env) :: starEach es X.env := by rfl) (hpl : (backTo pos (starEach es X.env)).any (·.1) = false := by rfl) :
    PE X (.Call (.Name x p) (e :: es) [] pos) (tExV C fs ta) := by
  obtain ⟨f, fd, ps, G, hi, ht, hm, hb⟩ := O.ex
  obtain ⟨nm, q, N, bs, bm, sn, sub, ab, col, dd, k0, k1, k2, k3, k5, hC, hbm⟩ := O.cl.cls
  constructor
  intro pins s σ H Q I h
  apply wpAny_Call_Name_kw (ld_glob I hg hm ?_ hdb)
  apply PySem.W.callWith_K (h₀ := X.base) I.ok.mod.kin O.cl.kC ?_ he hpl
  apply thn (ha.run pos pins s σ H _ I h)
  rintro us ⟨hp, g, dr, tk, os⟩ ⟨vs, H1, I1, r1, hl, h100, q1⟩
  refine ⟨I1.kIn, ?_⟩
  have sz : hp.objs.size ≤ hp.objs.size + 1 := Nat.le_succ _
  have hn : H1 (hp.objs.size + 1) = none := I1.hok.fresh sz
  have old : ∀ b o, hp.get? b = some o → ((hp.push (PySem.W.kdv_tup us)).push (PySem.HandSPX.excO C hp.objs.size)).get? b = some o := fun b o e =>
    Heap.get?_push_of_some _ (Heap.get?_push_of_some _ e)
  have new : ((hp.push (PySem.W.kdv_tup us)).push (PySem.HandSPX.excO C hp.objs.size)).get? (hp.objs.size + 1) =
      some (PySem.HandSPX.excO C hp.objs.size) := by heap_get
  have I2 := I1.laid (t' := tk) old sz (exo_ok (P := X.prog) (w := X.w) (H := upd H1 (hp.objs.size + 1) (exo (hp.objs.size + 1) C none)) new)
  have hsp : spErr C fs (.ref (hp.objs.size + 1) :: (vs ++ [])) (upd H1 (hp.objs.size + 1) (exo (hp.objs.size + 1) C none)) (fun v H2 => v = .non ∧ Q (.ref (hp.objs.size + 1)) H2) (fun _ _ _ => False) :=
    ⟨_, vs, by rw [List.append_nil], hl, upd_same, fun dx H2 nd ne ea ed sm => ⟨rfl, q1 _ dx H2 hn (by rw [upd_ne ne] at nd; exact nd) ne
      (fun b o e => sm b o (by rw [upd_ne (ne_of_none e hn)]; exact e) (ne_of_none e hn)) ea ed⟩⟩
  have r2 : Vals (V.ref (hp.objs.size + 1) :: (vs ++ [])) (Value.ref (hp.objs.size + 1) :: (us ++ [])) := .cons rfl (r1.append .nil)
  have lps : (Value.ref (hp.objs.size + 1) :: us ++ []).length = ps.length := by
    have e := r2.length
    rw [G.len _ _ _ _ hsp] at e
    exact e.symm
  have lus : us.length ≤ sizeLine := by rw [← Paired.length r1, sizeLine_eq]; omega
  have run := G.run _ X.stack _ _ ⟨Value.ref (hp.objs.size + 1) :: us, []⟩ _ _ _ (fun _ _ _ => False) (hr.make C us []) (I2.env0.make C us []) (hb _ (Value.ref (hp.objs.size + 1) :: us) I2.kIn lps) r2 hsp
  refine wpAny_call (PySem.HandSPX.call_own F.excBase_ValueError (fun Y => PySem.HandSPX.refsVE_contains Y bm hbm) (I1.kIn _ _ hC) (PySem.W.looks_findIn I1.kIn hi) (fun self => PySem.W.bind_fn I1.kIn self ht) lus (codeAny_mono run ?_))
  rintro (er | fl) s' hq'
  · exact pas0 σ pins _ _ er s' I2 hq'
  · cases fl with
    | ret u =>
      obtain ⟨v, H', I3, rv, ev, q3⟩ := I2.after hq'
      subst ev
      exact ⟨rv, ⟨.ref (hp.objs.size + 1), H', I3, rfl, q3⟩⟩
    | next => exact hq'.elim
    | brk => exact hq'.elim
    | cont => exact hq'.elim
/-- C(), C without own __init__ -/
def tExV0 (C : Addr) : TE := fun _ H Q => ∀ a : Addr, H a = none → Q (.ref a) (upd H a (exo a C none))
theorem pe_exv0 {X : Cx} {C : Addr} {bmB : List Value} {B newId initId : String} {x : Str} {p pos : Pos} (F : ExcBaseFacts B newId initId bmB) (q : PySem.W.excIn X.K C bmB newId = true) (gC : X.mg x = some (.ref C))
    (kC : PySem.W.keepIn X.K (.ref C) = true) (hg : Gl X x) (hdb : (x == ("__debug__" : Str)) = false := by decide) : PE X (.Call (.Name x p) [] [] pos) (tExV0 C) := by
  constructor
  intro pins s σ H Q I h
  apply wpAny_Call_Name_kw (ld_glob I hg gC ?_ hdb)
  apply PySem.W.callWith_K0 I.kIn kC
  obtain ⟨bm, N, nm, qn, bs, hdct, sn, sub, ab, col, dd, k0, k1, k2, k3, k5, mN, hC, hN, hni, T⟩ := exc_obj I.kIn q
  refine wpAny_call_exc_subT F T hC hN hni (fun h' e hm => ?_) (Nat.zero_le _)
  obtain ⟨t, he, _, _⟩ := hm.there
  have hn := I.hok.gone hm.new
  exact ⟨.ref e, _, I.laidN (t' := s.toks) hm.keeps hm.new hn (exo_ok he), rfl, h e hn⟩
/-- x.f, x an own error -/
def tExF (K : PySem.W.Frag) (f : Str) (te : TE) : TE := fun σ H Q => te σ H fun x H1 => ∃ (a C d : Addr) (fs : List (Str × V)) (v : V), x = .ref a ∧ XfC K C ∧ PySem.W.findIn K (.ref C) f = some none ∧ H1 a = some (exo a C (some d)) ∧ H1 d = some (exd d fs) ∧ fs.lookup f = some v ∧ Q v H1
theorem pe_exf {X : Cx} {K : PySem.W.Frag} {e : Expr} {te : TE} {pos : Pos} {f : Str} (he : PE X e te) (hK : X.K = K) (hb : attributeBase e f X.env (eval e X.env) = eval e X.env := by rfl) : PE X (.Attribute e f pos) (tExF K f te) := by
  subst hK
  constructor
  intro pins s σ H Q I h
  apply attr_of hb
  apply thn (he.run pins s σ H _ I h)
  rintro u s1 ⟨x, H1, I1, rx, a, C, d, fs, v, ex, T, hno, ea, ed, l, q⟩
  subst ex
  obtain rfl : u = Value.ref a := rx
  obtain ⟨t1, ho⟩ := exo_at I1.hok ea
  obtain ⟨mA, hns, hr⟩ := exd_at I1.hok ed
  obtain ⟨od, hod, hl⟩ := lookIn_ns hns
  obtain ⟨u, hu, ru⟩ := RelO.some_of (v := v) (o := mA f) (by rw [← l]; exact hr f)
  exact HandSPX.exc_get I1.kIn ⟨ho, rfl, rfl, hod⟩ T.ga T.gg T.exC (PySem.W.findObj_own T.hdC hno rfl (by rw [hl, hu])) (handed_of ru) ⟨v, H1, I1.tok _, ru, q⟩
/-- isinstance(x, c), x an own error -/
def rIsX (K : PySem.W.Frag) : List V → Hp → VK → Prop := fun xs H Q => ∃ (a C : Addr) (od : Option Addr) (c : V) (cv : Value) (b : Bool), xs = [.ref a, c] ∧ H a = some (exo a C od) ∧ (∀ d, od = some d → ∃ fs, H d = some (exd d fs)) ∧ ExcC K C ∧
  (∀ u, RelV c u → u = cv) ∧ PySem.W.kitOne K (.ref C) cv = some b ∧ Q (.bl b) H
theorem call_isX {X : Cx} : CallR X (.builtin "isinstance") (rIsX X.K) := by
  intro pins s σ H xs us Q I r h
  obtain ⟨a, C, od, c, cv, b, rfl, ea, hd, T, hcv, e, q⟩ := h
  match us, r with
  | _, .cons rx (.cons rt .nil) =>
    obtain rfl := hcv _ rt
    cases rx
    obtain ⟨t1, ho⟩ := exo_at I.hok ea
    obtain ⟨oo, J⟩ : ∃ oo, PySem.W.InstAt s.heap a { cls := .ref C, dict := od, data := .fields #[.ref t1, .none, .none, .none, .bool false, .none] } C oo := by
      cases od with
      | none => exact ⟨none, ho, rfl, rfl, True.intro⟩
      | some x =>
        obtain ⟨fs, ed⟩ := hd x rfl
        obtain ⟨mA, hns, _⟩ := exd_at I.hok ed
        obtain ⟨o, h1, _⟩ := lookIn_ns hns
        exact ⟨some o, ho, rfl, rfl, h1⟩
    obtain ⟨cd, hcd, _⟩ := PySem.W.any_some T.hd
    exact PySem.W.kia_one (PySem.W.kitx_exc (by rw [hcd]; rfl) T.hg T.hk T.hs T.ha T.hn T.ht T.hm) I.kIn J e (fun z => nomatch z) fun tk => ⟨.bl b, H, I.kept (t' := tk) fun _ _ z => z, rfl, q⟩
/-! ### sum of a list of bools -/
section
variable {P : Program} {w : World} {A : Around} {R : Result → Shared → Prop} {I : Addr} {fp wr : List Addr} {n : Nat} {Pv : Nat → Value → Prop} {St : Nat → Heap → Prop}
theorem sumB_loop (W : Walks P w A.in1 I fp wr n Pv St) (bv : Nat → Bool) (hv : ∀ i v, Pv i v → v = .bool (bv i)) (S : Addr) (hS : S ∉ fp) :
    ∀ (k i : Nat) (s : Shared) (tA : Tok) (c : Nat) (z : Int), (z = 0 ∨ z = 2) → n - i = k → i ≤ n → St i s.heap → s.heap.get? S = some { cls := .type "list", dict := none, data := .seq #[.int (preSum (fun j => if bv j = true then 1 else 0) i) tA] c, slots := #[] } →
    (∀ h' tk t', (∀ b o, b ∉ wr → b ≠ S → s.heap.get? b = some o → h'.get? b = some o) → R (.ok (.ret (.int (preSum (fun j => if bv j = true then 1 else 0) n) t'))) { s with heap := h', toks := tk }) →
    codeAny (model P w) A (.builtin "sum.loop" ⟨[.ref I, .ref S, rawInt z, rawInt 0], []⟩) R s := by
  have nS : S ∉ wr := fun h => hS (W.sub _ h)
  intro k
  induction k with
  | zero =>
    intro i s tA c z hz hk hi hst e hR
    obtain rfl : i = n := by omega
    apply codeAny_builtin F.entry_sum_loop
    rw [Around.under_plainId F.plain_sum_loop _]
    show wpAny _ A.in1 (seqItems? (.ref S) >>= _) _ _ s
    apply wpAny_bind
    apply wpAny_seqItems e rfl
    show wpAny _ A.in1 (tryCatch (pyNext (.ref I)) _ >>= _) _ _ s
    apply wpAny_bind
    apply wpAny_tryCatch
    refine W.done s _ _ hst fun h' tk hk' => ?_
    exact wpAny_pure (hR h' tk tA fun b o hb _ e => hk' b o hb e)
  | succ k ih =>
    intro i s tA c z hz hk hi hst e hR
    have lt : i < n := by omega
    apply codeAny_builtin F.entry_sum_loop
    rw [Around.under_plainId F.plain_sum_loop _]
    show wpAny _ A.in1 (seqItems? (.ref S) >>= _) _ _ s
    apply wpAny_bind
    apply wpAny_seqItems e rfl
    show wpAny _ A.in1 (tryCatch (pyNext (.ref I)) _ >>= _) _ _ s
    apply wpAny_bind
    apply wpAny_tryCatch
    refine W.item i s _ _ lt hst fun v h' tk hP hst' hk' => ?_
    obtain rfl := hv i v hP
    have e' := hk' S _ nS e
    have off : ∀ {b : Addr}, b ∈ fp → S ≠ b := fun hb q => hS (q ▸ hb)
    obtain ⟨y, hy⟩ : ∃ y : Int, (if bv i = true then (1 : Int) else 0) = y := ⟨_, rfl⟩
    obtain ⟨T, hT⟩ : ∃ T : Int, preSum (fun j => if bv j = true then 1 else 0) i = T := ⟨_, rfl⟩
    have e3 : preSum (fun j => if bv j = true then 1 else 0) (i + 1) = T + y := by
      show preSum (fun j => if bv j = true then 1 else 0) i + (if bv i = true then (1 : Int) else 0) = _
      rw [hy, hT]
    rw [hT] at e'
    have fin : ∀ (h2 : Heap) (z : Int) (tk2 tA2 : Tok) (c2 : Nat), (z = 0 ∨ z = 2) → (∀ b, b ≠ S → h2.get? b = h'.get? b) → h2.get? S = some { cls := .type "list", dict := none, data := .seq #[.int (T + y) tA2] c2, slots := #[] } →
        codeAny (model P w) A (.builtin "sum.loop" ⟨[.ref I, .ref S, rawInt z, rawInt 0], []⟩) R { s with heap := h2, toks := tk2 } := fun h2 z tk2 tA2 c2 hz k2 e2 =>
      ih (i + 1) _ tA2 c2 z hz (by omega) lt (W.frame _ _ _ hst' fun b hb o q => (k2 b (Ne.symm (off hb))).trans q) (by rw [e3]; exact e2) fun h3 tk3 t3 k3 => hR h3 tk3 t3 fun b o hb hs q => k3 b o hb hs ((k2 b hs).trans (hk' b o hb q))
    have slow : ∀ tk2 : Nat, wpAny (model P w) A.in1 (do
        updateSeq S fun _ => #[.int (T + y) tk2]
        letGo [Value.int T tA, Value.bool (bv i)]
        updateSeq S fun _ => #[.int (T + y) tk2]
        again (Code.builtin "sum.loop" ⟨[.ref I, .ref S, rawInt 2, rawInt 0], []⟩)) (fun x s' => match x with
          | .done f => R (.ok f) s'
          | .again c' => c'.quiet = true ∧ codeAny (model P w) A c' R s') (fun e s' => R (.error e) s') { s with heap := h', toks := tk + 1 } := fun tk2 => by
      apply wpAny_bind
      apply wpAny_updateSeq e' rfl
      have e2 := Heap.get?_update_self (Obj.mapSeq fun _ => #[Value.int (T + y) tk2]) e' rfl
      apply wpAny_bind
      apply wpAny_letGo
      apply wpAny_bind
      exact wpAny_updateSeq e2 rfl (wpAny_pure ⟨plainId_quiet F.plain_sum_loop _, fin _ 2 _ tk2 _ (.inr rfl) (fun b hb => (Heap.get?_update_other _ _ (Ne.symm hb)).trans (Heap.get?_update_other _ _ (Ne.symm hb))) (Heap.get?_update_self _ e2 rfl)⟩)
    rcases hz with rfl | rfl
    · show wpAny _ A.in1 (if (_ : Bool) = true then (mkInt (preSum (fun j => if bv j = true then 1 else 0) i + (if bv i = true then 1 else 0)) >>= _) else _) _ _ _
      rw [hy, hT]
      split
      · apply wpAny_bind
        apply wpAny_mkInt
        show wpAny _ A.in1 (updateSeq S (fun _ => #[.int (T + y) tk]) >>= _) _ _ _
        apply wpAny_bind
        exact wpAny_updateSeq e' rfl (wpAny_pure ⟨plainId_quiet F.plain_sum_loop _, fin _ 0 _ tk _ (.inl rfl) (fun b hb => Heap.get?_update_other _ _ (Ne.symm hb)) (Heap.get?_update_self _ e' rfl)⟩)
      · apply wpAny_bind
        apply wpAny_rule
        apply wpAny_bind
        refine wpAny_attempt (wpAny_holding (add_int_bool ?_))
        rw [hy]
        exact slow tk
    · show wpAny _ A.in1 ((holding [Value.bool (bv i)] (binaryOp .Add (.int (preSum (fun j => if bv j = true then 1 else 0) i) tA) (.bool (bv i)))).attempt >>= _) _ _ _
      rw [hT]
      apply wpAny_bind
      refine wpAny_attempt (wpAny_holding (add_int_bool ?_))
      rw [hy]
      exact slow tk
variable {E : Value → Shared → Prop} {s : Shared}
theorem sumB_raw {l : Addr} {bs : List Bool} {Q : Value → Shared → Prop} (hh : A.handled = none) (hl : s.heap.IsList l (bs.map Value.bool).toArray)
    (h : ∀ h' tk t', (∀ b o, s.heap.get? b = some o → h'.get? b = some o) → Q (.int (preSum (fun j => if bs.getD j false = true then 1 else 0) bs.length) t') { s with heap := h', toks := tk }) : wpAny (model P w) A (call (.builtin "sum") [.ref l]) Q E s := by
  have hlt : l < s.heap.objs.size := by obtain ⟨_, e, _⟩ := hl; exact Heap.lt_size e
  apply call_function_tree F.kind_sum F.plain_sum F.entry_sum (F.args_sum1 _)
  unfold Builtin.«sum»
  simp only [List.length_cons, List.length_nil]
  rw [if_neg (by decide)]
  apply wpAny_bind
  refine wpAny_of_eq (show Builtin.Builtins.bindParams "sum" ["start"] 0 { } = pure [none] from rfl) ?_
  apply wpAny_bind
  apply wpAny_pyIter_list hl
  have hn : l ≠ s.heap.objs.size := Nat.ne_of_lt hlt
  apply wpAny_bind
  apply wpAny_mkInt
  apply wpAny_bind
  apply wpAny_pure
  simp only [List.forIn_cons, List.forIn_nil]
  refine wpAny_bind (wpAny_bind (wpAny_bind (wpAny_isInstance (T := "int") (b := false) (typeIs_int _ _ _) PySem.sub_int_str ?_)))
  rw [if_neg Bool.false_ne_true]
  refine wpAny_pure (wpAny_bind (wpAny_bind (wpAny_isInstance (T := "int") (b := false) (typeIs_int _ _ _) PySem.sub_int_bytes ?_)))
  rw [if_neg Bool.false_ne_true]
  refine wpAny_pure (wpAny_bind (wpAny_bind (wpAny_isInstance (T := "int") (b := false) (typeIs_int _ _ _) PySem.sub_int_bytearray ?_)))
  rw [if_neg Bool.false_ne_true]
  apply wpAny_pure
  apply wpAny_pure
  refine wpAny_bind (wpAny_newObj_type ?_)
  have W := Walks.list (prog := P) (w := w) (A := A.in1) hh s.heap.objs.size l hn (bs.map Value.bool).toArray
  have hv : ∀ (i : Nat) (v : Value), (bs.map Value.bool).toArray[i]? = some v → v = .bool (bs.getD i false) := fun i v e => by
    rw [List.getElem?_toArray, List.getElem?_map] at e
    cases q : bs[i]? with
    | none => rw [q] at e; cases e
    | some b =>
      rw [q] at e
      cases e
      rw [List.getD_eq_getElem?_getD, q]
      rfl
  have size1 : ∀ o, (s.heap.push o).objs.size = s.heap.objs.size + 1 := fun o => Heap.size_push _ _
  have hn2 : (bs.map Value.bool).toArray.size = bs.length := by rw [List.size_toArray, List.length_map]
  refine wpAny_pure ⟨plainId_quiet F.plain_sum_loop _, sumB_loop W (fun j => bs.getD j false) hv _ ?_ _ 0 _ s.toks 0 0 (.inl rfl) rfl (Nat.zero_le _) ?_ (Heap.get?_push_size _ rfl) fun h' tk t' hk => ?_⟩
  · intro m
    rcases List.mem_cons.mp m with e | m
    · exact absurd ((size1 _).symm.trans e) (by omega)
    · rcases List.mem_cons.mp m with e | m
      · have q : s.heap.objs.size + 1 = l := (size1 _).symm.trans e
        have q2 : l < s.heap.objs.size := hlt
        rw [← q] at q2
        exact absurd (Nat.lt_of_succ_lt q2) (Nat.lt_irrefl _)
      · cases m
  · exact ⟨⟨_, Heap.get?_push_of_some _ (Heap.get?_push_size _ rfl), rfl, rfl⟩, (hl.push _).push _⟩
  · rw [hn2]
    refine h h' tk t' fun b o e => hk b o (fun m => ?_) (fun z => ?_) (Heap.get?_push_of_some _ (Heap.get?_push_of_some _ e))
    · rcases List.mem_cons.mp m with z | m
      · exact absurd (Heap.lt_size e) (by rw [z]; exact Nat.lt_irrefl _)
      · cases m
    · have lt := Heap.lt_size e
      rw [z] at lt
      have := size1 { cls := .type "list_iterator", data := .fields #[.ref l, .int 0 0] }
      exact absurd (show (s.heap.push { cls := .type "list_iterator", data := .fields #[.ref l, .int 0 0] }).objs.size < s.heap.objs.size from lt) (by omega)
end
def cntB (bs : List Bool) : Int := preSum (fun j => if bs.getD j false = true then 1 else 0) bs.length
def rSumB (K : PySem.W.Frag) : List V → Hp → VK → Prop := fun vs H Q => ∃ (a : Addr) (bs : List Bool), vs = [V.ref a] ∧ SqL K H a (bs.map V.bl) ∧ Q (.int (cntB bs)) H
theorem cr_sumB {X : Cx} (hc : X.calm = true) : CallR X (.builtin "sum") (rSumB X.K) := by
  intro pins s σ H vs us Q I r h
  obtain ⟨a, bs, rfl, hs, q⟩ := h
  obtain ⟨its, rv, hl, _⟩ := I.list hs
  rw [Vals.ref1 r]
  have e := rv.bls
  subst e
  exact sumB_raw (I.ok.hd hc) hl.isList fun h' tk t' hk => ⟨.int _, H, I.kept hk, ⟨_, rfl⟩, q⟩
/-! ### isinstance of the own errors among each other -/
structure ErrC (K : PySem.W.Frag) (C0 C : Addr) : Prop where
  ex : ∃ cd, PySem.W.clsIn K C = some cd ∧ cd.mro = [.ref C, .ref C0, .type "ValueError", .type "Exception", .type "BaseException", .type "object"] ∧ PySem.W.typeIn K (.ref C) = some (.type "type") ∧ ExcC K C
structure KitTab (K : PySem.W.Frag) (ca : Nat → Addr) (ns : List Nat) : Prop where
  ec : ∀ c ∈ ns, ExcC K (ca c)
  each : ∀ c ∈ ns, ∀ d ∈ ns, PySem.W.kitOne K (.ref (ca c)) (.ref (ca d)) = some (decide (c = d))
  base : ∀ c ∈ ns, PySem.W.kitOne K (.ref (ca c)) (.ref (ca 0)) = some true
  val : ∀ c ∈ ns, PySem.W.kitOne K (.ref (ca c)) (.type "ValueError") = some true
theorem ct_nil {F : Nat → Prop} : ∀ c ∈ ([] : List Nat), F c := fun _ h => by cases h
theorem ct_cons {K : PySem.W.Frag} {ca : Nat → Addr} {n : Nat} {l : List Nat} (h : ErrC K (ca 0) (ca n)) (k : ∀ c ∈ l, ErrC K (ca 0) (ca c)) : ∀ c ∈ n :: l, ErrC K (ca 0) (ca c) := fun c m => by
  rcases List.mem_cons.mp m with rfl | m
  · exact h
  · exact k c m
theorem inj_of {α β : Type} {f : α → β} : ∀ {l : List α}, (l.map f).Nodup → ∀ a ∈ l, ∀ b ∈ l, f a = f b → a = b
  | [], _, _, h, _, _, _ => by cases h
  | x :: l, h, a, ha, b, hb, e => by
    obtain ⟨h1, h2⟩ := List.nodup_cons.mp (show (f x :: l.map f).Nodup from h)
    rcases List.mem_cons.mp ha with e1 | ha2 <;> rcases List.mem_cons.mp hb with e2 | hb2
    · rw [e1, e2]
    · exact absurd (List.mem_map.mpr ⟨b, hb2, by rw [← e, e1]⟩) h1
    · exact absurd (List.mem_map.mpr ⟨a, ha2, by rw [e, e2]⟩) h1
    · exact inj_of h2 a ha2 b hb2 e
theorem kit_tab {K : PySem.W.Frag} {ca : Nat → Addr} {ns : List Nat} (nd : ((0 :: ns).map ca).Nodup) (h0 : ∃ cd, PySem.W.clsIn K (ca 0) = some cd ∧ PySem.W.typeIn K (.ref (ca 0)) = some (.type "type")) (h : ∀ c ∈ ns, ErrC K (ca 0) (ca c)) : KitTab K ca ns := by
  have sub : ∀ (c : Nat) (D : Value), c ∈ ns → PySem.W.subIn K (.ref (ca c)) D = some ([.ref (ca c), .ref (ca 0), .type "ValueError", .type "Exception", .type "BaseException", .type "object"].contains D) := fun c D hc => by
    obtain ⟨⟨cd, h1, h2, h3, _⟩⟩ := h c hc
    show PySem.W.mroIn K (ca c) D = _
    unfold PySem.W.mroIn
    rw [h1, Option.bind_some, h2]
    rfl
  have kc : ∀ (c d : Nat), c ∈ ns → (∃ cd, PySem.W.clsIn K (ca d) = some cd ∧ PySem.W.typeIn K (.ref (ca d)) = some (.type "type")) →
      PySem.W.kitOne K (.ref (ca c)) (.ref (ca d)) = some ([Value.ref (ca c), .ref (ca 0), .type "ValueError", .type "Exception", .type "BaseException", .type "object"].contains (.ref (ca d))) := fun c d hc ⟨cd, h1, h2⟩ => by
    unfold PySem.W.kitOne
    by_cases e : ca c = ca d
    · rw [if_pos (by rw [e]; exact beq_self_eq_true _), e]
      simp
    · rw [if_neg (by simpa using e)]
      show (if ((PySem.W.clsIn K (ca d)).isSome && PySem.W.typeIn K (.ref (ca d)) == some (.type "type")) = true then PySem.W.subIn K (.ref (ca c)) (.ref (ca d)) else none) = _
      rw [h1, h2]
      rw [if_pos (by simp), sub c _ hc]
  refine ⟨fun c hc => ?_, fun c hc d hd => ?_, fun c hc => ?_, fun c hc => ?_⟩
  · obtain ⟨⟨_, _, _, _, e⟩⟩ := h c hc
    exact e
  · obtain ⟨⟨cd, h1, _, h3, _⟩⟩ := h d hd
    rw [kc c d hc ⟨cd, h1, h3⟩]
    have n0 : ca d ≠ ca 0 := fun e => by
      obtain ⟨a, _⟩ := List.nodup_cons.mp (show (ca 0 :: ns.map ca).Nodup from nd)
      exact a (List.mem_map.mpr ⟨d, hd, e⟩)
    congr 1
    by_cases e : c = d
    · subst e
      simp
    · have e2 : ca d ≠ ca c := fun q => e (inj_of (List.nodup_cons.mp (show (ca 0 :: ns.map ca).Nodup from nd)).2 c hc d hd q.symm)
      simp [e, n0, e2]
  · rw [kc c 0 hc h0]
    simp
  · unfold PySem.W.kitOne
    rw [if_neg (by simp)]
    show (if PySem.W.kitMeta "ValueError" = true then PySem.W.subIn K (.ref (ca c)) (.type "ValueError") else none) = _
    rw [if_pos (by decide +kernel), sub c _ hc]
    simp
/-- the numbers of the own errors but their base -/
abbrev ERRS : List Nat := [1, 4, 5, 6, 7, 8, 9, 10, 11, 12, 13, 14, 15, 16, 17, 18, 19, 20, 21]
def ErrO (ca : Nat → Addr) (H : Hp) (a : Addr) : Prop := ∃ c ∈ ERRS, ∃ od, H a = some (exo a (ca c) od) ∧ ∀ d, od = some d → ∃ fs, H d = some (exd d fs)
def ErrT (ca : Nat → Addr) (H : Hp) (t : V) : Prop := ∃ q a, t = .ref q ∧ H q = some (.tup [.ref a, .bl true]) ∧ ErrO ca H a
theorem exo_lst {e C : Addr} {d : Option Addr} {xs : List V} : exo e C d ≠ .lst xs := fun z => by
  have y : HO.ext _ = HO.lst xs := z
  cases y
theorem exd_lst {e : Addr} {fs : List (Str × V)} {xs : List V} : exd e fs ≠ .lst xs := fun z => by
  have y : HO.ext _ = HO.lst xs := z
  cases y
theorem ErrO.same {ca : Nat → Addr} {H H' : Hp} {a : Addr} (h : ErrO ca H a) (s : Same H H') : ErrO ca H' a :=
  let ⟨c, m, od, e, k⟩ := h; ⟨c, m, od, s _ _ e, fun d q => let ⟨fs, z⟩ := k d q; ⟨fs, s _ _ z⟩⟩
theorem ErrO.put {ca : Nat → Addr} {H H' : Hp} {a D : Addr} {xs : List V} (h : ErrO ca H a) (e : H D = some (.lst xs)) (s : Keep D H H') : ErrO ca H' a :=
  let ⟨c, m, od, q, k⟩ := h; ⟨c, m, od, s _ _ q (ne_of q e exo_lst), fun d y => let ⟨fs, z⟩ := k d y; ⟨fs, s _ _ z (ne_of z e exd_lst)⟩⟩
theorem ErrT.same {ca : Nat → Addr} {H H' : Hp} {t : V} (h : ErrT ca H t) (s : Same H H') : ErrT ca H' t :=
  let ⟨q, a, e, h1, h2⟩ := h; ⟨q, a, e, s _ _ h1, h2.same s⟩
theorem ErrT.put {ca : Nat → Addr} {H H' : Hp} {t : V} {D : Addr} {xs : List V} (h : ErrT ca H t) (e : H D = some (.lst xs)) (s : Keep D H H') : ErrT ca H' t :=
  let ⟨q, a, y, h1, h2⟩ := h; ⟨q, a, y, s _ _ h1 (ne_of h1 e fun z => nomatch z), h2.put e s⟩
/-- an error of class c with these fields -/
structure ErrF (ca : Nat → Addr) (H : Hp) (a : Addr) (c : Nat) (d : Addr) (fs : List (Str × V)) : Prop where
  at_ : H a = some (exo a (ca c) (some d))
  dd : H d = some (exd d fs)
theorem ErrF.same {ca : Nat → Addr} {H H' : Hp} {a d : Addr} {c : Nat} {fs : List (Str × V)} (h : ErrF ca H a c d fs) (s : Same H H') : ErrF ca H' a c d fs := ⟨s _ _ h.at_, s _ _ h.dd⟩
theorem ErrF.put {ca : Nat → Addr} {H H' : Hp} {a d D : Addr} {c : Nat} {fs : List (Str × V)} {xs : List V} (h : ErrF ca H a c d fs) (e : H D = some (.lst xs)) (s : Keep D H H') : ErrF ca H' a c d fs := ⟨s _ _ h.at_ (ne_of h.at_ e exo_lst), s _ _ h.dd (ne_of h.dd e exd_lst)⟩
theorem ErrF.o {ca : Nat → Addr} {H : Hp} {a d : Addr} {c : Nat} {fs : List (Str × V)} (h : ErrF ca H a c d fs) (m : c ∈ ERRS := by decide) : ErrO ca H a := ⟨c, m, some d, h.at_, fun _ q => by cases q; exact ⟨fs, h.dd⟩⟩
theorem eqLF {K : PySem.W.Frag} {H : Hp} {p q : Addr} {vs : List V} {Q : VK} (hp : H p = some (.lst vs)) (hq : H q = some (.lst vs)) (h : vs.all fdB = true) (k : Q (.bl true) H) : rEqD K (.ref p) (.ref q) H Q := by
  obtain ⟨c, s⟩ := fd_tup (K := K) (H := H) h
  have d := (fd_all (K := K) (H := H) h).1
  have c' : (PyData.list (vs.map dat)).canLay0 = true := c
  have s' : SeqAt.shaped (PyData.list (vs.map dat)) = true := s
  refine ⟨_, _, .lst (SqL.of hp) d, .lst (SqL.of hq) d, s', s', ?_⟩
  rw [SeqAt.eqv_refl _ c']
  exact k
end Lo

set_option Elab.async false
set_option linter.all false
set_option maxRecDepth 100000
set_option maxHeartbeats 4000000
namespace Lo
open PySem PySem.Spec PyProof.Rows L2
/-! ### several clauses, each with a name -/
def wAll (K : PySem.W.Frag) (out : WX) (D : Ends) : List (Value × Nat × (Addr → Value → Option Addr → TS)) → WX
  | [] => out
  | (c, i, ts) :: r => fun cls d τ G => ∃ b, PySem.W.exmOne K cls c = some b ∧
      (b = true → ∀ a, G a = none → ts a cls d { nx := fun τ' G' => D.nx (τ'.set i none) G', rt := D.rt, bk := fun τ' G' => D.bk (τ'.set i none) G', ct := fun τ' G' => D.ct (τ'.set i none) G' } (τ.set i (some (.ref a))) G) ∧
      (b = false → wAll K out D r cls d τ G)
inductive Clauses (X : Cx) : List ExceptHandler → List (Value × Nat × (Addr → Value → Option Addr → TS)) → Prop
  | nil : Clauses X [] []
  | cons {x n : Str} {c : Value} {i : Nat} {ts : Addr → Value → Option Addr → TS} {b₀ : Stmt} {suite : List Stmt} {np pp : Pos} {hds : List ExceptHandler} {l : List (Value × Nat × (Addr → Value → Option Addr → TS))} (hi : X.N[i]? = some n) (hl : X.env.kindOf n = some .local) (hc : Names X x c)
      (su : ∀ (a : Addr) (oe : Obj) (cls : Value) (d : Option Addr) (pn : List (Addr × Obj)), L2N.Zn cls d oe → (∃ vs, oe.data = .fields vs) → PSs (X.suite a ((a, oe) :: pn)) (b₀ :: suite) (ts a cls d)) (r : Clauses X hds l) :
      Clauses X (.ExceptHandler (some (.Name x np)) (some n) (b₀ :: suite) pp :: hds) ((c, i, ts) :: l)
theorem ps_try_all {X : Cx} {body : List Stmt} {h₀ : ExceptHandler} {hds : List ExceptHandler} {l : List (Value × Nat × (Addr → Value → Option Addr → TS))} {pos : Pos} {tb : WX → TS} {out : WX} (hs : X.stack = X.env :: X.outer) (hf : X.env.frame = some X.env.locals) (hN : X.N.Nodup) (tk : L2N.Takes X out)
    (hb : ∀ (W : WX) (pn : List (Addr × Obj)) (xe : Value → Shared → Prop), L2N.Takes (X.tr pn xe) W → PassesOwn (model X.prog X.w) X.A X.env xe → PSs (X.tr pn xe) body (tb W)) (hh : Clauses X (h₀ :: hds) l) :
    PS X (.Try body (h₀ :: hds) [] [] pos) (fun D σ H => tb (wAll X.K out D l) D σ H) := by
  constructor
  intro pins s σ H D I h
  have ok := I.ok
  have frs' : X.A.frames = some (X.env :: X.outer) := by rw [ok.frames, hs]
  apply wpAny_Try_except
  have run := (hb (wAll X.K out D l) (X.pn ++ pins) (fun e t1 => wpAny (model X.prog X.w) X.A (noteFrame e X.env) (fun _ t2 => wpAny (model X.prog X.w) X.A (setFlight e none)
    (fun _ t3 => wpAny (model X.prog X.w) X.A (handleBy e X.env (h₀ :: hds)) (SP X pins D) X.xe t3) X.xe t2) X.xe t1) ?_ PassesOwn.looking).run [] s σ H D (I.toTry _) h
  · refine wpAny_mono run (fun f t hsp => ?_) (fun e t he => he)
    cases f with
    | next =>
      obtain ⟨τ, G, J, q⟩ := hsp
      exact wpAny_execs_nil ⟨τ, G, J.ofTry ok, q⟩
    | brk =>
      obtain ⟨τ, G, J, q⟩ := hsp
      exact ⟨τ, G, J.ofTry ok, q⟩
    | cont =>
      obtain ⟨τ, G, J, q⟩ := hsp
      exact ⟨τ, G, J.ofTry ok, q⟩
    | ret u =>
      obtain ⟨v, τ, G, J, r, q⟩ := hsp
      exact ⟨v, τ, G, J.ofTry ok, r, q⟩
  · intro u t xx
    obtain ⟨a, B, sI, pins2, τ, G, cls, d, rfl, J0, nb, up, sky, na, os, ag, w⟩ := xx
    have J : Inv X pins τ G sI := J0.ofTry ok
    rw [← show X.stack = X.env :: X.outer from hs] at frs'
    have sky2 : Sky B X.stack a (L2N.Zn cls d) X.env.locals t.heap := sky
    rw [hs] at frs' sky2
    show wpAny (model X.prog X.w) X.A (noteFrame (.ref a) X.env) _ _ _
    refine L2N.Sky.land L2N.Zn.steady frs' hf sky2 fun h3 fl up3 => ?_
    have J3 : Inv X pins τ G { t with heap := h3 } := J.landed nb fl.1 (up.trans up3) os ag
    obtain ⟨oe3, vs3, at3, z3, d3⟩ := fl.there
    have off : a ∉ frs (X.env :: X.outer) := fun m => by
      obtain ⟨_, o, e, no⟩ := fl.2.2.1.mem m
      rw [at3] at e
      cases e
      exact no _ d3
    have offL : a ≠ X.env.locals := fun z => off (List.mem_filterMap.mpr ⟨X.env, List.mem_cons_self, by rw [hf, z]⟩)
    have offF : a ∉ X.fs := fun m => by
      obtain ⟨e, he, q⟩ := List.mem_filterMap.mp m
      exact off (List.mem_filterMap.mpr ⟨e, List.mem_cons_of_mem _ he, q⟩)
    have S3 := J3.suite at3 d3 na offL offF
    have go : ∀ {hs2 : List ExceptHandler} {l2 : List (Value × Nat × (Addr → Value → Option Addr → TS))}, Clauses X hs2 l2 → wAll X.K out D l2 cls d τ G →
        wpAny (model X.prog X.w) X.A (handleBy (.ref a) X.env hs2) (SP X pins D) X.xe { t with heap := h3 } := by
      intro hs2 l2 cl
      induction cl with
      | nil =>
        intro w
        apply wpAny_handleBy_nil
        obtain ⟨k1, k2, k3, oe, vs, T, oT, ts2, he, hz, hd, h1, hr⟩ := id fl
        unfold PySem.passOn
        apply wpAny_bind
        apply wpAny_field he hd h1
        rw [if_neg (show ¬ ((Value.ref T == Value.none) = true) by simp)]
        have fin : wpAny (model X.prog X.w) X.A (setFlight (.ref a) X.env.frame) (fun _ t4 => wpAny (model X.prog X.w) X.A (throw (.ref a) : Sem Flow) (SP X pins D) X.xe t4) X.xe { t with heap := h3 } := by
          rw [hf]
          exact HandSPX.setFlight_upZ fl fun h4 hh4 up4 => wpAny_throw (tk _ _ ⟨a, B, sI, pins, τ, G, cls, d, rfl, J, nb, (up.trans up3).trans up4, .inr (.inr (by rw [hs]; exact hh4)), na, os, ag, w⟩)
        first
          | exact wpAny_bind (wpAny_pure (wpAny_bind fin))
          | exact wpAny_bind fin
      | @cons x n c i ts b₀ suite np pp hds2 l3 hi hl hc su r ih =>
        intro w
        obtain ⟨b, eb, yes, no⟩ := w
        apply wpAny_handleBy_cons (codeAny_handlers_test ?_) (by intro q; cases q)
        have look : PySem.W.Looks (model X.prog X.w) h3 (typeOf (.ref a)) cls := fun A Q E s k q => wpAny_typeOf_ref (k _ _ at3) (by rw [z3.1]; exact q)
        have test : ∀ {Q : Value → Shared → Prop} {E : Value → Shared → Prop}, Q c { t with heap := h3 } → wpAny (model X.prog X.w) (X.A.mark (some (.ref a))) (eval (.Name x np) X.env) Q E { t with heap := h3 } := fun {Q E} q => by
          rcases hc with ⟨hg, hdbg, hm | ⟨hm, hv, hnn⟩⟩
          · exact ld_glob (X := X.suite a ((a, oe3) :: (X.pn ++ pins))) S3 hg hm q hdbg
          · exact ld_blt (X := X.suite a ((a, oe3) :: (X.pn ++ pins))) S3 hg hm hv q hnn hdbg
        apply test
        apply (PySem.W.exm_one (M := model X.prog X.w) J3.kIn look eb).here
        cases b with
        | true =>
          apply codeAny_handlers_suite_as
          refine HandSPX.lands_againZ fl fun h4 fl4 up4 => ?_
          have J4 : Inv X pins τ G { t with heap := h4 } := J.landed nb fl4.1 ((up.trans up3).trans up4) os ag
          obtain ⟨oe4, vs4, at4, z4, d4⟩ := fl4.there
          refine store_ok (X := X.suite a ((a, oe4) :: (X.pn ++ pins))) (v := .ref a) (J4.suite at4 d4 na offL offF) hN hi (.inl hl) rfl (fun t5 S5 => ?_) (.inr hl)
          refine wpAny_mono ((su a oe4 cls d (X.pn ++ pins) z4 ⟨_, d4⟩).run [] t5 _ G _ S5 (yes rfl a na)) (fun f t6 hsp => ?_) (fun _ _ z => z.elim)
          cases f with
          | next =>
            obtain ⟨τ6, G6, S6, q6⟩ := hsp
            exact gone_ok (S6.unsuite ok) hN hi hl fun t7 J7 => ⟨_, _, J7, q6⟩
          | brk =>
            obtain ⟨τ6, G6, S6, q6⟩ := hsp
            exact gone_ok (S6.unsuite ok) hN hi hl fun t7 J7 => ⟨_, _, J7, q6⟩
          | cont =>
            obtain ⟨τ6, G6, S6, q6⟩ := hsp
            exact gone_ok (S6.unsuite ok) hN hi hl fun t7 J7 => ⟨_, _, J7, q6⟩
          | ret u =>
            obtain ⟨v6, τ6, G6, S6, r6, q6⟩ := hsp
            exact gone_ok (S6.unsuite ok) hN hi hl fun t7 J7 => ⟨_, _, _, J7, r6, q6⟩
        | false => exact ih (no rfl)
    exact go hh w
/-! ### min of a list of texts -/
theorem best_min (f : Nat → Str) : ∀ k, argBest (fun i j => decide ((f i).cps.toList < (f j).cps.toList)) k ≤ k ∧ ∀ j, j ≤ k → ¬ (f j).cps.toList < (f (argBest (fun i j => decide ((f i).cps.toList < (f j).cps.toList)) k)).cps.toList
  | 0 => ⟨Nat.le_refl _, fun j hj => by
    obtain rfl : j = 0 := by omega
    exact List.lt_irrefl _⟩
  | k + 1 => by
    obtain ⟨h1, h2⟩ := best_min f k
    unfold argBest
    by_cases c : (f (k + 1)).cps.toList < (f (argBest (fun i j => decide ((f i).cps.toList < (f j).cps.toList)) k)).cps.toList
    · rw [if_pos (decide_eq_true c)]
      refine ⟨Nat.le_refl _, fun j hj z => ?_⟩
      rcases Nat.lt_or_ge k j with q | q
      · obtain rfl : j = k + 1 := by omega
        exact List.lt_irrefl _ z
      · exact h2 j q (List.lt_trans z c)
    · rw [if_neg (by simpa using c)]
      refine ⟨Nat.le_succ_of_le h1, fun j hj => ?_⟩
      rcases Nat.lt_or_ge k j with q | q
      · obtain rfl : j = k + 1 := by omega
        exact c
      · exact h2 j q
def rMinS (K : PySem.W.Frag) : List V → Hp → VK → Prop := fun vs H Q => ∃ (a : Addr) (zs : List Str), vs = [V.ref a] ∧ SqL K H a (zs.map V.str) ∧ zs ≠ [] ∧ ∀ z, z ∈ zs → (∀ y ∈ zs, ¬ y.cps.toList < z.cps.toList) → Q (.str z) H
theorem strs_at2 : ∀ {us : List Value} {zs : List Str} {i : Nat} {v : Value}, PyProof.Rows.StrsAre us zs → us[i]? = some v → ∃ t, v = Value.str (zs.getD i Str.empty) t
  | _, _, 0, v, .cons x k t, h => by
    simp at h
    exact ⟨k, by rw [← h]; rfl⟩
  | _, _, i + 1, v, .cons x k t, h => by
    obtain ⟨q, e⟩ := strs_at2 (i := i) t (by simpa using h)
    exact ⟨q, by rw [e]; rfl⟩
theorem cr_minS {X : Cx} (hc : X.calm = true) : CallR X (.builtin "min") (rMinS X.K) := by
  intro pins s σ H vs us Q I r h
  obtain ⟨a, zs, rfl, hs, hne, q⟩ := h
  obtain ⟨its, rv, hl, _⟩ := I.list hs
  rw [Vals.ref1 r]
  have hst := rv.strs
  have hh := I.ok.hd hc
  have len : its.length = zs.length := by have := rv.length; rw [List.length_map] at this; exact this.symm
  have pos : 0 < zs.length := List.length_pos_iff.mpr hne
  have hl := hl.isList
  have hlt : a < s.heap.objs.size := by obtain ⟨_, e, _⟩ := hl; exact Heap.lt_size e
  have hn : a ≠ s.heap.objs.size := Nat.ne_of_lt hlt
  apply call_min_walk
  apply wpAny_pyIter_list hl
  refine ⟨_, _, _, _, _, _, fun i j => decide ((zs.getD i Str.empty).cps.toList < (zs.getD j Str.empty).cps.toList), rfl, Walks.list (A := X.A.in1) hh s.heap.objs.size a hn its.toArray, ⟨⟨_, Heap.get?_push_size _ rfl, rfl, rfl⟩, hl.push _⟩, fun b hb => ?_, by simp [len]; exact pos, ?_, fun v h' tk hP hk => ?_⟩
  · show b < (s.heap.push _).objs.size
    rw [Heap.size_push]
    simp only [List.mem_cons, List.not_mem_nil, or_false] at hb
    rcases hb with rfl | rfl
    · exact Nat.lt_succ_self _
    · exact Nat.lt_succ_of_lt hlt
  · intro i j vi vj s2 Q2 E2 hi hj hQ
    obtain ⟨t, rfl⟩ := strs_at2 hst (by simpa using hi)
    obtain ⟨u, rfl⟩ := strs_at2 hst (by simpa using hj)
    exact PyProof.Rows.lt_str hQ
  · obtain ⟨b1, b2⟩ := best_min (fun i => zs.getD i Str.empty) (zs.length - 1)
    rw [show its.toArray.size - 1 = zs.length - 1 by rw [List.size_toArray, len]] at hP
    generalize argBest (fun i j => decide ((zs.getD i Str.empty).cps.toList < (zs.getD j Str.empty).cps.toList)) (zs.length - 1) = m at *
    obtain ⟨t, rfl⟩ := strs_at2 hst (by simpa using hP)
    have hm : m < zs.length := by omega
    have e : zs.getD m Str.empty = zs[m] := by simp [List.getD_eq_getElem?_getD, hm]
    refine ⟨.str (zs.getD m Str.empty), H, I.kept (t' := tk) fun b o ho => hk b o (fun z => ?_) (Heap.get?_push_of_some _ ho), ⟨t, rfl⟩, q _ (by rw [e]; exact List.getElem_mem hm) fun y my => ?_⟩
    · simp only [List.mem_cons, List.not_mem_nil, or_false] at z
      exact absurd (Heap.lt_size ho) (by rw [z]; exact Nat.lt_irrefl _)
    · obtain ⟨j, hj, rfl⟩ := List.mem_iff_getElem.mp my
      have := b2 j (by omega)
      simpa [List.getD_eq_getElem?_getD, hj] using this
/-! ### a class method called within a try -/
def tClsS (C : Addr) (sp : Sp) (E : L2.St → XK) (ta : TE) (t : TA) : TE := fun σ H Q => ta σ H fun x H1 => x = .ref C ∧ t σ H1 fun vs H2 => sp (.ref C :: vs) H2 Q (E σ)
theorem pe_owncS {X : Cx} {k : Nat} {C : Addr} {m : Str} {ps : List Str} {sp : Sp} {E : L2.St → XK} {pos apos : Pos} {e o : Expr} {es : List Expr} {ta : TE} {t : TA} {pl : Sem Bool} (O : OwnC X.prog X.w X.K X.mg X.base k C m ps sp) (he : PE X o ta) (hr : Room k X.A)
    (hx : ∀ σ, PassesAt (L2N.CX X.prog X.w) X σ (E σ)) (ha : PA X (e :: es) t)
    (hst : starEach (e :: es) X.env = (false, eval e X.env) :: starEach es X.env := by rfl) (hpl : (backTo pos (starEach es X.env)).any (·.1) = false := by rfl)
    (ht : eval (.Call (.Attribute o m apos) (e :: es) [] pos) X.env = (do
        let ov ← eval o X.env
        standAt apos.atName
        let (g, first) ← holding [ov] (getMethod ov m pl)
        callWith pos g first (backTo pos (starEach (e :: es) X.env)) (backToKw pos (keywordEach [] X.env))) := by rfl) :
    PE X (.Call (.Attribute o m apos) (e :: es) [] pos) (tClsS C sp E ta t) := by
  obtain ⟨f, fd, q, mc, F, r, c, hb⟩ := O.ex
  constructor
  intro pins s σ H Q I h
  apply PySem.W.methodCall_KW (pl := pl) ?_ ht
  apply thn (he.run pins s σ H _ I h)
  rintro u s1 ⟨x, H1, I1, rx, ex, q1⟩
  subst ex
  obtain rfl : u = Value.ref C := rx
  refine ClX.getmethcm_ok I1 r c fun s2 I2 => ?_
  refine ClX.callwith_cm I2 (ClX.base_none I1 (Nat.le_refl _)) c.fi (thn (ha.run pos _ s2 σ H1 _ I2 q1) ?_) hst hpl
  rintro us s3 ⟨vs, H2, I3, rv, q2⟩
  refine ⟨⟨ClX.pin_at I3, I3.kIn⟩, ?_⟩
  have r2 : Vals (V.ref C :: vs) (Value.ref C :: us) := .cons rfl rv
  have len : (Value.ref C :: us ++ []).length = ps.length := by
    have e := r2.length
    rw [F.len _ _ _ _ q2] at e
    rw [List.append_nil]
    exact e.symm
  have bt := hb s3 (Value.ref C :: us) I3.kIn len
  rw [List.append_nil] at bt
  have run := F.run X.A X.stack s3 H2 ⟨Value.ref C :: us, []⟩ (Value.ref C :: us) (V.ref C :: vs) Q (E σ) hr I3.env0 bt r2 q2
  refine thn (Q := EP X ((s1.heap.objs.size, PySem.W.methodObj (.ref f) (.ref C)) :: pins) σ Q) (wpAny_call (PySem.W.method_call (ClX.pin_at I3) (codeAny_mono run ?_))) fun _ _ y => ClX.unpinE y
  rintro (e | fl) s' hq
  · exact hx σ _ _ _ e s' I3 hq
  · cases fl with
    | ret u => exact I3.after hq
    | next => exact hq.elim
    | brk => exact hq.elim
    | cont => exact hq.elim
theorem neLF {K : PySem.W.Frag} {H : Hp} {p q : Addr} {vs : List V} {Q : VK} (hp : H p = some (.lst vs)) (hq : H q = some (.lst vs)) (h : vs.all fdB = true) (k : Q (.bl false) H) : rNeD K (.ref p) (.ref q) H Q := by
  obtain ⟨c, s⟩ := fd_tup (K := K) (H := H) h
  have d := (fd_all (K := K) (H := H) h).1
  have c' : (PyData.list (vs.map dat)).canLay0 = true := c
  have s' : SeqAt.shaped (PyData.list (vs.map dat)) = true := s
  refine ⟨_, _, .lst (SqL.of hp) d, .lst (SqL.of hq) d, s', s', ?_⟩
  rw [SeqAt.eqv_refl _ c']
  exact k
end Lo

set_option Elab.async false
set_option linter.all false
set_option maxRecDepth 100000
set_option maxHeartbeats 4000000
namespace Lo
open PySem PySem.Spec PyProof.Rows L2
/-! ### slices -/
theorem cut_from {xs : List V} {k : Nat} : cutV xs (some (k : Int)) none = xs.drop k := by
  unfold cutV
  rw [HT.sIx_nat, HT.sIx_none]
  by_cases h : k ≤ xs.length
  · rw [Nat.min_eq_left h, ← List.length_drop, List.take_length]
  · rw [Nat.min_eq_right (by omega), Nat.sub_self, List.take_zero, List.drop_eq_nil_of_le (by omega)]
theorem cut_to {xs : List V} {k : Nat} : cutV xs none (some (k : Int)) = xs.take k := by
  unfold cutV
  rw [HT.sIx_nat, HT.sIx_none, List.drop_zero, Nat.sub_zero]
  by_cases h : k ≤ xs.length
  · rw [Nat.min_eq_left h]
  · rw [Nat.min_eq_right (by omega), List.take_length, List.take_of_length_le (by omega)]
/-! ### dicts -/
theorem valV_drop {κ : Type} [DecidableEq κ] : ∀ {kvs : List (κ × V)} {k j : κ}, valV (dropK kvs k) j = if j = k then none else valV kvs j
  | [], k, j => by
    show valV ([] : List (κ × V)) j = _
    rw [valV_nil]
    split <;> rfl
  | (i, v) :: r, k, j => by
    have ih := valV_drop (kvs := r) (k := k) (j := j)
    by_cases c : i = k
    · rw [dropK_pos c, ih]
      by_cases q : j = k
      · rw [if_pos q, if_pos q]
      · rw [if_neg q, if_neg q]
        have n : ¬ i = j := fun e => q (by rw [← e, c])
        unfold valV
        simp [n]
    · rw [dropK_neg c]
      by_cases e : i = j
      · subst e
        rw [if_neg c]
        unfold valV
        simp
      · have a : valV ((i, v) :: dropK r k) j = valV (dropK r k) j := by unfold valV; simp [e]
        have b : valV ((i, v) :: r) j = valV r j := by unfold valV; simp [e]
        rw [a, b, ih]
/-- texts == [] -/
theorem eq_nilS {K : PySem.W.Frag} {H : Hp} {p q : Addr} {zs : List Str} {Q : VK} (hp : H p = some (.lst (zs.map V.str))) (hq : H q = some (.lst [])) (h : ∀ z ∈ zs, Lets z) (k : Q (.bl (decide (zs = []))) H) : rEqD K (.ref p) (.ref q) H Q := by
  obtain ⟨a, b⟩ := strs_lay h
  have c : (PyData.list (zs.map .str)).canLay0 = true := a
  have s : SeqAt.shaped (PyData.list (zs.map .str)) = true := by
    unfold SeqAt.shaped
    rw [c, Bool.true_and]
    refine decide_eq_true ?_
    show PyData.depthAll (zs.map .str) + 1 ≤ 64
    rw [b]
    decide
  refine ⟨_, _, .lst (SqL.of hp) strs_dp, .lst (SqL.of hq) .nil, s, by rfl, ?_⟩
  have e : PyData.eqv (.list (zs.map .str)) (.list []) = decide (zs = []) := by
    cases zs with
    | nil => rfl
    | cons z r => rfl
  rw [e]
  exact k
/-! ### fractions in order -/
def leQ (x y : Int × Int) : Prop := x.1 * y.2 ≤ y.1 * x.2
theorem nrm_lt {a b : Int} (h : 0 < b) : (nrm a b).1 < 0 ↔ a < 0 := by
  have c := nrm_cross (a := a) (b := b)
  have r := (nrm_red (a := a) (b := b) (by omega)).pos
  constructor
  · intro n
    have : (nrm a b).1 * b < 0 := Int.mul_neg_of_neg_of_pos n h
    rw [c] at this
    exact Int.not_le.mp fun q => absurd (Int.mul_nonneg q (Int.le_of_lt r)) (by omega)
  · intro n
    have : a * (nrm a b).2 < 0 := Int.mul_neg_of_neg_of_pos n r
    rw [← c] at this
    exact Int.not_le.mp fun q => absurd (Int.mul_nonneg q (Int.le_of_lt h)) (by omega)
theorem sub_lt {x y : Int × Int} (h : Red x.1 x.2) (k : Red y.1 y.2) : (addP x (mulP y (-1, 1))).1 < 0 ↔ ¬ leQ y x := by
  rw [mulP_neg k]
  unfold addP leQ
  rw [nrm_lt (Int.mul_pos h.pos k.pos)]
  show x.1 * y.2 + -y.1 * x.2 < 0 ↔ _
  rw [Int.neg_mul]
  omega
/-! ### a text in a list of texts -/
theorem inV_strs {z : Str} {ys : List Str} : inV (.str z) (ys.map V.str) = decide (z ∈ ys) := by
  unfold inV
  rw [List.any_map]
  rw [Bool.eq_iff_iff, List.any_eq_true, decide_eq_true_iff]
  constructor
  · rintro ⟨y, m, e⟩
    have e : (y == z) = true := e
    rw [beq_iff_eq] at e
    rw [← e]
    exact m
  · intro m
    exact ⟨z, m, show (z == z) = true from beq_self_eq_true z⟩
theorem flat_strs {ys : List Str} : (ys.map V.str).all flatV = true := by
  rw [List.all_map]
  exact List.all_eq_true.mpr fun _ _ => rfl
end Lo

set_option Elab.async false
set_option linter.all false
set_option maxRecDepth 100000
set_option maxHeartbeats 4000000
namespace Lo
open PySem PySem.Spec PyProof.Rows L2 L2H
/-! ### within an except suite: a list's iterator comes to its end -/
theorem list_end_hot {prog : Program} {w : World} {A : Around} {E : Value → Shared → Prop} {s : Shared} {it l x1 : Addr} {i : Nat} {items : Array Value} {Q : Option Value → Shared → Prop} (hot : HotX.HotAt A x1 s.heap) (ne : x1 ≠ it)
    (hit : s.heap.IsListIter it l i) (hl : s.heap.IsList l items) (over : items[i]? = none) (q : ∀ h', Heap.ExtBut it s.heap h' → Q none { s with heap := h' }) : wpAny (model prog w) A (pyNext (.ref it)) Q E s := by
  have ⟨handled, o1, vs1, e1, d1, c1⟩ := hot
  have ⟨o, ho, _, hd⟩ := hit
  have ⟨ol, hol, _, _, hdl⟩ := hl
  unfold pyNext
  apply wpAny_bind
  apply wpAny_attempt
  apply wpAny_callSpecial?_slot (name := Str.ofString "__next__") hit.typeIs slot_listiter_next
  apply wpAny_call_entry slot_listiter_next hit.typeIs entry_listiter_next ?_ (args_listiter_next _)
  show wpAny _ _ (field (.ref it) 0 >>= _) _ _ s
  apply wpAny_bind
  apply wpAny_field ho hd (x := .ref l) rfl
  show wpAny _ _ (if (Value.ref l == Value.none) = true then _ else _) _ _ s
  rw [if_neg (show ¬ ((Value.ref l == Value.none) = true) by exact Bool.false_ne_true)]
  show wpAny _ _ (field (.ref it) 1 >>= _) _ _ s
  apply wpAny_bind
  apply wpAny_field ho hd (x := .int i 0) rfl
  show wpAny _ _ (seqItems? (.ref l) >>= _) _ _ s
  apply wpAny_bind
  apply wpAny_seqItems hol hdl
  simp only [Int.toNat_natCast, over]
  apply wpAny_bind
  apply wpAny_rule
  apply wpAny_bind
  apply wpAny_setField ho hd (by simp)
  show wpAny _ _ (newExc (.type "StopIteration") [] >>= _) _ _ _
  apply wpAny_bind
  simp only [newExc, newTuple]
  apply wpAny_bind
  refine wpAny_newObj_type ?_ (by size_fits)
  refine wpAny_bind (m := firstArgMember _ _) (wpAny_of_eq (a := Value.none) (by first | rfl | (simp only [firstArgMember]; rfl)) ?_)
  refine wpAny_newObj_type ?_ (by size_fits)
  have e2 := (Heap.get?_update_other s.heap (Obj.mapFields (·.setIfInBounds 0 Value.none)) (Ne.symm ne)).trans e1
  refine HotX.raiseNew_hot ⟨handled, o1, vs1, Heap.get?_push_of_some _ (Heap.get?_push_of_some _ e2), d1, c1⟩ (Nat.ne_of_lt (Heap.lt_size (Heap.get?_push_of_some _ e2))) (Heap.get?_push_size _ rfl) rfl (by first | (simp; done) | (simp; omega) | (simp only [Array.size_append]; simp; omega)) ?_
  refine wpAny_bind (wpAny_isInstance (T := "StopIteration") (b := true) ⟨_, Heap.get?_update_self _ (Heap.get?_push_size _ rfl) rfl, rfl⟩ isSubtype_stop ?_)
  refine wpAny_pure (q _ fun b o2 nb eb => ?_)
  have e3 := (Heap.get?_update_other s.heap (Obj.mapFields (·.setIfInBounds 0 Value.none)) (Ne.symm nb)).trans eb
  rw [Heap.get?_update_other _ _ (Nat.ne_of_gt (Heap.lt_size (Heap.get?_push_of_some _ e3)))]
  exact Heap.get?_push_of_some _ (Heap.get?_push_of_some _ e3)
/-- the walk over a list while x1's exception is handled -/
theorem walk_hot {prog : Program} {w : World} {A : Around} {x1 : Addr} (handled : A.handled = some (.ref x1)) (I l : Addr) (nl : l ≠ I) (nx : x1 ≠ I) (items : Array Value) :
    Walks prog w A I [I, l, x1] [I] items.size (fun i v => items[i]? = some v) (fun i h => h.IsListIter I l i ∧ h.IsList l items ∧ HotX.HotAt A x1 h) where
  sub := fun b hb => by simp at hb; simp [hb]
  frame := fun _ _ _ ⟨a, b, c, o, vs, e, d, n⟩ k => ⟨a.at fun u z => k I (by simp) u z, b.at fun u z => k l (by simp) u z, c, o, vs, k x1 (by simp) o e, d, n⟩
  item := fun i s Q E lt ⟨a, b, c, o, vs, e, d, n⟩ q => by
    refine wpAny_pyNext_list_item a b (x := items[i]) (by simp [lt]) fun h' a' sb => ?_
    exact q _ h' s.toks (by simp [lt]) ⟨a', b.extBut sb.extBut nl, c, o, vs, sb.extBut x1 o nx e, d, n⟩ fun y u ny z => sb.extBut y u (fun g => ny (by simp [g])) z
  done := fun s Q E ⟨a, b, c⟩ q => list_end_hot c nx a b (by simp) fun h' eb => q h' s.toks fun y u ny z => eb y u (fun g => ny (by simp [g])) z
  self := fun _ _ _ _ st q => wpAny_pyIter_listiter st.1 q
/-! ### min of texts within an except suite -/
theorem cr_minH {X : Cx} (hc : HotC X) : CallR X (.builtin "min") (rMinS X.K) := by
  intro pins s σ H vs us Q I r h
  obtain ⟨a, zs, rfl, hs, hne, q⟩ := h
  obtain ⟨its, rv, hl, _⟩ := I.list hs
  rw [Vals.ref1 r]
  have hst := rv.strs
  obtain ⟨x1, hot⟩ := hc.at I
  obtain ⟨handled, o1, vs1, e1, d1, c1⟩ := hot
  have len : its.length = zs.length := by have := rv.length; rw [List.length_map] at this; exact this.symm
  have pos : 0 < zs.length := List.length_pos_iff.mpr hne
  have hl := hl.isList
  have hlt : a < s.heap.objs.size := by obtain ⟨_, e, _⟩ := hl; exact Heap.lt_size e
  have x1lt : x1 < s.heap.objs.size := Heap.lt_size e1
  have hn : a ≠ s.heap.objs.size := Nat.ne_of_lt hlt
  apply call_min_walk
  apply wpAny_pyIter_list hl
  refine ⟨_, _, _, _, _, _, fun i j => decide ((zs.getD i Str.empty).cps.toList < (zs.getD j Str.empty).cps.toList), rfl, walk_hot (A := X.A.in1) handled s.heap.objs.size a hn (Nat.ne_of_lt x1lt) its.toArray,
    ⟨⟨_, Heap.get?_push_size _ rfl, rfl, rfl⟩, hl.push _, handled, o1, vs1, Heap.get?_push_of_some _ e1, d1, c1⟩, fun b hb => ?_, by simp [len]; exact pos, ?_, fun v h' tk hP hk => ?_⟩
  · show b < (s.heap.push _).objs.size
    rw [Heap.size_push]
    simp only [List.mem_cons, List.not_mem_nil, or_false] at hb
    rcases hb with rfl | rfl | rfl
    · exact Nat.lt_succ_self _
    · exact Nat.lt_succ_of_lt hlt
    · exact Nat.lt_succ_of_lt x1lt
  · intro i j vi vj s2 Q2 E2 hi hj hQ
    obtain ⟨t, rfl⟩ := strs_at2 hst (by simpa using hi)
    obtain ⟨u, rfl⟩ := strs_at2 hst (by simpa using hj)
    exact PyProof.Rows.lt_str hQ
  · obtain ⟨b1, b2⟩ := best_min (fun i => zs.getD i Str.empty) (zs.length - 1)
    rw [show its.toArray.size - 1 = zs.length - 1 by rw [List.size_toArray, len]] at hP
    generalize argBest (fun i j => decide ((zs.getD i Str.empty).cps.toList < (zs.getD j Str.empty).cps.toList)) (zs.length - 1) = m at *
    obtain ⟨t, rfl⟩ := strs_at2 hst (by simpa using hP)
    have hm : m < zs.length := by omega
    have e : zs.getD m Str.empty = zs[m] := by simp [List.getD_eq_getElem?_getD, hm]
    refine ⟨.str (zs.getD m Str.empty), H, I.kept (t' := tk) fun b o ho => hk b o (fun z => ?_) (Heap.get?_push_of_some _ ho), ⟨t, rfl⟩, q _ (by rw [e]; exact List.getElem_mem hm) fun y my => ?_⟩
    · simp only [List.mem_cons, List.not_mem_nil, or_false] at z
      exact absurd (Heap.lt_size ho) (by rw [z]; exact Nat.lt_irrefl _)
    · obtain ⟨j, hj, rfl⟩ := List.mem_iff_getElem.mp my
      have := b2 j (by omega)
      simpa [List.getD_eq_getElem?_getD, hj] using this
/-! ### [str(x) for x in a list of texts] within an except suite -/
def tStrs (K : PySem.W.Frag) (ti : TE) : TE := fun σ H Q => ti σ H fun v H1 => ∃ (a : Addr) (zs : List Str), v = .ref a ∧ SqL K H1 a (zs.map V.str) ∧ zs.length ≤ 1000 ∧ ∀ D, H1 D = none → Q (.ref D) (upd H1 D (.lst (zs.map V.str)))
theorem vals_strs : ∀ {us : List Value} {zs : List Str}, us.length = zs.length → (∀ j, j < zs.length → ∃ t, us[j]? = some (Value.str (zs.getD j Str.empty) t)) → Vals (zs.map V.str) us
  | [], [], _, _ => .nil
  | u :: us, z :: zs, l, h => by
    obtain ⟨t, e⟩ := h 0 (by simp)
    obtain rfl : u = Value.str z t := by simpa using e
    exact .cons ⟨t, rfl⟩ (vals_strs (by simpa using l) fun j hj => by
      obtain ⟨t, e⟩ := h (j + 1) (by simpa using hj)
      exact ⟨t, by simpa using e⟩)
  | [], _ :: _, l, _ => by simp at l
  | _ :: _, [], l, _ => by simp at l
theorem pair_at {F : Value → Value → Prop} : ∀ {xs ys : List Value}, Paired F xs ys → ∀ (j : Nat) (x : Value), xs[j]? = some x → ∃ y, ys[j]? = some y ∧ F x y
  | _, _, .cons h t, 0, x, e => ⟨_, rfl, by simp at e; exact e ▸ h⟩
  | _, _, .cons h t, j + 1, x, e => by
    obtain ⟨y, a, b⟩ := pair_at t j x (by simpa using e)
    exact ⟨y, by simpa using a, b⟩
theorem pe_strsH {X : Cx} {K : PySem.W.Frag} (hK : X.K = K) (hc : HotC X) {x : Str} {iter : Expr} {scope : Scope} {px p1 p2 p3 pos : Pos} {ti : TE} (free : ∀ y ∈ scope.names, y.2 ≠ .free) (cell : ∀ y ∈ scope.names, y.2 ≠ .cell) (kind : scope.kind = .function)
    (names : ∀ y ∈ scope.names, y.2 = .local → scope.names.lookup y.1 = some .local) (lx : scope.names.lookup x = some .local) (gs : ∀ C, (compEnv scope C X.env).kindOf "str" = some .globalImplicit) (ls : ∀ C, (compEnv scope C X.env).kindOf x = some .local)
    (hm : X.mg "str" = none) (he : PE X iter ti) (dbx : (x == ("__debug__" : Str)) = false := by decide) (hs : ∀ v, foldedSetIterable iter X.env v = pure v := by intro _; rfl) :
    PE X (.ListComp (.Call (.Name "str" p1) [.Name x p2] [] p3) [⟨.Name x px, iter, [], 0⟩] scope pos) (tStrs K ti) := by
  subst hK
  constructor
  intro pins s σ H Q I h
  apply wpAny_ListComp_walk (fun _ => true) (fun v y => ∃ z t, v = Value.str z t ∧ y = Value.str z t) free cell kind names lx ?_ hs
  apply thn (he.run pins s σ H _ I h)
  rintro u s1 ⟨v, H1, I1, r1, a, zs, rfl, sq, small, q⟩
  obtain rfl : u = .ref a := r1
  obtain ⟨its, rv, hl, _⟩ := I1.list sq
  have hl := hl.isList
  have hst := rv.strs
  obtain ⟨x1, handled, o1, vs1, e1, d1, c1⟩ := hc.at I1
  have len : its.length = zs.length := by have := rv.length; rw [List.length_map] at this; exact this.symm
  have hlt : a < s1.heap.objs.size := by obtain ⟨_, e, _⟩ := hl; exact Heap.lt_size e
  have x1lt : x1 < s1.heap.objs.size := Heap.lt_size e1
  have off : ∀ {b : Addr} {o : Obj}, s1.heap.get? b = some o → b ∉ [s1.heap.objs.size] := fun {b o} e m => by
    have z : b = s1.heap.objs.size := by simpa using m
    exact absurd (Heap.lt_size e) (by rw [z]; exact Nat.lt_irrefl _)
  apply wpAny_pyIter_list hl
  refine ⟨_, _, _, _, _, _, rfl, walk_hot handled s1.heap.objs.size a (Nat.ne_of_lt hlt) (Nat.ne_of_lt x1lt) its.toArray, by simp [len, sizeLine_eq]; omega,
    ⟨⟨_, Heap.get?_push_size _ rfl, rfl, rfl⟩, hl.push _, handled, o1, vs1, Heap.get?_push_of_some _ e1, d1, c1⟩, fun b hb => ?_, ⟨?_, ?_⟩, ?_⟩
  · show b < (s1.heap.push _).objs.size
    rw [Heap.size_push]
    simp only [List.mem_cons, List.not_mem_nil, or_false] at hb
    rcases hb with rfl | rfl | rfl
    · exact Nat.lt_succ_self _
    · exact Nat.lt_succ_of_lt hlt
    · exact Nat.lt_succ_of_lt x1lt
  · intro C i v s3 m3 E' _ _ _ _ _
    exact wpAny_pure ⟨rfl, ⟨s3.heap, s3.toks, rfl, fun _ _ e => e⟩⟩
  · intro C i v s3 m3 E' hP _ ns mx keep _
    obtain ⟨t, rfl⟩ := strs_at2 hst (by simpa using hP)
    have bk : X.base.StaysIn s3.heap := fun b o e => keep b o (off (I1.bk b o e)) (Heap.get?_push_of_some _ (I1.bk b o e))
    obtain ⟨mb, h1, h2⟩ := I1.ok.mod.blt
    refine wpAny_Call_Name_kw ?_
    refine Calls.Name_function_global (env := compEnv scope C X.env) kind (gs C) ?_
    apply Calls.loadGlobal_builtin (by show s3.heap.Ns X.env.globals _; rw [I1.ok.glob]; exact I1.ok.mod.glob.keeps bk) hm (by show s3.heap.Ns X.env.builtins _; rw [I1.ok.blt]; exact h1.keeps bk) ((h2 "str" (by decide)).trans PySem.Pv.boot_str)
    refine PyProof.Rows.callWith_type1 ?_
    apply Calls.spliced_cons
    apply wpAny_Name ?_ dbx
    apply wpAny_loadName_local (env := compEnv scope C X.env) kind (ls C) ns mx
    apply Calls.spliced_nil
    exact PySem.P.str_of_str ⟨⟨_, _, rfl, rfl⟩, ⟨s3.heap, s3.toks, rfl, fun _ _ e => e⟩⟩
  · intro D h' tk ys vs nD _ ⟨n, pl⟩ hlen hP hF hk
    have nD1 : s1.heap.get? D = none := by
      cases z : s1.heap.get? D with
      | none => rfl
      | some o => rw [Heap.get?_push_of_some _ z] at nD; cases nD
    have hn := I1.hok.gone nD1
    have vs' : vs.filter (fun _ => true) = vs := List.filter_eq_self.mpr fun _ _ => rfl
    rw [vs'] at hF
    have hval : Vals (zs.map V.str) ys.toList := vals_strs (by rw [← hF.length, hlen, List.size_toArray, len]) fun j hj => by
      have hjv : j < vs.length := by rw [hlen, List.size_toArray, len]; exact hj
      obtain ⟨y, ey, z, t, e1, e2⟩ := pair_at hF j vs[j] (by simp [hjv])
      obtain ⟨t2, e3⟩ := strs_at2 hst (i := j) (v := vs[j]) (by simpa using hP j vs[j] (by simp [hjv]))
      rw [e1] at e3
      cases e3
      exact ⟨t, by rw [ey, e2]⟩
    refine ⟨.ref D, _, I1.laidN (t' := tk) (o := .lst (zs.map V.str)) (fun b o e => hk b o (off e) (Heap.get?_push_of_some _ e)) nD1 hn ⟨by rw [List.length_map, sizeLine_eq]; omega, ys.toList, n, hval, pl⟩, rfl, q D hn⟩
theorem hot_suite {X : Cx} {a : Addr} {oe : Obj} {cls : Value} {d : Option Addr} (hA : X.A.handled = some (.ref a)) (hp : (a, oe) ∈ X.pn) (hz : L2N.Zn cls d oe) (hf : ∃ vs, oe.data = .fields vs) : HotC X :=
  ⟨(a, oe), ⟨hA, hf.elim fun vs e => ⟨vs, e, hz.2.2 vs e⟩⟩, hp⟩
end Lo

set_option Elab.async false
set_option linter.all false
set_option maxRecDepth 100000
set_option maxHeartbeats 4000000
/-! LoB9: lcm; one common bottom; cents dealt out; lists that are not equal. -/
namespace Lo
open PySem PySem.Spec PyProof.Rows L2
/-! ### lcm -/
def rLcm : List V → Hp → VK → Prop := fun vs H Q => ∃ a b : Int, vs = [.int a, .int b] ∧ Sz 8000 a ∧ Sz 8000 b ∧ Sz 8000 ((Nat.lcm a.natAbs b.natAbs : Nat) : Int) ∧ Q (.int ((Nat.lcm a.natAbs b.natAbs : Nat) : Int)) H
theorem cr_lcm {X : Cx} : CallR X (.builtin "math.lcm") rLcm := by
  intro pins s σ H vs us Q I r h
  obtain ⟨a, b, rfl, ha, hb, hc, q⟩ := h
  obtain ⟨t, u, rfl⟩ := Vals.int2 r
  have h1 : (max 1 a.natAbs).log2 < 8000 := PySem.Flt.log2_lt_of (by decide) (Nat.max_lt.mpr ⟨Nat.one_lt_two_pow (by decide), ha⟩)
  have h2 : (max a.natAbs b.natAbs).log2 < 8000 := PySem.Flt.log2_lt_of (by decide) (Nat.max_lt.mpr ⟨ha, hb⟩)
  have e1 : Nat.lcm 1 a.natAbs = a.natAbs := Nat.lcm_one_left _
  have h3 : ((Nat.lcm a.natAbs b.natAbs : Nat) : Int).natAbs.log2 < 8000 := PySem.Flt.log2_lt_of (by decide) hc
  have h4 : (8000 : Nat) ≤ bitsLine := by rw [PySem.bitsLine_eq]; decide
  have g := PySem.W.mg_run_lcm a t b u (by omega) (by omega) (by rw [e1]; omega)
  rw [e1] at g
  exact call_function_meets PySem.W.MGF.kind_lcm PySem.W.MGF.plain_lcm PySem.W.MGF.entry_lcm (PySem.W.MGF.args_lcm _ _) g.meets ⟨.int _, H, I.tok _, ⟨_, rfl⟩, q⟩
/-- the least common bottom -/
def lcmL (fs : List (Int × Int)) : Nat := fs.foldl (fun b f => Nat.lcm b f.2.natAbs) 1
theorem lcmL_snoc {fs : List (Int × Int)} {f : Int × Int} : lcmL (fs ++ [f]) = Nat.lcm (lcmL fs) f.2.natAbs := by
  unfold lcmL
  rw [List.foldl_append]
  rfl
theorem lcmG_dvd (fs : List (Int × Int)) : ∀ b : Nat, b ∣ fs.foldl (fun b f => Nat.lcm b f.2.natAbs) b ∧ ∀ f ∈ fs, f.2.natAbs ∣ fs.foldl (fun b f => Nat.lcm b f.2.natAbs) b := by
  induction fs with
  | nil => exact fun b => ⟨Nat.dvd_refl _, fun f m => nomatch m⟩
  | cons g fs ih =>
    intro b
    obtain ⟨h1, h2⟩ := ih (Nat.lcm b g.2.natAbs)
    refine ⟨Nat.dvd_trans (Nat.dvd_lcm_left _ _) h1, fun f m => ?_⟩
    rcases List.mem_cons.mp m with rfl | m
    · exact Nat.dvd_trans (Nat.dvd_lcm_right _ _) h1
    · exact h2 f m
theorem lcmL_dvd {fs : List (Int × Int)} {f : Int × Int} (m : f ∈ fs) : f.2.natAbs ∣ lcmL fs := (lcmG_dvd fs 1).2 f m
theorem lcmL_take {fs : List (Int × Int)} (i : Nat) : lcmL (fs.take i) ∣ lcmL fs := by
  have e : lcmL fs = (fs.drop i).foldl (fun b f => Nat.lcm b f.2.natAbs) (lcmL (fs.take i)) := by
    unfold lcmL
    rw [← List.foldl_append, List.take_append_drop]
  rw [e]
  exact (lcmG_dvd _ _).1
theorem lcmG_pos (fs : List (Int × Int)) : ∀ b : Nat, 0 < b → (∀ f ∈ fs, 0 < f.2) → 0 < fs.foldl (fun b f => Nat.lcm b f.2.natAbs) b := by
  induction fs with
  | nil => exact fun b h _ => h
  | cons g fs ih =>
    intro b hb h
    have := h g List.mem_cons_self
    exact ih _ (Nat.lcm_pos hb (by omega)) fun f m => h f (List.mem_cons_of_mem _ m)
theorem lcmL_pos {fs : List (Int × Int)} (h : ∀ f ∈ fs, 0 < f.2) : 0 < lcmL fs := lcmG_pos fs 1 (by decide) h
theorem dvd_sz {n : Nat} {a b : Nat} (h : a ∣ b) (hb : 0 < b) (z : Sz n (b : Int)) : Sz n (a : Int) := by
  have l := Nat.le_of_dvd hb h
  exact z.le (by omega)
/-- all tops over the common bottom -/
def topsL (fs : List (Int × Int)) : List Int := fs.map fun f => f.1 * ((lcmL fs : Int) / f.2)
theorem topsL_len {fs : List (Int × Int)} : (topsL fs).length = fs.length := by simp [topsL]
theorem part_pos {fs : List (Int × Int)} (h : ∀ f ∈ fs, 0 < f.2) {f : Int × Int} (m : f ∈ fs) : 0 < (lcmL fs : Int) / f.2 := by
  have h1 := lcmL_dvd m
  have h2 := lcmL_pos h
  have h3 := h f m
  obtain ⟨c, hc⟩ := h1
  have e : (lcmL fs : Int) = f.2 * c := by
    rw [hc]
    push_cast
    congr 1
    omega
  rw [e, Int.mul_ediv_cancel_left _ (by omega)]
  rcases Nat.eq_zero_or_pos c with z | z
  · rw [z] at hc
    omega
  · omega
theorem part_sz {n : Nat} {fs : List (Int × Int)} (h : ∀ f ∈ fs, 0 < f.2) (z : Sz n (lcmL fs : Int)) {f : Int × Int} (m : f ∈ fs) : Sz n ((lcmL fs : Int) / f.2) := by
  refine z.le ?_
  have h1 := part_pos h m
  have h2 := lcmL_pos h
  have h3 : (lcmL fs : Int) / f.2 ≤ lcmL fs := Int.ediv_le_self _ (by omega)
  omega
/-! ### nearest, and what is dealt -/
def near (c w T : Int) : Int := (2 * c * w + T) / (2 * T)
theorem near_nrm {c w T : Int} (h : 0 < T) : (2 * (nrm (c * w) T).1 + (nrm (c * w) T).2) / (2 * (nrm (c * w) T).2) = near c w T := by
  have e1 := nrm_a (a := c * w) (b := T)
  have e2 := nrm_b (a := c * w) (b := T)
  have p := (nrm_red (a := c * w) (b := T) (by omega)).pos
  have gp : 0 < nrmC (c * w) T := by
    rcases Int.lt_or_le 0 (nrmC (c * w) T) with h1 | h1
    · exact h1
    · have := Int.mul_nonpos_of_nonneg_of_nonpos (Int.le_of_lt p) h1
      omega
  generalize nrmC (c * w) T = g at *
  generalize (nrm (c * w) T).1 = t at *
  generalize (nrm (c * w) T).2 = b at *
  unfold near
  have f1 : 2 * c * w + T = g * (2 * t + b) := by rw [Int.mul_assoc, ← e1, ← e2, Int.mul_add]; ac_rfl
  have f2 : 2 * T = g * (2 * b) := by rw [← e2]; ac_rfl
  rw [f1, f2, Int.mul_ediv_mul_of_pos _ _ gp]
theorem near_zero {c T : Int} (h : 0 < T) : near c 0 T = 0 := by
  unfold near
  rw [Int.mul_zero, Int.zero_add]
  exact Int.ediv_eq_zero_of_lt (by omega) (by omega)
theorem near_all {c T : Int} (h : 0 < T) : near c T T = c := by
  unfold near
  have e : 2 * c * T + T = T + c * (2 * T) := by rw [Int.add_comm, Int.mul_comm 2 c, Int.mul_assoc]
  rw [e, Int.add_mul_ediv_right _ _ (by omega), Int.ediv_eq_zero_of_lt (by omega) (by omega), Int.zero_add]
theorem near_between {c w T : Int} (h : 0 < T) : -T < 2 * (near c w T * T - c * w) ∧ 2 * (near c w T * T - c * w) ≤ T := by
  have h1 := Int.emod_nonneg (2 * c * w + T) (show 2 * T ≠ 0 by omega)
  have h2 := Int.emod_lt_of_pos (2 * c * w + T) (show 0 < 2 * T by omega)
  have h3 := Int.mul_ediv_add_emod (2 * c * w + T) (2 * T)
  unfold near
  generalize (2 * c * w + T) % (2 * T) = r at *
  generalize (2 * c * w + T) / (2 * T) = q at *
  have e : 2 * T * q = 2 * (q * T) := by rw [Int.mul_assoc, Int.mul_comm T q]
  have e2 : 2 * c * w = 2 * (c * w) := Int.mul_assoc _ _ _
  rw [e, e2] at h3
  omega
/-- the sum of the first ones -/
def sumT (ws : List Int) (k : Nat) : Int := (ws.take k).sum
theorem sumT_zero {ws : List Int} : sumT ws 0 = 0 := rfl
theorem sumT_succ {ws : List Int} {k : Nat} {x : Int} (h : ws[k]? = some x) : sumT ws (k + 1) = sumT ws k + x := by
  unfold sumT
  rw [List.take_add_one, h]
  simp
theorem sumT_all {ws : List Int} : sumT ws ws.length = ws.sum := by
  unfold sumT
  rw [List.take_length]
def partOf (c T : Int) (ws : List Int) (k : Nat) : Int := near c (sumT ws (k + 1)) T - near c (sumT ws k) T
def dealtL (c T : Int) (ws : List Int) : List Int := (List.range ws.length).map (partOf c T ws)
theorem dealtL_len {c T : Int} {ws : List Int} : (dealtL c T ws).length = ws.length := by simp [dealtL]
theorem dealtL_get {c T : Int} {ws : List Int} {k : Nat} (h : k < ws.length) : (dealtL c T ws)[k]? = some (partOf c T ws k) := by
  unfold dealtL
  rw [List.getElem?_map, List.getElem?_range h]
  rfl
theorem part_near {c T : Int} {ws : List Int} {k : Nat} {x : Int} (h : 0 < T) (hx : ws[k]? = some x) : (partOf c T ws k * T - c * x).natAbs < T := by
  obtain ⟨a1, a2⟩ := near_between (c := c) (w := sumT ws (k + 1)) h
  obtain ⟨b1, b2⟩ := near_between (c := c) (w := sumT ws k) h
  rw [sumT_succ hx] at a1 a2
  unfold partOf
  rw [sumT_succ hx]
  generalize near c (sumT ws k + x) T = m at *
  generalize near c (sumT ws k) T = n at *
  rw [Int.mul_add] at a1 a2
  rw [Int.sub_mul]
  generalize c * sumT ws k = u at *
  generalize c * x = v at *
  generalize m * T = p at *
  generalize n * T = q at *
  omega
/-- no proportion -/
def BadA (fs : List (Int × Int)) : Prop := (topsL fs).sum = 0 ∨ ∃ t ∈ topsL fs, t < 0
theorem bad_neg {fs : List (Int × Int)} (h : ∀ f ∈ fs, 0 < f.2) {f : Int × Int} (m : f ∈ fs) (n : f.1 < 0) : BadA fs :=
  .inr ⟨_, List.mem_map.mpr ⟨f, m, rfl⟩, Int.mul_neg_of_neg_of_pos n (part_pos h m)⟩
theorem bad_zero {fs : List (Int × Int)} (h : ∀ f ∈ fs, f.1 = 0) : BadA fs := by
  refine .inl ?_
  have e : topsL fs = fs.map fun _ => (0 : Int) := List.map_congr_left fun f m => by rw [h f m, Int.zero_mul]
  rw [e]
  clear h e
  induction fs with
  | nil => rfl
  | cons f fs ih =>
    rw [List.map_cons, List.sum_cons, Int.zero_add]
    exact ih
theorem sum_nonneg : ∀ {ws : List Int}, (∀ w ∈ ws, 0 ≤ w) → 0 ≤ ws.sum
  | [], _ => Int.le_refl _
  | w :: ws, h => by
    rw [List.sum_cons]
    have h1 := h w List.mem_cons_self
    have h2 := sum_nonneg fun v m => h v (List.mem_cons_of_mem w m)
    omega
theorem not_bad {fs : List (Int × Int)} (h : ¬ BadA fs) : (∀ t ∈ topsL fs, 0 ≤ t) ∧ 0 < (topsL fs).sum := by
  have h1 : ∀ t ∈ topsL fs, 0 ≤ t := fun t m => Int.not_lt.mp fun n => h (.inr ⟨t, m, n⟩)
  have h2 := sum_nonneg h1
  have h3 : (topsL fs).sum ≠ 0 := fun n => h (.inl n)
  exact ⟨h1, by omega⟩
theorem sum_sz {n : Nat} : ∀ {ws : List Int} {k : Nat}, (∀ w ∈ ws, Sz n w) → ws.length ≤ k → Sz (n + k) ws.sum
  | [], k, _, _ => show (0 : Int).natAbs < 2 ^ (n + k) from Nat.two_pow_pos _
  | w :: ws, 0, _, l => by simp at l
  | w :: ws, k + 1, h, l => by
    rw [List.sum_cons]
    have h1 := h w List.mem_cons_self
    have h2 := sum_sz (k := k) (fun v m => h v (List.mem_cons_of_mem w m)) (by simpa using l)
    exact (h1.mono (Nat.le_add_right n k)).add' h2
theorem sumT_sz {n : Nat} {ws : List Int} {k : Nat} (h : ∀ w ∈ ws, Sz n w) (l : ws.length ≤ k) (i : Nat) : Sz (n + k) (sumT ws i) := by
  unfold sumT
  refine sum_sz (fun w m => h w (List.mem_of_mem_take m)) ?_
  rw [List.length_take]
  omega
/-! ### lists that are compared item by item -/
/-- what == says of two values: flat ones by their worth, an object is itself -/
def EqB (x y : V) (b : Bool) : Prop := (flatV x = true ∧ flatV y = true ∧ eqV x y = b) ∨ ∃ a, x = .ref a ∧ y = .ref a ∧ b = true
def rNeL : R2 := fun x y H Q => ∃ (a b : Addr) (xs ys : List V) (e : Nat → Bool), x = .ref a ∧ y = .ref b ∧ H a = some (.lst xs) ∧ H b = some (.lst ys) ∧ xs.length = ys.length ∧ (∀ i x y, xs[i]? = some x → ys[i]? = some y → EqB x y (e i)) ∧ Q (.bl (!(List.range xs.length).all e)) H
theorem eqB_at {A : Around} {s : Shared} {x y : V} {u v : Value} {b : Bool} (h : EqB x y b) (r : RelV x u) (q : RelV y v) : SeqAt.EqAt A s u v b := by
  rcases h with ⟨fx, fy, e⟩ | ⟨a, rfl, rfl, rfl⟩
  · have z := eqAt_V (A := A) (s := s) r q fx fy
    rw [e] at z
    exact z
  · cases r
    cases q
    exact SeqAt.EqAt.same (.ref a)
theorem op_neL {X : Cx} (hu : X.A.units < cLine) : OpR X (compareOp .NotEq) rNeL := by
  intro pins s σ H x y v u Q I rx ry ⟨a, b, xs, ys, e, ex, ey, ha, hb, hl, he, q⟩
  subst ex ey
  cases (show v = Value.ref a from rx)
  cases (show u = Value.ref b from ry)
  obtain ⟨z, its, k, r, e1⟩ := I.hok a _ ha
  obtain ⟨z2, its2, k2, r2, e2⟩ := I.hok b _ hb
  have l1 : its.toArray.size = xs.length := by rw [List.size_toArray, ← r.length]
  have l2 : its2.toArray.size = xs.length := by rw [List.size_toArray, ← r2.length, hl]
  refine SeqAt.RcNeAt.lists (A := X.A) (e := e) ⟨_, e1, rfl, _, rfl⟩ ⟨_, e2, rfl, _, rfl⟩ (by rw [l1, l2]) hu (fun j h1 h2 => ?_) X.prog X.w X.xe _ ⟨.bl _, H, I, rfl, by rw [l1]; exact q⟩
  have k1 : j < xs.length := by rw [← l1]; exact h1
  have k2 : j < ys.length := by rw [← hl]; exact k1
  have g1 : its[j]? = some its.toArray[j] := by
    have h1' : j < its.length := by simpa using h1
    rw [List.getElem?_eq_getElem h1'] <;> simp
  have g2 : its2[j]? = some its2.toArray[j] := by
    have h2' : j < its2.length := by simpa using h2
    rw [List.getElem?_eq_getElem h2'] <;> simp
  obtain ⟨u, hu, ru⟩ := r.get (List.getElem?_eq_getElem k1)
  obtain ⟨v, hv, rv⟩ := r2.get (List.getElem?_eq_getElem k2)
  rw [g1] at hu
  rw [g2] at hv
  rw [Option.some.inj hu, Option.some.inj hv]
  exact eqB_at (he j _ _ (List.getElem?_eq_getElem k1) (List.getElem?_eq_getElem k2)) ru rv
/-- a list and its copy -/
theorem neCopy {H : Hp} {a b : Addr} {xs : List V} {Q : VK} (ha : H a = some (.lst xs)) (hb : H b = some (.lst xs)) (h : ∀ x ∈ xs, (∃ i, x = .int i) ∨ ∃ p, x = .ref p) (k : Q (.bl false) H) : rNeL (.ref a) (.ref b) H Q := by
  refine ⟨a, b, xs, xs, fun _ => true, rfl, rfl, ha, hb, rfl, fun i x y h1 h2 => ?_, ?_⟩
  · rw [h1] at h2
    cases h2
    rcases h x (List.mem_of_getElem? h1) with ⟨i, rfl⟩ | ⟨p, rfl⟩
    · exact .inl ⟨rfl, rfl, by simp [eqV]⟩
    · exact .inr ⟨p, rfl, rfl, rfl⟩
  · have e : (List.range xs.length).all (fun _ => true) = true := by simp
    rw [e]
    exact k
/-! ### amounts as the law draws them -/
def Amt (f : Int × Int) : Prop := Red f.1 f.2 ∧ 0 ≤ f.1 ∧ Sz 70 f.1 ∧ f.2 ≤ 100
def AmtAt (H : Hp) (x : V) (f : Int × Int) : Prop := ∃ t, x = .ref t ∧ H t = some (.tup [.int f.1, .int f.2])
theorem AmtAt.same {H H' : Hp} {x : V} {f : Int × Int} (h : AmtAt H x f) (s : Same H H') : AmtAt H' x f := let ⟨t, e, q⟩ := h; ⟨t, e, s _ _ q⟩
theorem AmtAt.put {H H' : Hp} {x : V} {f : Int × Int} {c : Addr} {xs : List V} (h : AmtAt H x f) (e : H c = some (.lst xs)) (k : Keep c H H') : AmtAt H' x f := let ⟨t, e1, q⟩ := h; ⟨t, e1, tput q e k⟩
theorem NumV.put {ca : Nat → Addr} {H H' : Hp} {x : V} {a b : Int} {c : Addr} {xs : List V} (h : NumV ca H x a b) (e : H c = some (.lst xs)) (k : Keep c H H') : NumV ca H' x a b := h.keep e (fun _ _ _ z => nomatch z) k
def Handed (ca : Nat → Addr) (H : Hp) : List V → List (Int × Int) → Prop := Paired fun x f => NumV ca H x f.1 f.2
theorem Handed.same {ca : Nat → Addr} {H H' : Hp} {xs : List V} {fs : List (Int × Int)} (h : Handed ca H xs fs) (s : Same H H') : Handed ca H' xs fs := Paired.mapP h fun _ _ n => n.same s
theorem Handed.put {ca : Nat → Addr} {H H' : Hp} {xs ys : List V} {fs : List (Int × Int)} {c : Addr} (h : Handed ca H xs fs) (e : H c = some (.lst ys)) (k : Keep c H H') : Handed ca H' xs fs := Paired.mapP h fun _ _ n => n.put e k
theorem Handed.plain {ca : Nat → Addr} {H : Hp} {xs : List V} {fs : List (Int × Int)} (h : Handed ca H xs fs) : ∀ x ∈ xs, (∃ i, x = .int i) ∨ ∃ p, x = .ref p := fun x m => by
  obtain ⟨i, hi⟩ := List.getElem?_of_mem m
  have l := h.length
  have li := (List.getElem?_eq_some_iff.mp hi).1
  have hf : fs[i]? = some (fs[i]'(by omega)) := List.getElem?_eq_getElem (by omega)
  rcases paired_get h hi hf with ⟨e, _⟩ | ⟨p, e, _⟩
  · exact .inl ⟨_, e⟩
  · exact .inr ⟨p, e⟩
theorem paired_app {α β : Type} {F : α → β → Prop} : ∀ {a b : List α} {c d : List β}, Paired F a c → Paired F b d → Paired F (a ++ b) (c ++ d)
  | _, _, _, _, .nil, h => h
  | _, _, _, _, .cons r t, h => .cons r (paired_app t h)
theorem paired_take {α β : Type} {F : α → β → Prop} : ∀ {a : List α} {c : List β} (n : Nat), Paired F a c → Paired F (a.take n) (c.take n)
  | _, _, 0, _ => .nil
  | _, _, _ + 1, .nil => .nil
  | _, _, n + 1, .cons r t => .cons r (paired_take n t)
theorem paired_drop {α β : Type} {F : α → β → Prop} : ∀ {a : List α} {c : List β} (n : Nat), Paired F a c → Paired F (a.drop n) (c.drop n)
  | _, _, 0, h => h
  | _, _, _ + 1, .nil => .nil
  | _, _, n + 1, .cons r t => paired_drop n t
theorem amt_lcm {fs : List (Int × Int)} (h : ∀ f ∈ fs, 0 < f.2 ∧ f.2 ≤ 1000) (l : fs.length ≤ 20) : Sz 2000 (lcmL fs : Int) := by
  have g : ∀ (fs : List (Int × Int)) (b n : Nat), (∀ f ∈ fs, 0 < f.2 ∧ f.2 ≤ 1000) → b ≤ 1024 ^ n → fs.foldl (fun b f => Nat.lcm b f.2.natAbs) b ≤ 1024 ^ (n + fs.length) := by
    intro fs
    induction fs with
    | nil => exact fun b n _ h => h
    | cons f fs ih =>
      intro b n hf hb
      have h1 := hf f List.mem_cons_self
      have h2 : Nat.lcm b f.2.natAbs ≤ b * f.2.natAbs := by
        unfold Nat.lcm
        exact Nat.div_le_self _ _
      have h3 : b * f.2.natAbs ≤ 1024 ^ n * 1024 := Nat.mul_le_mul hb (by omega)
      have h4 := ih (Nat.lcm b f.2.natAbs) (n + 1) (fun g m => hf g (List.mem_cons_of_mem _ m)) (by rw [Nat.pow_succ]; omega)
      rw [List.length_cons, Nat.add_comm fs.length 1, ← Nat.add_assoc]
      exact h4
  have h1 := g fs 1 0 h (by decide)
  have h2 : 1024 ^ (0 + fs.length) ≤ 1024 ^ 20 := Nat.pow_le_pow_right (by decide) (by omega)
  have h3 : (1024 : Nat) ^ 20 < 2 ^ 2000 := by
    have e : (1024 : Nat) = 2 ^ 10 := by decide
    rw [e, ← Nat.pow_mul]
    exact Nat.pow_lt_pow_right (by decide) (by decide)
  unfold Sz
  rw [Int.natAbs_natCast]
  exact Nat.lt_of_le_of_lt h1 (Nat.lt_of_le_of_lt h2 h3)
/-- few amounts with small bottoms -/
structure Ok20 (fs : List (Int × Int)) : Prop where
  len : fs.length ≤ 20
  all : ∀ f ∈ fs, Sz 100 f.1 ∧ 0 < f.2 ∧ f.2 ≤ 1000
theorem Ok20.a {fs : List (Int × Int)} (h : Ok20 fs) : ∀ f ∈ fs, Sz 2000 f.1 ∧ 0 < f.2 := fun f m => ⟨(h.all f m).1.mono, (h.all f m).2.1⟩
theorem Ok20.l {fs : List (Int × Int)} (h : Ok20 fs) : Sz 2000 (lcmL fs : Int) := amt_lcm (fun f m => (h.all f m).2) h.len
theorem Ok20.n {fs : List (Int × Int)} (h : Ok20 fs) : fs.length ≤ 1000 := by have := h.len; omega
theorem lt_sz {n m : Nat} {z : Int} (h : z.natAbs < 2 ^ n) (l : n ≤ m := by decide) : Sz m z := Sz.mono (n := n) h l
theorem Ok20.snoc {fs : List (Int × Int)} {f : Int × Int} (h : Ok20 fs) (l : fs.length < 20) (z : f.1.natAbs < 2 ^ 100) (p : 0 < f.2) (q : f.2 ≤ 1000) : Ok20 (fs ++ [f]) :=
  ⟨by rw [List.length_append]; simp; omega, fun g m => by
    rcases List.mem_append.mp m with m | m
    · exact h.all g m
    · rw [List.mem_singleton.mp m]
      exact ⟨z, p, q⟩⟩
theorem Ok20.cons {fs : List (Int × Int)} {f : Int × Int} (h : Ok20 fs) (l : fs.length < 20) (z : f.1.natAbs < 2 ^ 100) (p : 0 < f.2) (q : f.2 ≤ 1000) : Ok20 ([f] ++ fs) :=
  ⟨by rw [List.length_append]; simp; omega, fun g m => by
    rcases List.mem_append.mp m with m | m
    · rw [List.mem_singleton.mp m]
      exact ⟨z, p, q⟩
    · exact h.all g m⟩
end Lo
set_option Elab.async false
set_option linter.all false
set_option maxRecDepth 100000
set_option maxHeartbeats 4000000
local macro_rules | `(tactic| fail "lo_ne") => `(tactic| first
  | assumption
  | exact Ne.symm (by assumption))
local macro_rules | `(tactic| fail "lo_hq") => `(tactic| ((with_reducible show @Eq (Option L2.HO) _ _); first
  | (with_reducible exact L2.upd_same)
  | (with_reducible assumption)
  | exact Lo.sget (by with_reducible assumption) (by fail "lo_hq")
  | exact Lo.kget (by with_reducible assumption) (by fail "lo_ne") (by fail "lo_hq")
  | ((with_reducible show L2.upd _ _ _ _ = _); exact Lo.une (by fail "lo_ne") (by fail "lo_hq"))
  | assumption))
local macro_rules | `(tactic| fail "lo_R") => `(tactic| first
  | (with_reducible assumption)
  | exact Lo.rsame (by with_reducible assumption) (by fail "lo_R"))
local macro_rules | `(tactic| fail "lo_F") => `(tactic| first
  | (with_reducible assumption)
  | exact Lo.fsame (by with_reducible assumption) (by fail "lo_F")
  | exact Lo.tsame (by with_reducible assumption) (by fail "lo_F"))
local macro_rules | `(tactic| fail "lo_S") => `(tactic| first
  | (with_reducible assumption)
  | exact Lo.strans (by with_reducible assumption) (by fail "lo_S")
  | exact L2.Same.refl _)
local macro_rules | `(tactic| fail "lo_hp") => `(tactic| first
  | ((with_reducible show L2.SqT _ _ _ _); first | exact L2.SqT.of (by fail "lo_hq") | assumption)
  | ((with_reducible show L2.SqL _ _ _ _); first | exact L2.SqL.of (by fail "lo_hq") | assumption | exact L2.Same.seq (by assumption) (by fail "lo_hp")))
local macro_rules | `(tactic| fail "lo_mok") => `(tactic| first
  | exact Lo.mok_r (by decide)
  | exact Lo.mok_l (by decide)
  | exact Lo.mok_r (by omega)
  | exact Lo.mok_l (by omega)
  | assumption)
local macro_rules | `(tactic| fail "lo_cond") => `(tactic| first
  | (show PySem.IntMulOk _ _; fail "lo_mok")
  | (show (0 : Int) < _; first | decide | omega | assumption)
  | (show L2.CPow _ _; exact ⟨by decide, by decide, by first | decide | omega⟩)
  | (show Lo.CDivA _ _; exact ⟨by first | assumption | omega, by assumption⟩)
  | (show L2.CDivW _ _; exact ⟨by first | decide | omega, by first | decide | assumption⟩))
local macro_rules | `(tactic| fail "lo_lk") => `(tactic| ((with_reducible show @Eq (Option L2.V) _ _); first
  | exact Lo.lk0
  | exact Lo.lkn
  | exact Lo.lk1 (by decide +kernel) (by fail "lo_lk")))
/- one step of a reading that has one way only -/
local macro_rules | `(tactic| fail "lo_rd1") => `(tactic| first
  | (refine ⟨_, rfl, ?_⟩)
  | (refine ⟨_, _, rfl, rfl, (by fail "lo_cond"), ?_⟩)
  | (refine ⟨_, _, rfl, rfl, ?_⟩)
  | (refine ⟨_, _, _, _, rfl, rfl, (by fail "lo_hp"), Lo.ix_c (by rfl), ?_⟩)
  | (refine ⟨_, _, _, _, rfl, rfl, (by fail "lo_hq"), (by rfl), ?_⟩)
  | (refine ⟨_, _, _, _, _, rfl, (by fail "lo_hq"), (by fail "lo_cl"), (by fail "lo_na"), (by fail "lo_lk"), ?_⟩)
  | (refine ⟨_, _, _, _, rfl, (by fail "lo_hq"), (by fail "lo_cl"), (by fail "lo_na"), Nat.le_of_ble_eq_true rfl, ?_⟩)
  | (refine ⟨_, _, _, rfl, (by fail "lo_hq"), (by fail "lo_lk"), ?_⟩)
  | ((with_reducible show L2.rEqD _ (L2.V.ref _) (L2.V.ref _) _ _); refine Lo.eqT (by fail "lo_hq") (by fail "lo_hq") ?_)
  | ((with_reducible show L2.rNeD _ (L2.V.ref _) (L2.V.ref _) _ _); refine Lo.neT (by fail "lo_hq") (by fail "lo_hq") ?_)
  | (refine ⟨Or.inl ⟨rfl, _, (by fail "lo_hp")⟩, ?_⟩)
  | (refine Or.inl ⟨_, rfl, ?_⟩)
  | (refine Or.inr ⟨_, rfl, ?_⟩)
  | (refine ⟨rfl, ?_⟩)
  | (refine ⟨_, _, rfl, Or.inl (by fail "lo_hp"), ?_⟩)
  | (refine ⟨_, _, rfl, (by fail "lo_hp"), rfl, ?_⟩)
  | (refine ⟨_, _, rfl, ?_⟩)
  | (refine ⟨⟨_, (by fail "lo_hp")⟩, ?_⟩)
  | (refine ⟨Lo.line_le (Nat.le_of_ble_eq_true rfl), ?_⟩)
  | (refine ⟨⟨_, rfl⟩, _, rfl, rfl, True.intro, ?_⟩)
  | (with_reducible show L2.tNil _ _ _; dsimp only [L2.tNil]))
/- as many such steps as there are -/
local macro_rules | `(tactic| fail "rd") => `(tactic| repeat fail "lo_rd1")

namespace Lo
open PySem PySem.Spec PyProof.Rows L2
def top (i : Nat) : Stmt := PySem.Challenge.pw_lotcosts_k89_cents_dealt_out.main.body.getD i (.Pass ⟨0, 0, 0, 0⟩)
structure Txt (K : PySem.W.Frag) (mg : Str → Option Value) (ca : Nat → Addr) : Prop where
  b_abs : mg "abs" = none
  b_all : mg "all" = none
  b_bool : mg "bool" = none
  b_int : mg "int" = none
  b_isinstance : mg "isinstance" = none
  b_len : mg "len" = none
  b_list : mg "list" = none
  b_min : mg "min" = none
  b_range : mg "range" = none
  b_sum : mg "sum" = none
  lcm : mg "lcm" = some (.builtin "math.lcm")
  gcd : mg "gcd" = some (.builtin "math.gcd")
  g_CostError : mg "CostError" = some (.ref (ca 0))
  g_NoRatio : mg "NoRatio" = some (.ref (ca 1))
  kp_NoRatio : PySem.W.keepIn K (.ref (ca 1)) = true
  ex_NoRatio : PySem.W.excIn K (ca 1) [.type "ValueError", .type "Exception", .type "BaseException", .type "object"] "ValueError.__new__" = true
  sb_NoRatio : PySem.W.subIn K (.ref (ca 1)) (.type "BaseException") = some true
  ty_NoRatio : PySem.W.typeIn K (.ref (ca 1)) = some (.type "type")
  te_NoRatio : PySem.W.exmOne K (.ref (ca 1)) (.ref (ca 1)) = some true
  ec_NoRatio : L2.ExcC K (ca 1)
  g_Ratio : mg "Ratio" = some (.ref (ca 2))
  cl_Ratio : Cls K (ca 2)
  na_Ratio_top : NoAttr K (ca 2) "top"
  na_Ratio_bottom : NoAttr K (ca 2) "bottom"
  ic_Ratio : PySem.W.findIn K (.ref (ca 2)) "__class__" = some (some (.builtin "object.__class__"))
  in_Ratio : PySem.W.specialIn K (.builtin "object.__class__") "__get__" = some (some (.builtin "getset_descriptor.__get__"))
  it_Ratio : PySem.W.takesIn K (.builtin "object.__class__") = some true
  im_Ratio : PySem.W.mroIn K (ca 2) (.type "object") = some true
  ki_NoRatio_CostError : PySem.W.kitOne K (.ref (ca 1)) (.ref (ca 0)) = some true
  ki_int_Ratio : PySem.W.kitOne K (.type "int") (.ref (ca 2)) = some false
local macro_rules | `(tactic| fail "lo_cl") => `(tactic| ((with_reducible show L2.Cls _ _); first
  | exact (show Txt _ _ _ by assumption).cl_Ratio))
local macro_rules | `(tactic| fail "lo_na") => `(tactic| ((with_reducible show L2.NoAttr _ _ _); first
  | exact (show Txt _ _ _ by assumption).na_Ratio_top
  | exact (show Txt _ _ _ by assumption).na_Ratio_bottom))
section
variable {P : Program} {w : World} {K : PySem.W.Frag} {mg : Str → Option Value} {base : Heap} {ca : Nat → Addr}
abbrev s_l_bag : Stmt := top 12
theorem sc_l_bag : FnScope ["_law_script"] ["_law_script"] (defScope s_l_bag) := ⟨rfl, rfl, rfl, by decide +kernel, rfl, by decide +kernel, by decide +kernel⟩
def sp_l_bag (K : PySem.W.Frag) (_ : Nat → Addr) : Sp := fun vs H Q _ => ∃ (a : Addr) (ns : List Int), vs = [.ref a] ∧ SqL K H a (ns.map V.int) ∧ ∀ (L b : Addr) (H' : Hp), H b = none → H L = none → Same H H' → Bag H' L b → Q (.ref b) H'
theorem ok_l_bag {f : Addr} {fd : FuncData} (F : Fun K "_law_bag" "_law_bag" s_l_bag f fd) (T : Txt K mg ca)  : FnOk P w K mg base (L2N.CX P w) 1 f fd ["_law_script"] (sp_l_bag K ca) := by
  refine okN F sc_l_bag (fun vs H Q E h => ?_) (fun cdv A outer s H vs Q E hr h => ?_)
  · obtain ⟨_, _, rfl, _⟩ := h
    rfl
  · obtain ⟨a, ns, rfl, hs, k⟩ := h
    refine ⟨_, pss_one (ps_ret (pe_lst (pa_cons (pe_callTy call_list_of (by rfl) T.b_list (by decide +kernel) (pa_cons (pv 0) pa_nil)) (pa_cons pe_int (pa_cons pe_int (pa_cons pe_int (pa_cons pe_int pa_nil))))))), ?_⟩
    fail "rd"
    intro L n_L
    generalize g_H1 : upd _ L _ = H1
    obtain ⟨s_H1, e_L⟩ := gen_new n_L g_H1
    clear g_H1
    fail "rd"
    intro b n_b
    generalize g_H2 : upd _ b _ = H2
    obtain ⟨s_H2, e_b⟩ := gen_new n_b g_H2
    clear g_H2
    exact k L b H2 (s_H1.free n_b) n_L (s_H1.trans s_H2) (Bag.mk (i := 0) e_b (s_H2 _ _ e_L) (ne_of_none e_L n_b))

abbrev s_l_draw : Stmt := top 13
theorem sc_l_draw : FnScope ["_law_bag_here", "_law_size", "_law_cell", "_law_digit", "_law_mixed"] ["_law_bag_here", "_law_size"] (defScope s_l_draw) := ⟨rfl, rfl, rfl, by decide +kernel, rfl, by decide +kernel, by decide +kernel⟩
def sp_l_draw (_ : PySem.W.Frag) (_ : Nat → Addr) : Sp := fun vs H Q _ => ∃ (b : Addr) (n : Int), vs = [.ref b, .int n] ∧ ∃ L : Addr, Bag H L b ∧ 0 < n ∧ n.natAbs.log2 < 9000 ∧ ∀ (d : Int) (H' : Hp), 0 ≤ d → d < n → Keep b H H' → Bag H' L b → Q (.int d) H'
theorem ok_l_draw {f : Addr} {fd : FuncData} (F : Fun K "_law_draw" "_law_draw" s_l_draw f fd) (T : Txt K mg ca)  : FnOk P w K mg base (L2N.CX P w) 1 f fd ["_law_bag_here", "_law_size"] (sp_l_draw K ca) := by
  refine okN F sc_l_draw (fun vs H Q E h => ?_) (fun cdv A outer s H vs Q E hr h => ?_)
  · obtain ⟨_, _, rfl, _⟩ := h
    rfl
  · obtain ⟨b, n, rfl, L, hB, h0, hn, k⟩ := h
    refine ⟨_, pss_cons (ps_asg (pe_op op_add (pe_ix ix_list (pv 0) pe_int (fun _ _ => rfl)) pe_int) (pg_sub (pv 0) pe_int set_list)) (Evl.pss_cut (ps_if (PW.pt (pw_and (pt_cmpR op_eq (pe_ix ix_list (pv 0) pe_int (fun _ _ => rfl)) pe_int (nomark _)) (pw_and1 (pt_cmpR op_lt (pe_ix ix_list (pv 0) pe_int (fun _ _ => rfl)) (pe_callB call_len_seq (by rfl) T.b_len (by decide +kernel) (pa_cons (pe_ix ix_list (pv 0) pe_int (fun _ _ => rfl)) pa_nil)) (nomark _))))) (pss_cons (ps_set (i := 2) sc_l_draw.nd rfl (Or.inl rfl) (pe_ix ix_list (pe_ix ix_list (pv 0) pe_int (fun _ _ => rfl)) (pe_ix ix_list (pv 0) pe_int (fun _ _ => rfl)) (fun _ _ => rfl))) (pss_cons (ps_asg (pe_op op_add (pe_ix ix_list (pv 0) pe_int (fun _ _ => rfl)) pe_int) (pg_sub (pv 0) pe_int set_list)) (pss_cons (ps_asg (pe_op op_mulI (pe_op op_add (pe_op op_mulI pe_int (pe_callB call_abs (by rfl) T.b_abs (by decide +kernel) (pa_cons (pv 2) pa_nil))) (pe_callTy call_int1 (by rfl) T.b_int (by decide +kernel) (pa_cons (pe_cmpR op_lt (pv 2) pe_int (nomark _)) pa_nil))) (pe_callTy call_int1 (by rfl) T.b_int (by decide +kernel) (pa_cons (pe_cmpR op_ge (pe_callB call_abs (by rfl) T.b_abs (by decide +kernel) (pa_cons (pv 2) pa_nil)) (pe_op op_pow pe_int pe_int) (nomark _)) pa_nil))) (pg_sub (pv 0) pe_int set_list)) (pss_one (ps_asg (pe_op op_mod (pe_callTy call_int1 (by rfl) T.b_int (by decide +kernel) (pa_cons (pe_op op_add (pe_op op_add (pe_op op_mulI (pe_ix ix_list (pv 0) pe_int (fun _ _ => rfl)) pe_int) (pe_op op_mulI (pv 2) pe_int)) pe_int) pa_nil)) pe_int) (pg_sub (pv 0) pe_int set_list)))))) pss_nil) (pss_cons (ps_set (i := 3) sc_l_draw.nd rfl (Or.inl rfl) (pe_op op_mod (pe_callTy call_int1 (by rfl) T.b_int (by decide +kernel) (pa_cons (pe_ix ix_list (pv 0) pe_int (fun _ _ => rfl)) pa_nil)) (pv 1))) (pss_cons (ps_if (pt_cmpR op_gt (pe_ix ix_list (pv 0) pe_int (fun _ _ => rfl)) pe_int (nomark _)) (pss_cons (ps_asg (pe_op op_fdivW (pe_ix ix_list (pv 0) pe_int (fun _ _ => rfl)) (pv 1)) (pg_sub (pv 0) pe_int set_list)) (pss_one (ps_ret (pv 3)))) pss_nil) (pss_cons (ps_set (i := 4) sc_l_draw.nd rfl (Or.inl rfl) (pe_op op_mod (pe_callTy call_int1 (by rfl) T.b_int (by decide +kernel) (pa_cons (pe_op op_add (pe_ix ix_list (pv 0) pe_int (fun _ _ => rfl)) (pe_op op_mulI (pe_ix ix_list (pv 0) pe_int (fun _ _ => rfl)) pe_int)) pa_nil)) pe_int)) (pss_cons (ps_set (i := 4) sc_l_draw.nd rfl (Or.inl rfl) (pe_op op_mod (pe_callTy call_int1 (by rfl) T.b_int (by decide +kernel) (pa_cons (pe_op op_add (pe_op op_add (pe_op op_pow (pv 4) pe_int) (pe_op op_mulI (pe_ix ix_list (pv 0) pe_int (fun _ _ => rfl)) pe_int)) pe_int) pa_nil)) pe_int)) (pss_one (ps_ret (pe_op op_mod (pe_op op_fdivW (pe_op op_mod (pe_callTy call_int1 (by rfl) T.b_int (by decide +kernel) (pa_cons (pe_op op_pow (pv 4) pe_int) pa_nil)) pe_int) pe_int) (pv 1))))))))), ?_⟩
    obtain ⟨ns, i, big, mix, cnt, hb, hL, hne⟩ := hB
    iterate 5 fail "lo_rd1"
    generalize g_H1 : upd _ b _ = H1
    obtain ⟨k_H1, e_H1⟩ := gen_put g_H1
    clear g_H1
    refine ⟨fun σ' H' => ∃ (v : Option V) (i : Nat) (big mix cnt : Int), σ' = [some (.ref b), some (.int n), v, none, none] ∧ Keep b H H' ∧ H' b = some (.lst [.ref L, .int i, .int big, .int mix, .int cnt]), ?_, ?_⟩
    · fail "rd"
      refine iteI (fun z1 => ?_) (fun z1 => ?_)
      · fail "rd"
        refine iteD (fun z2 => ?_) (fun z2 => ?_)
        · fail "rd"
          have hi : i < ns.length := by
            have z3 : (i : Int) < ((ns.map V.int).length : Nat) := z2
            rw [List.length_map] at z3
            omega
          refine ⟨_, _, _, _, rfl, rfl, (by fail "lo_hp"), atI_nat (v := .int ns[i]) (by simp [hi]), ?_⟩
          fail "rd"
          exact ⟨_, i + 1, _, _, _, rfl, ((k_H1.trans keep_upd).trans keep_upd).trans keep_upd, upd_same⟩
        · exact ⟨_, _, _, _, _, rfl, k_H1, e_H1⟩
      · exact ⟨_, _, _, _, _, rfl, k_H1, e_H1⟩
    · rintro σ' H' ⟨v, i, big, mix, cnt, rfl, kp, hb'⟩
      have hL' : H' L = some (.lst (ns.map V.int)) := kp _ _ hL hne
      fail "rd"
      refine iteD (fun z3 => ?_) (fun z3 => ?_)
      · fail "rd"
        exact k _ _ (Int.emod_nonneg _ (by omega)) (Int.emod_lt_of_pos _ h0) (kp.trans keep_upd) (Bag.mk upd_same (une hne hL') hne)
      · fail "rd"
        exact k _ _ (Int.emod_nonneg _ (by omega)) (Int.emod_lt_of_pos _ h0) kp (Bag.mk hb' hL' hne)

abbrev s_l_divisor : Stmt := top 16
theorem sc_l_divisor : FnScope ["_law_one", "_law_other", "_law_rest"] ["_law_one", "_law_other"] (defScope s_l_divisor) := ⟨rfl, rfl, rfl, by decide +kernel, rfl, by decide +kernel, by decide +kernel⟩
def sp_l_divisor (_ : PySem.W.Frag) (_ : Nat → Addr) : Sp := fun vs H Q _ => ∃ a b : Int, vs = [.int a, .int b] ∧ 0 ≤ a ∧ 0 ≤ b ∧ Q (.int ((Nat.gcd a.natAbs b.natAbs : Nat) : Int)) H
theorem ok_l_divisor {f : Addr} {fd : FuncData} (F : Fun K "_law_divisor" "_law_divisor" s_l_divisor f fd) (T : Txt K mg ca)  : FnOk P w K mg base (L2N.CX P w) 1 f fd ["_law_one", "_law_other"] (sp_l_divisor K ca) := by
  refine okN F sc_l_divisor (fun vs H Q E h => ?_) (fun cdv A outer s H vs Q E hr h => ?_)
  · obtain ⟨_, _, rfl, _⟩ := h
    rfl
  · obtain ⟨a, b, rfl, ha, hb, k⟩ := h
    refine ⟨_, pss_cons (ps_while (passes_of rfl) (pt_cmpR op_ne (pv 1) pe_int (nomark _)) (pss_cons (ps_set (i := 2) sc_l_divisor.nd rfl (Or.inl rfl) (pe_op op_mod (pe_callTy call_int1 (by rfl) T.b_int (by decide +kernel) (pa_cons (pv 0) pa_nil)) (pv 1))) (pss_cons (ps_set (i := 0) sc_l_divisor.nd rfl (Or.inl rfl) (pv 1)) (pss_one (ps_set (i := 1) sc_l_divisor.nd rfl (Or.inl rfl) (pv 2)))))) (pss_one (ps_ret (pv 0))), ?_⟩
    refine while_by (fun σ' H' => ∃ (x y : Int) (v : Option V), σ' = [some (.int x), some (.int y), v] ∧ H' = H ∧ 0 ≤ x ∧ 0 ≤ y ∧ Nat.gcd x.natAbs y.natAbs = Nat.gcd a.natAbs b.natAbs)
      (fun σ' _ => match σ' with | [_, some (.int y), _] => y.toNat | _ => 0) ⟨a, b, none, rfl, rfl, ha, hb, rfl⟩ ?_ ?_
    · rintro σ' H' ⟨x, y, v, rfl, rfl, hx, hy, hg⟩
      fail "rd"
      refine iteIn (fun z => ?_) (fun z => ?_)
      · fail "rd"
        have z1 : 0 < y := by omega
        refine ⟨⟨y, x % y, _, rfl, rfl, hy, Int.emod_nonneg _ z, ?_⟩, ?_⟩
        · obtain ⟨X, rfl⟩ := Int.eq_ofNat_of_zero_le hx
          obtain ⟨Y, rfl⟩ := Int.eq_ofNat_of_zero_le hy
          rw [← hg]
          show Nat.gcd Y (X % Y) = Nat.gcd X Y
          rw [Nat.gcd_comm X Y, Nat.gcd_rec Y X, Nat.gcd_comm]
        · have z2 := Int.emod_lt_of_pos x z1
          have z3 := Int.emod_nonneg x z
          show (x % y).toNat < y.toNat
          omega
      · subst z
        fail "rd"
        have e : (Nat.gcd a.natAbs b.natAbs : Nat) = x.natAbs := by rw [← hg]; exact Nat.gcd_zero_right _
        rw [e] at k
        have e2 : ((x.natAbs : Nat) : Int) = x := by omega
        rw [e2] at k
        exact k
    · rintro σ H Q Q' hq ⟨v, e, s, c, e2, h⟩
      exact ⟨v, e, s, c, e2, hq _ _ h⟩

abbrev s_l_lowest : Stmt := top 17
theorem sc_l_lowest : FnScope ["_law_top", "_law_bottom", "_law_divisor_here"] ["_law_top", "_law_bottom"] (defScope s_l_lowest) := ⟨rfl, rfl, rfl, by decide +kernel, rfl, by decide +kernel, by decide +kernel⟩
def sp_l_lowest (_ : PySem.W.Frag) (_ : Nat → Addr) : Sp := fun vs H Q _ => ∃ a b : Int, vs = [.int a, .int b] ∧ b ≠ 0 ∧ b.natAbs.log2 < 9000 ∧
  ∀ (p : Addr) (H' : Hp), Same H H' → H p = none → H' p = some (.tup [.int (nrm a b).1, .int (nrm a b).2]) → Q (.ref p) H'
theorem ok_l_lowest {f : Addr} {fd : FuncData} (F : Fun K "_law_lowest" "_law_lowest" s_l_lowest f fd) (T : Txt K mg ca) (O__law_divisor : Own P w K mg base 1 "_law_divisor" ["_law_one", "_law_other"] (sp_l_divisor K ca)) : FnOk P w K mg base (L2N.CX P w) 2 f fd ["_law_top", "_law_bottom"] (sp_l_lowest K ca) := by
  refine okN F sc_l_lowest (fun vs H Q E h => ?_) (fun cdv A outer s H vs Q E hr h => ?_)
  · obtain ⟨_, _, rfl, _⟩ := h
    rfl
  · obtain ⟨a, b, rfl, h0, hs, k⟩ := h
    refine ⟨_, pss_cons (ps_set (i := 2) sc_l_lowest.nd rfl (Or.inl rfl) (pe_own O__law_divisor (hr.mono (by decide)) rfl pas0 (pa_cons (pe_callB call_abs (by rfl) T.b_abs (by decide +kernel) (pa_cons (pv 0) pa_nil)) (pa_cons (pe_callB call_abs (by rfl) T.b_abs (by decide +kernel) (pa_cons (pv 1) pa_nil)) pa_nil)))) (pss_cons (ps_if (pt_cmpR op_lt (pv 1) pe_int (nomark _)) (pss_one (ps_set (i := 2) sc_l_lowest.nd rfl (Or.inl rfl) (pe_un un_neg (pv 2)))) pss_nil) (pss_one (ps_ret (pe_tup (pa_cons (pe_op op_fdivA (pv 0) (pv 2)) (pa_cons (pe_op op_fdivA (pv 1) (pv 2)) pa_nil)))))), ?_⟩
    fail "rd"
    have ea : (if a < 0 then -a else a).natAbs = a.natAbs := by split <;> omega
    have eb : (if b < 0 then -b else b).natAbs = b.natAbs := by split <;> omega
    refine ⟨by split <;> omega, by split <;> omega, ?_⟩
    rw [ea, eb]
    have c1 := nrmC_ne (a := a) h0
    have c2 := nrmC_log (a := a) h0 hs
    unfold nrm nrmC at k
    unfold nrmC at c1 c2
    fail "rd"
    refine iteD (fun y => ?_) (fun y => ?_)
    · rw [if_pos y] at k c1 c2
      fail "rd"
      intro p n_p
      generalize g_H1 : upd _ p _ = H1
      obtain ⟨s_H1, e_p⟩ := gen_new n_p g_H1
      clear g_H1
      exact k p H1 s_H1 n_p e_p
    · rw [if_neg y] at k c1 c2
      fail "rd"
      intro p n_p
      generalize g_H1 : upd _ p _ = H1
      obtain ⟨s_H1, e_p⟩ := gen_new n_p g_H1
      clear g_H1
      exact k p H1 s_H1 n_p e_p

abbrev s_l_amounts : Stmt := top 18
theorem sc_l_amounts : FnScope ["_law_bag_here", "_law_found", "_law_k", "_law_top"] ["_law_bag_here"] (defScope s_l_amounts) := ⟨rfl, rfl, rfl, by decide +kernel, rfl, by decide +kernel, by decide +kernel⟩
def sp_l_amounts (_ : PySem.W.Frag) (_ : Nat → Addr) : Sp := fun vs H Q _ => ∃ b : Addr, vs = [.ref b] ∧ ∃ L : Addr, Bag H L b ∧ ∀ (l : Addr) (H' : Hp) (xs : List V) (fs : List (Int × Int)), Keep b H H' → Bag H' L b → H l = none → H' l = some (.lst xs) → Paired (AmtAt H') xs fs → (∀ f ∈ fs, Amt f) → 1 ≤ fs.length → fs.length ≤ 8 → Q (.ref l) H'
theorem ok_l_amounts {f : Addr} {fd : FuncData} (F : Fun K "_law_amounts" "_law_amounts" s_l_amounts f fd) (T : Txt K mg ca) (O__law_draw : Own P w K mg base 1 "_law_draw" ["_law_bag_here", "_law_size"] (sp_l_draw K ca)) (O__law_lowest : Own P w K mg base 2 "_law_lowest" ["_law_top", "_law_bottom"] (sp_l_lowest K ca)) : FnOk P w K mg base (L2N.CX P w) 3 f fd ["_law_bag_here"] (sp_l_amounts K ca) := by
  refine okN F sc_l_amounts (fun vs H Q E h => ?_) (fun cdv A outer s H vs Q E hr h => ?_)
  · obtain ⟨_, rfl, _⟩ := h
    rfl
  · obtain ⟨b, rfl, L, hB, k⟩ := h
    refine ⟨_, pss_cons (ps_set (i := 1) sc_l_amounts.nd rfl (Or.inl rfl) (pe_lst pa_nil)) (pss_cons (ps_for (passes_of rfl) rfl (pi_range1 rfl T.b_range (pa_cons (pe_op op_add pe_int (pe_own O__law_draw (hr.mono (by decide)) rfl pas0 (pa_cons (pv 0) (pa_cons pe_int pa_nil)))) pa_nil)) (pg_name (i := 2) sc_l_amounts.nd rfl (Or.inl rfl)) (pss_cons (ps_set (i := 3) sc_l_amounts.nd rfl (Or.inl rfl) (pe_own O__law_draw (hr.mono (by decide)) rfl pas0 (pa_cons (pv 0) (pa_cons (pe_ix ix_list (pe_lst (pa_cons pe_int (pa_cons pe_int (pa_cons (pe_op op_pow pe_int pe_int) pa_nil)))) (pe_own O__law_draw (hr.mono (by decide)) rfl pas0 (pa_cons (pv 0) (pa_cons pe_int pa_nil))) (fun _ _ => rfl)) pa_nil)))) (pss_one (ps_expr (pe_bm PySem.F.plainAttrs_list PySem.F.slot_list_append PySem.F.type_list_append mt_append (pv 1) (pa_cons (pe_own O__law_lowest (hr.mono (by decide)) rfl pas0 (pa_cons (pv 3) (pa_cons (pe_op op_add pe_int (pe_own O__law_draw (hr.mono (by decide)) rfl pas0 (pa_cons (pv 0) (pa_cons (pe_ix ix_list (pe_lst (pa_cons pe_int (pa_cons pe_int (pa_cons pe_int pa_nil)))) (pe_own O__law_draw (hr.mono (by decide)) rfl pas0 (pa_cons (pv 0) (pa_cons pe_int pa_nil))) (fun _ _ => rfl)) pa_nil)))) pa_nil))) pa_nil)))))) (pss_one (ps_ret (pv 1)))), ?_⟩
    fail "rd"
    intro l n_l
    generalize g_H1 : upd _ l _ = H1
    obtain ⟨s_H1, e_l⟩ := gen_new n_l g_H1
    clear g_H1
    have B1 := hB.same s_H1
    have lb := hB.ne n_l
    have lL := hB.neL n_l
    fail "rd"
    refine ⟨L, B1, by decide, by decide, fun n H2 n0 n1 k2 B2 => ?_⟩
    have e_l := k2 _ _ e_l lb
    have k02 := (Keep.of s_H1).trans k2
    obtain ⟨N, rfl⟩ := Int.eq_ofNat_of_zero_le n0
    have hz : (1 + (N : Int)) < 2 ^ 62 := by
      have e : (2 : Int) ^ 62 = 4611686018427387904 := by decide
      omega
    fail "rd"
    refine ⟨by omega, hz, for_range (n := 1 + N) (fun i σ' H' => ∃ (xs : List V) (fs : List (Int × Int)) (v1 v2 : Option V), σ' = [some (.ref b), some (.ref l), v1, v2] ∧ Keep b H H' ∧ Bag H' L b ∧ H' l = some (.lst xs) ∧ Paired (AmtAt H') xs fs ∧ (∀ f ∈ fs, Amt f) ∧ fs.length = i)
      ⟨[], [], none, none, rfl, k02, B2, e_l, .nil, (fun f m => nomatch m), rfl⟩ ?_ ?_⟩
    · rintro i σ' H' hi ⟨xs, fs, v1, v2, rfl, kp, B', hl, hP, hA, hlen⟩
      have lx : xs.length = i := by rw [hP.length, hlen]
      fail "rd"
      intro q n_q
      generalize g_H3 : upd _ q _ = H3
      obtain ⟨s_H3, e_q⟩ := gen_new n_q g_H3
      clear g_H3
      have e_q : H3 q = some (.lst [.int 3, .int 12, .int (10 ^ 20)]) := e_q
      have B3 := B'.same s_H3
      fail "rd"
      refine ⟨L, B3, by decide, by decide, fun c H4 c0 c1 k4 B4 => ?_⟩
      have e_q := k4 _ _ e_q (B'.ne n_q)
      obtain ⟨m, hm, m0, m1⟩ : ∃ m : Int, atI [V.int 3, .int 12, .int (10 ^ 20)] c = some (.int m) ∧ 0 < m ∧ m ≤ 10 ^ 20 := by
        have hc : c = 0 ∨ c = 1 ∨ c = 2 := by omega
        rcases hc with rfl | rfl | rfl
        · exact ⟨3, ix_c rfl, by decide, by decide⟩
        · exact ⟨12, ix_c rfl, by decide, by decide⟩
        · exact ⟨10 ^ 20, ix_c rfl, by decide, by decide⟩
      refine ⟨_, _, _, _, rfl, rfl, SqL.of e_q, hm, ?_⟩
      fail "rd"
      have e20 : (10 : Int) ^ 20 = 100000000000000000000 := by decide
      have e70 : (2 : Nat) ^ 70 = 1180591620717411303424 := by decide
      rw [e20] at m1
      refine ⟨L, B4, m0, Sz.lg (n := 70) (show m.natAbs < 2 ^ 70 by rw [e70]; omega), fun a H5 a0 a1 k5 B5 => ?_⟩
      have hl5 : H5 l = some (.lst xs) := k5 _ _ (k4 _ _ (s_H3 _ _ hl) lb) lb
      have s35 : Keep b H' H5 := (Keep.of s_H3).trans (k4.trans k5)
      fail "rd"
      intro r n_r
      generalize g_H6 : upd _ r _ = H6
      obtain ⟨s_H6, e_r⟩ := gen_new n_r g_H6
      clear g_H6
      have e_r : H6 r = some (.lst [.int 1, .int 5, .int 100]) := e_r
      have B6 := B5.same s_H6
      fail "rd"
      refine ⟨L, B6, by decide, by decide, fun c H7 c0 c1 k7 B7 => ?_⟩
      have e_r := k7 _ _ e_r (B5.ne n_r)
      obtain ⟨m', hm, m0', m1'⟩ : ∃ m : Int, atI [V.int 1, .int 5, .int 100] c = some (.int m) ∧ 0 < m ∧ m ≤ 100 := by
        have hc : c = 0 ∨ c = 1 ∨ c = 2 := by omega
        rcases hc with rfl | rfl | rfl
        · exact ⟨1, ix_c rfl, by decide, by decide⟩
        · exact ⟨5, ix_c rfl, by decide, by decide⟩
        · exact ⟨100, ix_c rfl, by decide, by decide⟩
      refine ⟨_, _, _, _, rfl, rfl, SqL.of e_r, hm, ?_⟩
      fail "rd"
      refine ⟨L, B7, m0', lg164 (show m'.natAbs < 2 ^ 164 from Nat.lt_of_le_of_lt (show m'.natAbs ≤ 100 by omega) (by decide)), fun d H8 d0 d1 k8 B8 => ?_⟩
      have s58 : Keep b H5 H8 := (Keep.of s_H6).trans (k7.trans k8)
      have hl8 := s58 _ _ hl5 lb
      fail "rd"
      refine ⟨by omega, lg164 (show (1 + d).natAbs < 2 ^ 164 from Nat.lt_of_le_of_lt (show (1 + d).natAbs ≤ 100 by omega) (by decide)), fun p H9 s9 n9 e9 => ?_⟩
      have hl9 := s9 _ _ hl8
      fail "rd"
      refine ⟨l, xs, _, rfl, rfl, hl9, Nat.lt_of_lt_of_le (show xs.length < 2000 by omega) (line_le (by decide)), ?_⟩
      obtain ⟨xb, hxb⟩ := B'.lst
      have hP9 : Paired (AmtAt H9) xs fs := Paired.mapP hP fun _ _ z => (z.put hxb (s35.trans s58)).same s9
      have nb : (1 + d) ≠ 0 := by omega
      refine ⟨xs ++ [.ref p], fs ++ [nrm a (1 + d)], _, _, rfl, (keep_put ((kp.trans s35).trans (s58.trans (Keep.of s9))) keep_upd n_l), (B8.same s9).keep keep_upd lb lL, upd_same, ?_, ?_, ?_⟩
      · exact Paired.snoc (Paired.mapP hP9 fun _ _ z => z.put hl9 keep_upd) ⟨p, rfl, tput e9 hl9 keep_upd⟩
      · intro f m
        rcases List.mem_append.mp m with m | m
        · exact hA f m
        · rw [List.mem_singleton.mp m]
          have g1 := nrm_le1 (a := a) nb
          have g2 := nrm_le2 (a := a) nb
          have r := nrm_red (a := a) nb
          refine ⟨r, ?_, ?_, by omega⟩
          · rcases Int.lt_or_le (nrm a (1 + d)).1 0 with z | z
            · have := (nrm_lt (a := a) (b := 1 + d) (by omega)).mp z
              omega
            · exact z
          · show (nrm a (1 + d)).1.natAbs < 2 ^ 70
            rw [e70]
            omega
      · rw [List.length_append, hlen]
        rfl
    · rintro σ' H' ⟨xs, fs, v1, v2, rfl, kp, B', hl, hP, hA, hlen⟩
      fail "rd"
      exact k l H' xs fs kp B' n_l hl hP hA (by omega) (by omega)

abbrev s_l_integer : Stmt := top 15
theorem sc_l_integer : FnScope ["_law_bag_here", "_law_choice", "_law_size", "_law_value"] ["_law_bag_here"] (defScope s_l_integer) := ⟨rfl, rfl, rfl, by decide +kernel, rfl, by decide +kernel, by decide +kernel⟩
def sp_l_integer (_ : PySem.W.Frag) (_ : Nat → Addr) : Sp := fun vs H Q _ => ∃ b : Addr, vs = [.ref b] ∧ ∃ L : Addr, Bag H L b ∧ ∀ (z : Int) (H' : Hp), z.natAbs < 2 ^ 164 → Keep b H H' → Bag H' L b → Q (.int z) H'
theorem ok_l_integer {f : Addr} {fd : FuncData} (F : Fun K "_law_integer" "_law_integer" s_l_integer f fd) (T : Txt K mg ca) (O__law_draw : Own P w K mg base 1 "_law_draw" ["_law_bag_here", "_law_size"] (sp_l_draw K ca)) : FnOk P w K mg base (L2N.CX P w) 2 f fd ["_law_bag_here"] (sp_l_integer K ca) := by
  refine okN F sc_l_integer (fun vs H Q E h => ?_) (fun cdv A outer s H vs Q E hr h => ?_)
  · obtain ⟨_, rfl, _⟩ := h
    rfl
  · obtain ⟨b, rfl, L, hB, k⟩ := h
    refine ⟨_, pss_cons (ps_set (i := 1) sc_l_integer.nd rfl (Or.inl rfl) (pe_own O__law_draw (hr.mono (by decide)) rfl pas0 (pa_cons (pv 0) (pa_cons pe_int pa_nil)))) (pss_cons (ps_if (pt_cmpR op_eq (pv 1) pe_int (nomark _)) (pss_one (ps_ret pe_int)) pss_nil) (pss_cons (ps_set (i := 2) sc_l_integer.nd rfl (Or.inl rfl) (pe_ix ix_list (pe_lst (pa_cons pe_int (pa_cons pe_int (pa_cons pe_int (pa_cons pe_int (pa_cons pe_int (pa_cons (pe_op op_pow pe_int pe_int) pa_nil))))))) (pv 1) (fun _ _ => rfl))) (pss_cons (ps_set (i := 3) sc_l_integer.nd rfl (Or.inl rfl) (pe_op op_add pe_int (pe_own O__law_draw (hr.mono (by decide)) rfl pas0 (pa_cons (pv 0) (pa_cons (pv 2) pa_nil))))) (pss_cons (ps_if (pt_cmpR op_eq (pe_own O__law_draw (hr.mono (by decide)) rfl pas0 (pa_cons (pv 0) (pa_cons pe_int pa_nil))) pe_int (nomark _)) (pss_one (ps_ret (pe_un un_neg (pv 3)))) pss_nil) (pss_one (ps_ret (pv 3))))))), ?_⟩
    fail "rd"
    refine ⟨L, hB, by decide, by decide, fun c H1 c0 c1 k1 B1 => ?_⟩
    fail "rd"
    refine iteI (fun z => ?_) (fun z => ?_)
    · fail "rd"
      exact k 0 H1 (by decide) k1 B1
    · fail "rd"
      intro l n_l
      generalize g_H2 : upd _ l _ = H2
      obtain ⟨s_H2, e_l⟩ := gen_new n_l g_H2
      clear g_H2
      have e_l : H2 l = some (.lst [.int 1, .int 2, .int 3, .int 12, .int 1000, .int (10 ^ 49)]) := e_l
      have B2 := B1.same s_H2
      obtain ⟨n, hn, n0, n1⟩ : ∃ n : Int, atI [V.int 1, .int 2, .int 3, .int 12, .int 1000, .int (10 ^ 49)] c = some (.int n) ∧ 0 < n ∧ n ≤ 10 ^ 49 := by
        have hc : c = 1 ∨ c = 2 ∨ c = 3 ∨ c = 4 ∨ c = 5 := by omega
        rcases hc with rfl | rfl | rfl | rfl | rfl
        · exact ⟨2, ix_c rfl, by decide, by decide⟩
        · exact ⟨3, ix_c rfl, by decide, by decide⟩
        · exact ⟨12, ix_c rfl, by decide, by decide⟩
        · exact ⟨1000, ix_c rfl, by decide, by decide⟩
        · exact ⟨10 ^ 49, ix_c rfl, by decide, by decide⟩
      refine ⟨_, rfl, _, _, _, _, rfl, rfl, SqL.of e_l, hn, ?_⟩
      fail "rd"
      have n2 : n.natAbs < 2 ^ 164 := lt164 (by omega) (by omega)
      refine ⟨L, B2, n0, lg164 n2, fun d H3 d0 d1 k3 B3 => ?_⟩
      have k03 := (k1.trans (.of s_H2)).trans k3
      fail "rd"
      refine ⟨L, B3, by decide, by decide, fun e H4 _ _ k4 B4 => ?_⟩
      fail "rd"
      refine iteI (fun y => ?_) (fun y => ?_)
      · fail "rd"
        exact k _ H4 (lt164 (by omega) (by omega)) (k03.trans k4) B4
      · fail "rd"
        exact k _ H4 (lt164 (by omega) (by omega)) (k03.trans k4) B4

abbrev s_Ratio_init : Stmt := inClass (top 8) 0
theorem sc_Ratio_init : FnScope ["self", "top", "bottom", "common"] ["self", "top", "bottom"] (defScope s_Ratio_init) := ⟨rfl, rfl, rfl, by decide +kernel, rfl, by decide +kernel, by decide +kernel⟩
def sp_Ratio_init (_ : PySem.W.Frag) (ca : Nat → Addr) : Sp := fun vs H Q E => ∃ (p dx : Addr) (a b : Int), vs = [.ref p, .int a, .int b] ∧ H p = some (.ins (ca 2) dx []) ∧ b.natAbs.log2 < 9000 ∧ (b = 0 → E (.ref (ca 1)) none H) ∧
  (b ≠ 0 → ∀ H' : Hp, Keep p H H' → H' p = some (.ins (ca 2) dx [("top", .int (nrm a b).1), ("bottom", .int (nrm a b).2)]) → Q .non H')
theorem ok_Ratio_init {f : Addr} {fd : FuncData} (F : FunD K "__init__" "Ratio.__init__" (defArgs s_Ratio_init) (defBody s_Ratio_init) (defScope s_Ratio_init) [.int 1] [] f fd) (T : Txt K mg ca)  : FnOk P w K mg base (L2N.CX P w) 1 f fd ["self", "top", "bottom"] (sp_Ratio_init K ca) := by
  refine F.ok sc_Ratio_init (fun vs H Q E h => ?_) (fun cdv A outer s H vs Q E hr h => ?_)
  · obtain ⟨_, _, _, _, rfl, _⟩ := h
    rfl
  · obtain ⟨p, dx, a, b, rfl, hp, hs, h0, h1⟩ := h
    refine ⟨_, pss_cons (ps_if (pt_cmpR op_eq (pv 2) pe_int (nomark _)) (pss_one (L2N.ps_raise rfl (L2N.takes_of rfl rfl rfl rfl) (pmk_own0 PySem.F.excBase_ValueError T.ex_NoRatio T.g_NoRatio T.kp_NoRatio (raises_own T.sb_NoRatio T.ty_NoRatio) rfl))) pss_nil) (pss_cons (ps_set (i := 3) sc_Ratio_init.nd rfl (Or.inl rfl) (pe_callBfun cr_gcd rfl T.gcd (pa_cons (pv 1) (pa_cons (pv 2) pa_nil)))) (pss_cons (ps_if (pt_cmpR op_lt (pv 2) pe_int (nomark _)) (pss_one (ps_set (i := 3) sc_Ratio_init.nd rfl (Or.inl rfl) (pe_un un_neg (pv 3)))) pss_nil) (pss_cons (ps_fld (pv 0) (pe_op op_fdivA (pv 1) (pv 3)) rfl) (pss_one (ps_fld (pv 0) (pe_op op_fdivA (pv 2) (pv 3)) rfl))))), ?_⟩
    fail "rd"
    refine iteI (fun z => ?_) (fun z => ?_)
    · exact h0 z
    · have c1 := nrmC_ne (a := a) z
      have c2 := nrmC_log (a := a) z hs
      have fin : ∀ H' : Hp, H' = upd (upd H p (.ins (ca 2) dx (putF "top" (.int (nrm a b).1) []))) p (.ins (ca 2) dx (putF "bottom" (.int (nrm a b).2) (putF "top" (.int (nrm a b).1) []))) → Q .non H' := fun H' e => by
        subst e
        refine h1 z _ (keep_upd.trans keep_upd) ?_
        rw [upd_same, put_rat]
      unfold nrm nrmC at fin
      unfold nrmC at c1 c2
      fail "rd"
      refine iteD (fun y => ?_) (fun y => ?_)
      · rw [if_pos y] at fin c1 c2
        fail "rd"
        exact fin _ rfl
      · rw [if_neg y] at fin c1 c2
        fail "rd"
        exact fin _ rfl

abbrev s_l_handed_out : Stmt := top 19
theorem sc_l_handed_out : FnScope ["_law_bag_here", "_law_amounts_here", "_law_handed", "_law_top", "_law_bottom", "_law_amount"] ["_law_bag_here", "_law_amounts_here"] (defScope s_l_handed_out) := ⟨rfl, rfl, rfl, by decide +kernel, rfl, by decide +kernel, by decide +kernel⟩
def sp_l_handed_out (_ : PySem.W.Frag) (ca : Nat → Addr) : Sp := fun vs H Q _ => ∃ (b l : Addr) (xs : List V) (fs : List (Int × Int)), vs = [.ref b, .ref l] ∧ ∃ L : Addr, Bag H L b ∧ H l = some (.lst xs) ∧ l ≠ b ∧ Paired (AmtAt H) xs fs ∧ (∀ f ∈ fs, Red f.1 f.2 ∧ Sz 2000 f.2) ∧ fs.length ≤ 1000 ∧
  ∀ (p : Addr) (ys : List V) (H' : Hp), Keep b H H' → Bag H' L b → H p = none → H' p = some (.lst ys) → Handed ca H' ys fs → Q (.ref p) H'
theorem ok_l_handed_out {f : Addr} {fd : FuncData} (F : Fun K "_law_handed_out" "_law_handed_out" s_l_handed_out f fd) (T : Txt K mg ca) (O__law_draw : Own P w K mg base 1 "_law_draw" ["_law_bag_here", "_law_size"] (sp_l_draw K ca)) (O_Ratio_2 : OwnI P w K mg base 1 "Ratio" (ca 2) ["self", "top", "bottom"] [] (sp_Ratio_init K ca)) (O_Ratio_1 : OwnI P w K mg base 1 "Ratio" (ca 2) ["self", "top", "bottom"] [.int 1] (sp_Ratio_init K ca)) : FnOk P w K mg base (L2N.CX P w) 3 f fd ["_law_bag_here", "_law_amounts_here"] (sp_l_handed_out K ca) := by
  refine okN F sc_l_handed_out (fun vs H Q E h => ?_) (fun cdv A outer s H vs Q E hr h => ?_)
  · obtain ⟨_, _, _, _, rfl, _⟩ := h
    rfl
  · obtain ⟨b, l, xs, fs, rfl, L, hB, hl, hne, hP, hz, hn, k⟩ := h
    refine ⟨_, pss_cons (ps_set (i := 2) sc_l_handed_out.nd rfl (Or.inl rfl) (pe_lst pa_nil)) (pss_cons (ps_for (passes_of rfl) rfl (pi_list (pv 1)) (pg_tup rfl (pgs_cons (pg_name (i := 3) sc_l_handed_out.nd rfl (Or.inl rfl)) (pgs_cons (pg_name (i := 4) sc_l_handed_out.nd rfl (Or.inl rfl)) pgs_nil))) (pss_cons (ps_set (i := 5) sc_l_handed_out.nd rfl (Or.inl rfl) (pe_owni O_Ratio_2 (hr.mono (by decide)) rfl pas0 (pa_cons (pv 3) (pa_cons (pv 4) pa_nil)))) (Evl.pss_cut (ps_if (PW.pt (pw_and (pt_cmpR op_eq (pv 4) pe_int (nomark _)) (pw_and1 (pt_cmpR op_eq (pe_own O__law_draw (hr.mono (by decide)) rfl pas0 (pa_cons (pv 0) (pa_cons pe_int pa_nil))) pe_int (nomark _))))) (pss_one (ps_set (i := 5) sc_l_handed_out.nd rfl (Or.inl rfl) (pv 3))) pss_nil) (pss_one (ps_expr (pe_bm PySem.F.plainAttrs_list PySem.F.slot_list_append PySem.F.type_list_append mt_append (pv 2) (pa_cons (pv 5) pa_nil))))))) (pss_one (ps_ret (pv 2)))), ?_⟩
    have hlen : xs.length = fs.length := hP.length
    fail "rd"
    intro p n_p
    generalize g_H1 : upd _ p _ = H1
    obtain ⟨s_H1, e_p⟩ := gen_new n_p g_H1
    clear g_H1
    have B1 := hB.same s_H1
    have pb := hB.ne n_p
    have pL := hB.neL n_p
    have lp : l ≠ p := ne_of_none hl n_p
    have hl1 := s_H1 _ _ hl
    have hP1 : Paired (AmtAt H1) xs fs := Paired.mapP hP fun _ _ z => z.same s_H1
    fail "rd"
    refine for_list (K := K) (a := l) (xs := xs) (fun i σ' H' => ∃ (ys : List V) (v1 v2 v3 : Option V), σ' = [some (.ref b), some (.ref l), some (.ref p), v1, v2, v3] ∧ Keep b H H' ∧ Bag H' L b ∧ H' l = some (.lst xs) ∧ Paired (AmtAt H') xs fs ∧ H' p = some (.lst ys) ∧ Handed ca H' ys (fs.take i))
      ⟨[], none, none, none, rfl, Keep.of s_H1, B1, hl1, hP1, e_p, .nil⟩ (fun i σ' H' _ ⟨_, _, _, _, _, _, _, e, _⟩ => SqL.of e) ?_ ?_
    · rintro i x σ' H' hi ⟨ys, v1, v2, v3, rfl, kp, B', hl', hP', hp', hY⟩
      have li : i < fs.length := by rw [← hlen]; exact (List.getElem?_eq_some_iff.mp hi).1
      have hf : fs[i]? = some fs[i] := List.getElem?_eq_getElem li
      obtain ⟨q, rfl, eq⟩ := paired_get hP' hi hf
      obtain ⟨hr, hs⟩ := hz _ (List.mem_of_getElem? hf)
      have h0 := hr.pos
      fail "rd"
      intro r d_r n_r nd_r ne_r
      refine ⟨r, d_r, _, _, rfl, upd_same, hs.lg, fun z => absurd z (by omega), fun _ H2 k_r e_r => ⟨rfl, ?_⟩⟩
      have s_H2 := same_made n_r nd_r ne_r k_r
      have R : RatAt ca H2 r fs[i].1 fs[i].2 := RatAt.mk hr e_r
      have B2 := B'.same s_H2
      have hP2 : Paired (AmtAt H2) xs fs := Paired.mapP hP' fun _ _ z => z.same s_H2
      have hY2 := hY.same s_H2
      have hp2 := s_H2 _ _ hp'
      fail "rd"
      refine ⟨fun σ2 H3 => ∃ z, σ2 = [some (.ref b), some (.ref l), some (.ref p), some (.int fs[i].1), some (.int fs[i].2), some z] ∧ Keep b H2 H3 ∧ Bag H3 L b ∧ NumV ca H3 z fs[i].1 fs[i].2, ?_, ?_⟩
      · fail "rd"
        refine iteI (fun y => ?_) (fun y => ?_)
        · fail "rd"
          refine ⟨L, B2, by decide, by decide, fun c H3 _ _ k3 B3 => ?_⟩
          fail "rd"
          obtain ⟨xb, hxb⟩ := B2.lst
          refine iteI (fun _ => ?_) (fun _ => ?_)
          · fail "rd"
            exact ⟨k3, B3, .inl ⟨rfl, y⟩⟩
          · fail "rd"
            exact ⟨k3, B3, .inr ⟨r, rfl, R.keep hxb (fun _ _ _ z => nomatch z) k3⟩⟩
        · fail "rd"
          exact ⟨Keep.of (Same.refl _), B2, .inr ⟨r, rfl, R⟩⟩
      · rintro σ2 H3 ⟨z, rfl, k3, B3, hz3⟩
        obtain ⟨xb, hxb⟩ := B2.lst
        have hp3 := k3 _ _ hp2 pb
        have hY3 := hY2.put hxb k3
        have hP3 : Paired (AmtAt H3) xs fs := Paired.mapP hP2 fun _ _ z => z.put hxb k3
        have hl3 := k3 _ _ (s_H2 _ _ hl') hne
        have ly : ys.length = i := by rw [hY.length, List.length_take]; omega
        fail "rd"
        refine ⟨p, ys, _, rfl, rfl, hp3, Nat.lt_of_lt_of_le (show ys.length < 2000 by omega) (line_le (by decide)), ?_⟩
        refine ⟨ys ++ [z], _, _, _, rfl, keep_put (kp.trans ((Keep.of s_H2).trans k3)) keep_upd n_p, B3.keep keep_upd pb pL, une lp hl3, Paired.mapP hP3 fun _ _ z => z.put hp3 keep_upd, upd_same, ?_⟩
        rw [List.take_add_one, hf]
        exact Paired.snoc (Handed.put hY3 hp3 keep_upd) (hz3.put hp3 keep_upd)
    · rintro σ' H' ⟨ys, v1, v2, v3, rfl, kp, B', hl', hP', hp', hY⟩
      rw [hlen, List.take_length] at hY
      fail "rd"
      exact k p ys H' kp B' n_p hp' hY

abbrev s_l_common : Stmt := top 20
theorem sc_l_common : FnScope ["_law_amounts_here", "_law_bottom", "_law_top", "_law_part"] ["_law_amounts_here"] (defScope s_l_common) := ⟨rfl, rfl, rfl, by decide +kernel, rfl, by decide +kernel, by decide +kernel⟩
def sp_l_common (_ : PySem.W.Frag) (_ : Nat → Addr) : Sp := fun vs H Q _ => ∃ (l : Addr) (xs : List V) (fs : List (Int × Int)), vs = [.ref l] ∧ H l = some (.lst xs) ∧ Paired (AmtAt H) xs fs ∧ (∀ f ∈ fs, Sz 2000 f.1 ∧ 0 < f.2) ∧ Sz 2000 (lcmL fs : Int) ∧ fs.length ≤ 1000 ∧
  ∀ (p : Addr) (H' : Hp), Same H H' → H p = none → H' p = some (.lst ((topsL fs).map V.int)) → Q (.ref p) H'
theorem ok_l_common {f : Addr} {fd : FuncData} (F : Fun K "_law_common" "_law_common" s_l_common f fd) (T : Txt K mg ca) (O__law_divisor : Own P w K mg base 1 "_law_divisor" ["_law_one", "_law_other"] (sp_l_divisor K ca)) : FnOk P w K mg base (L2N.CX P w) 2 f fd ["_law_amounts_here"] (sp_l_common K ca) := by
  refine okN F sc_l_common (fun vs H Q E h => ?_) (fun cdv A outer s H vs Q E hr h => ?_)
  · obtain ⟨_, _, _, rfl, _⟩ := h
    rfl
  · obtain ⟨l, xs, fs, rfl, hl, hP, hz, zl, hn, k⟩ := h
    refine ⟨_, pss_cons (ps_set (i := 1) sc_l_common.nd rfl (Or.inr rfl) pe_int) (pss_cons (ps_for (passes_of rfl) rfl (pi_list (pv 0)) (pg_tup rfl (pgs_cons (pg_name (i := 2) sc_l_common.nd rfl (Or.inl rfl)) (pgs_cons (pg_name (i := 3) sc_l_common.nd rfl (Or.inl rfl)) pgs_nil))) (pss_one (ps_set (i := 1) sc_l_common.nd rfl (Or.inr rfl) (pe_op op_fdivW (pe_op op_mulI (pv 1) (pv 3)) (pe_own O__law_divisor (hr.mono (by decide)) rfl pas0 (pa_cons (pv 1) (pa_cons (pv 3) pa_nil))))))) (pss_one (ps_ret (pe_lc (own := [("_law_top", 2), ("_law_part", 3)]) (g := gTup K 2 (gCons (gName 2) (gCons (gName 3) gNil))) (tt := tYes) rfl sc_l_common.nd (pi_list (pv 0)) (blkOk_by (N := ["_law_amounts_here", "_law_bottom", "_law_top", "_law_part"]) (sc := defScope s_l_common) (by decide +kernel)) (fun _ _ _ _ _ => pg_tup rfl (pgs_cons (pg_name (i := 2) sc_l_common.nd rfl (Or.inl rfl)) (pgs_cons (pg_name (i := 3) sc_l_common.nd rfl (Or.inl rfl)) pgs_nil))) (fun _ _ _ _ _ => pts_nil) (fun _ _ _ _ _ => pe_op op_mulI (pv 2) (pe_op op_fdivW (pv 1) (pv 3))))))), ?_⟩
    have hlen : xs.length = fs.length := hP.length
    have hpos : ∀ f ∈ fs, 0 < f.2 := fun f m => (hz f m).2
    have hL := lcmL_pos hpos
    fail "rd"
    refine for_list (K := K) (a := l) (xs := xs) (fun i σ' H' => ∃ v1 v2, σ' = [some (.ref l), some (.int (lcmL (fs.take i))), v1, v2] ∧ H = H') ⟨none, none, rfl, rfl⟩ (fun i σ' H' _ ⟨_, _, _, e⟩ => by rw [← e]; exact SqL.of hl) ?_ ?_
    · rintro i x σ' H' hi ⟨v1, v2, rfl, rfl⟩
      have li : i < fs.length := by rw [← hlen]; exact (List.getElem?_eq_some_iff.mp hi).1
      have hf : fs[i]? = some fs[i] := List.getElem?_eq_getElem li
      obtain ⟨q, rfl, eq⟩ := paired_get hP hi hf
      have m := List.mem_of_getElem? hf
      have b0 := hpos _ m
      have bz : Sz 2000 fs[i].2 := (dvd_sz (lcmL_dvd m) hL zl).le (by omega)
      have lz := dvd_sz (n := 2000) (lcmL_take (fs := fs) i) hL zl
      have en : lcmL (fs.take (i + 1)) = Nat.lcm (lcmL (fs.take i)) fs[i].2.natAbs := by rw [List.take_add_one, hf]; exact lcmL_snoc
      have m1 : IntMulOk (lcmL (fs.take i) : Int) fs[i].2 := lz.mok bz
      fail "rd"
      have g0 : 0 < Nat.gcd (lcmL (fs.take i)) fs[i].2.natAbs := Nat.gcd_pos_of_pos_right _ (by omega)
      have g1 : Nat.gcd (lcmL (fs.take i)) fs[i].2.natAbs ≤ fs[i].2.natAbs := Nat.gcd_le_right _ (by omega)
      have eq2 : ((lcmL (fs.take i) : Int) * fs[i].2) / ((Nat.gcd (lcmL (fs.take i)) fs[i].2.natAbs : Nat) : Int) = (lcmL (fs.take (i + 1)) : Int) := by
        rw [en]
        unfold Nat.lcm
        rw [Int.natCast_ediv, Int.natCast_mul]
        have : ((fs[i].2.natAbs : Nat) : Int) = fs[i].2 := by omega
        rw [this]
      refine ⟨by omega, by omega, ?_⟩
      rw [Int.natAbs_natCast]
      fail "rd"
      refine ⟨⟨by omega, (bz.le (y := ((Nat.gcd (lcmL (fs.take i)) fs[i].2.natAbs : Nat) : Int)) (by omega)).lg⟩, ?_⟩
      fail "rd"
      exact ⟨_, _, by rw [← eq2]; rfl, rfl⟩
    · rintro σ' H' ⟨v1, v2, rfl, rfl⟩
      rw [hlen, List.take_length]
      fail "rd"
      intro p np
      refine lc_list (K := K) (a := l) (xs := xs) (fun i H2 => H2 = upd H p (.lst (((topsL fs).take i).map V.int))) (by rw [List.take_zero]; rfl) (fun i H2 _ e => by rw [e]; exact SqL.of (une (ne_of_none hl np) hl)) ?_ ?_
      · rintro i x H2 hi rfl
        have li : i < fs.length := by rw [← hlen]; exact (List.getElem?_eq_some_iff.mp hi).1
        have hf : fs[i]? = some fs[i] := List.getElem?_eq_getElem li
        obtain ⟨q, rfl, eq⟩ := paired_get hP hi hf
        have eq := une (u := .lst (((topsL fs).take i).map V.int)) (ne_of_none eq np) eq
        have m := List.mem_of_getElem? hf
        have b0 := hpos _ m
        have bz : Sz 2000 fs[i].2 := (dvd_sz (lcmL_dvd m) hL zl).le (by omega)
        have pz := part_sz hpos zl m
        have tz := (hz _ m).1
        fail "rd"
        refine ⟨⟨b0, bz.lg⟩, ?_⟩
        fail "rd"
        refine ⟨tz.mok pz, ?_⟩
        have lt : ((topsL fs).take i).length = i := by rw [List.length_take, topsL_len]; omega
        refine ⟨_, upd_same, Nat.lt_of_lt_of_le (show (((topsL fs).take i).map V.int).length < 20000 by rw [List.length_map, lt]; omega) (line_le (by decide)), ?_⟩
        have e : (topsL fs)[i]? = some (fs[i].1 * ((lcmL fs : Int) / fs[i].2)) := by
          unfold topsL
          rw [List.getElem?_map, hf]
          rfl
        rw [upd_upd, List.take_add_one, e]
        simp
      · rintro H2 rfl
        rw [hlen, ← topsL_len, List.take_length]
        generalize hG : upd H p (.lst ((topsL fs).map V.int)) = H3
        obtain ⟨s3, e3⟩ := gen_new np hG
        exact k p H3 s3 np e3

abbrev s_as_ratio : Stmt := top 6
theorem sc_as_ratio : FnScope ["number"] ["number"] (defScope s_as_ratio) := ⟨rfl, rfl, rfl, by decide +kernel, rfl, by decide +kernel, by decide +kernel⟩
def sp_as_ratio (_ : PySem.W.Frag) (ca : Nat → Addr) : Sp := fun vs H Q _ => ∃ (x : V) (t b : Int), vs = [x] ∧ NumV ca H x t b ∧ ∀ (p : Addr) (H' : Hp), Same H H' → RatAt ca H' p t b → Q (.ref p) H'
theorem ok_as_ratio {f : Addr} {fd : FuncData} (F : Fun K "as_ratio" "as_ratio" s_as_ratio f fd) (T : Txt K mg ca) (O_Ratio_2 : OwnI P w K mg base 1 "Ratio" (ca 2) ["self", "top", "bottom"] [] (sp_Ratio_init K ca)) (O_Ratio_1 : OwnI P w K mg base 1 "Ratio" (ca 2) ["self", "top", "bottom"] [.int 1] (sp_Ratio_init K ca)) : FnOk P w K mg base (L2N.CX P w) 3 f fd ["number"] (sp_as_ratio K ca) := by
  refine okN F sc_as_ratio (fun vs H Q E h => ?_) (fun cdv A outer s H vs Q E hr h => ?_)
  · obtain ⟨_, _, _, rfl, _⟩ := h
    rfl
  · obtain ⟨x, t, b, rfl, hn, k⟩ := h
    refine ⟨_, pss_cons (ps_if (pt_val (pe_callB call_isi (by rfl) T.b_isinstance (by decide +kernel) (pa_cons (pv 0) (pa_cons (pe_glob (v := .ref (ca 2)) (by rfl) T.g_Ratio rfl) pa_nil)))) (pss_one (ps_ret (pv 0))) pss_nil) (pss_one (ps_ret (pe_owni O_Ratio_1 (hr.mono (by decide)) rfl pas0 (pa_cons (pv 0) pa_nil)))), ?_⟩
    rcases hn with ⟨rfl, rfl⟩ | ⟨p, rfl, hR⟩
    · fail "rd"
      refine ⟨_, _, _, _, _, rfl, .own _, .base (.int _), T.ki_int_Ratio, ?_⟩
      fail "rd"
      intro p dx np nd ne
      refine ⟨p, dx, t, 1, rfl, upd_same, by decide, fun z => absurd z (by decide), fun _ H2 k2 e2 => ⟨rfl, ?_⟩⟩
      refine k p H2 (same_made np nd ne k2) ⟨red_one, dx, ?_⟩
      rw [e2, nrm_one]
    · obtain ⟨hr1, dx, hp⟩ := id hR
      fail "rd"
      refine ⟨_, _, _, _, _, rfl, .own _, .base (.ins hp T.cl_Ratio T.ic_Ratio T.in_Ratio T.it_Ratio T.im_Ratio), kit_self, ?_⟩
      fail "rd"
      exact k p H (Same.refl H) hR

abbrev s_over_one_bottom : Stmt := top 7
theorem sc_over_one_bottom : FnScope ["numbers", "ratios", "bottom", "ratio", "number"] ["numbers"] (defScope s_over_one_bottom) := ⟨rfl, rfl, rfl, by decide +kernel, rfl, by decide +kernel, by decide +kernel⟩
def sp_over_one_bottom (K : PySem.W.Frag) (ca : Nat → Addr) : Sp := fun vs H Q _ => ∃ (l : Addr) (xs : List V) (fs : List (Int × Int)), vs = [.ref l] ∧ SqL K H l xs ∧ Handed ca H xs fs ∧ (∀ f ∈ fs, Sz 8000 f.1 ∧ 0 < f.2) ∧ Sz 8000 (lcmL fs : Int) ∧ fs.length ≤ 10000 ∧
  ∀ (t p : Addr) (H' : Hp), Same H H' → H t = none → H p = none → p ≠ t → H' t = some (.tup [.ref p, .int (lcmL fs)]) → H' p = some (.lst ((topsL fs).map V.int)) → Q (.ref t) H'
theorem ok_over_one_bottom {f : Addr} {fd : FuncData} (F : Fun K "over_one_bottom" "over_one_bottom" s_over_one_bottom f fd) (T : Txt K mg ca) (O_as_ratio : Own P w K mg base 3 "as_ratio" ["number"] (sp_as_ratio K ca)) : FnOk P w K mg base (L2N.CX P w) 4 f fd ["numbers"] (sp_over_one_bottom K ca) := by
  refine okN F sc_over_one_bottom (fun vs H Q E h => ?_) (fun cdv A outer s H vs Q E hr h => ?_)
  · obtain ⟨_, _, _, rfl, _⟩ := h
    rfl
  · obtain ⟨l, xs, fs, rfl, hl, hP, hz, zl, hn, k⟩ := h
    refine ⟨_, pss_cons (ps_setLc (i := 1) (own := [("number", 4)]) (g := gName 4) (tt := tYes) rfl sc_over_one_bottom.nd rfl rfl (sw_true rfl rfl rfl (by decide +kernel)) (pi_list (pv 0)) (blkOk_by (N := ["numbers", "ratios", "bottom", "ratio", "number"]) (sc := defScope s_over_one_bottom) (by decide +kernel)) (fun _ _ _ _ _ => pg_name (i := 4) sc_over_one_bottom.nd rfl (Or.inl rfl)) (fun _ _ _ _ _ => pts_nil) (fun _ _ _ _ _ => pe_own O_as_ratio (hr.mono (by decide)) rfl pas0 (pa_cons (pv 4) pa_nil))) (pss_cons (ps_set (i := 2) sc_over_one_bottom.nd rfl (Or.inr rfl) pe_int) (pss_cons (ps_for (passes_of rfl) rfl (pi_list (pv 1)) (pg_name (i := 3) sc_over_one_bottom.nd rfl (Or.inl rfl)) (pss_one (ps_set (i := 2) sc_over_one_bottom.nd rfl (Or.inr rfl) (pe_callBfun cr_lcm rfl T.lcm (pa_cons (pv 2) (pa_cons (pe_fld (pv 3) rfl) pa_nil)))))) (pss_one (ps_ret (pe_tup (pa_cons (pe_lc (own := [("ratio", 3)]) (g := gName 3) (tt := tYes) rfl sc_over_one_bottom.nd (pi_list (pv 1)) (blkOk_by (N := ["numbers", "ratios", "bottom", "ratio", "number"]) (sc := defScope s_over_one_bottom) (by decide +kernel)) (fun _ _ _ _ _ => pg_name (i := 3) sc_over_one_bottom.nd rfl (Or.inl rfl)) (fun _ _ _ _ _ => pts_nil) (fun _ _ _ _ _ => pe_op op_mulI (pe_fldK (K := K) (pv 3) rfl rfl) (pe_op op_fdivW (pv 2) (pe_fldK (K := K) (pv 3) rfl rfl)))) (pa_cons (pv 2) pa_nil))))))), ?_⟩
    have hlen : xs.length = fs.length := hP.length
    have hpos : ∀ f ∈ fs, 0 < f.2 := fun f m => (hz f m).2
    have hL := lcmL_pos hpos
    fail "rd"
    intro D nD
    refine lc_list (K := K) (a := l) (xs := xs) (fun i H' => Same H H' ∧ ∃ rs, H' D = some (.lst rs) ∧ Paired (fun x f => ∃ q, x = .ref q ∧ RatAt ca H' q f.1 f.2) rs (fs.take i)) ⟨same_upd nD, [], upd_same, .nil⟩ (fun i H' _ s => SqL.same s.1 hl) ?_ ?_
    · rintro i x H1 hi ⟨s1, rs, eD, hR⟩
      have li : i < fs.length := by rw [← hlen]; exact (List.getElem?_eq_some_iff.mp hi).1
      have hf : fs[i]? = some fs[i] := List.getElem?_eq_getElem li
      have hx := (paired_get hP hi hf).same s1
      fail "rd"
      refine ⟨x, _, _, rfl, hx, fun q H2 s2 hq => ?_⟩
      have e2 := s2 _ _ eD
      have lr : rs.length = i := by rw [hR.length, List.length_take]; omega
      refine ⟨rs, e2, Nat.lt_of_lt_of_le (show rs.length < 20000 by omega) (line_le (by decide)), ?_⟩
      refine ⟨fun b o e => ?_, _, upd_same, ?_⟩
      · rw [upd_ne (ne_of_none e nD)]
        exact s2 _ _ (s1 _ _ e)
      · rw [List.take_add_one, hf]
        exact Paired.snoc (Paired.mapP hR fun y f ⟨q, e, r⟩ => ⟨q, e, (r.same s2).keep e2 (fun _ _ _ z => nomatch z) keep_upd⟩) ⟨q, rfl, hq.keep e2 (fun _ _ _ z => nomatch z) keep_upd⟩
    · rintro H1 ⟨s1, rs, eD, hR⟩
      rw [hlen, List.take_length] at hR
      have lr : rs.length = fs.length := hR.length
      fail "rd"
      refine for_list (K := K) (a := D) (xs := rs) (fun i σ' H' => ∃ v, σ' = [some (.ref l), some (.ref D), some (.int (lcmL (fs.take i))), v, none] ∧ H1 = H') ⟨none, rfl, rfl⟩ (fun i σ' H' _ ⟨_, _, e⟩ => by rw [← e]; exact SqL.of eD) ?_ ?_
      · rintro i x σ' H' hi ⟨v, rfl, rfl⟩
        have li : i < fs.length := by rw [← lr]; exact (List.getElem?_eq_some_iff.mp hi).1
        have hf : fs[i]? = some fs[i] := List.getElem?_eq_getElem li
        obtain ⟨q, rfl, hq⟩ := paired_get hR hi hf
        obtain ⟨_, dx, eq⟩ := id hq
        have m := List.mem_of_getElem? hf
        fail "rd"
        have en : Nat.lcm (lcmL (fs.take i)) fs[i].2.natAbs = lcmL (fs.take (i + 1)) := by rw [List.take_add_one, hf]; exact lcmL_snoc.symm
        refine ⟨dvd_sz (lcmL_take i) hL zl, ?_, ?_, ?_⟩
        · have := hpos _ m
          have h := dvd_sz (lcmL_dvd m) hL zl
          exact h.le (by omega)
        · rw [Int.natAbs_natCast, en]
          exact dvd_sz (lcmL_take _) hL zl
        · rw [Int.natAbs_natCast, en]
          exact ⟨_, rfl, rfl⟩
      · rintro σ' H' ⟨v, rfl, rfl⟩
        rw [lr, List.take_length]
        fail "rd"
        intro p np
        refine lc_list (K := K) (a := D) (xs := rs) (fun i H2 => H2 = upd H1 p (.lst (((topsL fs).take i).map V.int))) (by rw [List.take_zero]; rfl) (fun i H2 _ e => by rw [e]; exact SqL.of (une (ne_of_none eD np) eD)) ?_ ?_
        · rintro i x H2 hi rfl
          have li : i < fs.length := by rw [← lr]; exact (List.getElem?_eq_some_iff.mp hi).1
          have hf : fs[i]? = some fs[i] := List.getElem?_eq_getElem li
          obtain ⟨q, rfl, hq⟩ := paired_get hR hi hf
          obtain ⟨_, dx, eq⟩ := id hq
          have eq := une (u := .lst (((topsL fs).take i).map V.int)) (ne_of_none eq np) eq
          have m := List.mem_of_getElem? hf
          have b0 := hpos _ m
          have bz : Sz 8000 fs[i].2 := (dvd_sz (lcmL_dvd m) hL zl).le (by omega)
          have pz := part_sz hpos zl m
          have tz := (hz _ m).1
          fail "rd"
          refine ⟨⟨b0, bz.lg⟩, ?_⟩
          fail "rd"
          refine ⟨tz.mok pz, ?_⟩
          have lt : ((topsL fs).take i).length = i := by rw [List.length_take, topsL_len]; omega
          refine ⟨_, upd_same, Nat.lt_of_lt_of_le (show (((topsL fs).take i).map V.int).length < 20000 by rw [List.length_map, lt]; omega) (line_le (by decide)), ?_⟩
          have e : (topsL fs)[i]? = some (fs[i].1 * ((lcmL fs : Int) / fs[i].2)) := by
            unfold topsL
            rw [List.getElem?_map, hf]
            rfl
          rw [upd_upd, List.take_add_one, e]
          simp
        · rintro H2 rfl
          rw [lr, ← topsL_len, List.take_length]
          generalize hG : upd H1 p (.lst ((topsL fs).map V.int)) = H3
          obtain ⟨s3, e3⟩ := gen_new np hG
          fail "rd"
          intro t n_t
          generalize g_H4 : upd _ t _ = H4
          obtain ⟨s_H4, e_t⟩ := gen_new n_t g_H4
          clear g_H4
          have sA := (s1.trans s3).trans s_H4
          exact k t p H4 sA (s1.trans s3 |>.free n_t) (s1.free np) (ne_of_none e3 n_t) e_t (s_H4 _ _ e3)

abbrev s_Ratio_nearest : Stmt := inClass (top 8) 14
theorem sc_Ratio_nearest : FnScope ["self"] ["self"] (defScope s_Ratio_nearest) := ⟨rfl, rfl, rfl, by decide +kernel, rfl, by decide +kernel, by decide +kernel⟩
def sp_Ratio_nearest (_ : PySem.W.Frag) (ca : Nat → Addr) : Sp := fun vs H Q _ => ∃ (p : Addr) (t b : Int), vs = [.ref p] ∧ RatAt ca H p t b ∧ (2 * b).natAbs.log2 < 9000 ∧ Q (.int ((2 * t + b) / (2 * b))) H
theorem ok_Ratio_nearest {f : Addr} {fd : FuncData} (F : Fun K "nearest" "Ratio.nearest" s_Ratio_nearest f fd) (T : Txt K mg ca)  : FnOk P w K mg base (L2N.CX P w) 1 f fd ["self"] (sp_Ratio_nearest K ca) := by
  refine okN F sc_Ratio_nearest (fun vs H Q E h => ?_) (fun cdv A outer s H vs Q E hr h => ?_)
  · obtain ⟨_, _, _, rfl, _⟩ := h
    rfl
  · obtain ⟨p, t, b, rfl, hR, hs, k⟩ := h
    obtain ⟨hr, dx, hp⟩ := hR
    have hb := hr.pos
    refine ⟨_, pss_one (ps_ret (pe_op op_fdivW (pe_op op_add (pe_op op_mulI pe_int (pe_fld (pv 0) rfl)) (pe_fld (pv 0) rfl)) (pe_op op_mulI pe_int (pe_fld (pv 0) rfl)))), ?_⟩
    fail "rd"
    exact k

abbrev s_dealt : Stmt := top 10
theorem sc_dealt : FnScope ["cents", "amounts", "tops", "_", "total", "parts", "reached", "before", "top", "after"] ["cents", "amounts"] (defScope s_dealt) := ⟨rfl, rfl, rfl, by decide +kernel, rfl, by decide +kernel, by decide +kernel⟩
def sp_dealt (K : PySem.W.Frag) (ca : Nat → Addr) : Sp := fun vs H Q E => ∃ (c : Int) (l : Addr) (xs : List V) (fs : List (Int × Int)), vs = [.int c, .ref l] ∧ SqL K H l xs ∧ Handed ca H xs fs ∧ (∀ f ∈ fs, Sz 2000 f.1 ∧ 0 < f.2) ∧ Sz 2000 (lcmL fs : Int) ∧ Sz 1000 c ∧ fs.length ≤ 1000 ∧
  (BadA fs → ∀ H' : Hp, Same H H' → E (.ref (ca 1)) none H') ∧ (¬ BadA fs → ∀ (q : Addr) (H' : Hp), Same H H' → H q = none → H' q = some (.lst ((dealtL c (topsL fs).sum (topsL fs)).map V.int)) → Q (.ref q) H')
theorem ok_dealt {f : Addr} {fd : FuncData} (F : Fun K "dealt" "dealt" s_dealt f fd) (T : Txt K mg ca) (O_over_one_bottom : Own P w K mg base 4 "over_one_bottom" ["numbers"] (sp_over_one_bottom K ca)) (O_Ratio_2 : OwnI P w K mg base 1 "Ratio" (ca 2) ["self", "top", "bottom"] [] (sp_Ratio_init K ca)) (O_Ratio_1 : OwnI P w K mg base 1 "Ratio" (ca 2) ["self", "top", "bottom"] [.int 1] (sp_Ratio_init K ca)) (O_Ratio_nearest : OwnM P w K mg base 1 (ca 2) "nearest" ["self"] (sp_Ratio_nearest K ca)) : FnOk P w K mg base (L2N.CX P w) 5 f fd ["cents", "amounts"] (sp_dealt K ca) := by
  refine okN F sc_dealt (fun vs H Q E h => ?_) (fun cdv A outer s H vs Q E hr h => ?_)
  · obtain ⟨_, _, _, _, rfl, _⟩ := h
    rfl
  · obtain ⟨c, l, xs, fs, rfl, hl, hP, hz, zl, zc, hn, kE, k⟩ := h
    refine ⟨_, pss_cons (ps_asg (pe_own O_over_one_bottom (hr.mono (by decide)) rfl (pasE (L2N.takes_of rfl rfl rfl rfl)) (pa_cons (pv 1) pa_nil)) (pg_tup rfl (pgs_cons (pg_name (i := 2) sc_dealt.nd rfl (Or.inl rfl)) (pgs_cons (pg_name (i := 3) sc_dealt.nd rfl (Or.inl rfl)) pgs_nil)))) (pss_cons (ps_set (i := 4) sc_dealt.nd rfl (Or.inl rfl) (pe_callB (cr_sum rfl) (by rfl) T.b_sum (by decide +kernel) (pa_cons (pv 2) pa_nil))) (pss_cons (ps_if (PW.pt (pw_or (pt_cmpR op_eq (pv 4) pe_int (nomark _)) (pw_or1 (pt_cmpR op_lt (pe_callB (cr_min rfl) (by rfl) T.b_min (by decide +kernel) (pa_cons (pv 2) pa_nil)) pe_int (nomark _))))) (pss_one (L2N.ps_raise rfl (L2N.takes_of rfl rfl rfl rfl) (pmk_own0 PySem.F.excBase_ValueError T.ex_NoRatio T.g_NoRatio T.kp_NoRatio (raises_own T.sb_NoRatio T.ty_NoRatio) rfl))) pss_nil) (pss_cons (ps_set (i := 5) sc_dealt.nd rfl (Or.inl rfl) (pe_lst pa_nil)) (pss_cons (ps_set (i := 6) sc_dealt.nd rfl (Or.inl rfl) pe_int) (pss_cons (ps_set (i := 7) sc_dealt.nd rfl (Or.inl rfl) pe_int) (pss_cons (ps_for (passes_of rfl) rfl (pi_list (pv 2)) (pg_name (i := 8) sc_dealt.nd rfl (Or.inl rfl)) (pss_cons (ps_set (i := 6) sc_dealt.nd rfl (Or.inl rfl) (pe_op op_add (pv 6) (pv 8))) (pss_cons (ps_set (i := 9) sc_dealt.nd rfl (Or.inl rfl) (pe_ownm0 O_Ratio_nearest (pe_owni O_Ratio_2 (hr.mono (by decide)) rfl (pasE (L2N.takes_of rfl rfl rfl rfl)) (pa_cons (pe_op op_mulI (pv 0) (pv 6)) (pa_cons (pv 4) pa_nil))) (hr.mono (by decide)) (pasE (L2N.takes_of rfl rfl rfl rfl)))) (pss_cons (ps_expr (pe_bm PySem.F.plainAttrs_list PySem.F.slot_list_append PySem.F.type_list_append mt_append (pv 5) (pa_cons (pe_op op_sub (pv 9) (pv 7)) pa_nil))) (pss_one (ps_set (i := 7) sc_dealt.nd rfl (Or.inl rfl) (pv 9))))))) (pss_one (ps_ret (pv 5))))))))), ?_⟩
    have hpos : ∀ f ∈ fs, 0 < f.2 := fun f m => (hz f m).2
    fail "rd"
    refine ⟨l, xs, fs, rfl, hl, hP, fun f m => ⟨(hz f m).1.mono, (hz f m).2⟩, zl.mono, by omega, fun t p H1 s1 nt np npt et ep => ?_⟩
    have tsz : ∀ w ∈ topsL fs, Sz 4000 w := fun w m => by
      obtain ⟨f, mf, rfl⟩ := List.mem_map.mp m
      exact (hz f mf).1.mul (part_sz hpos zl mf)
    have ssz := sumT_sz tsz (show (topsL fs).length ≤ 1000 by rw [topsL_len]; exact hn)
    have zT : Sz 5000 (topsL fs).sum := by rw [← sumT_all]; exact ssz _
    fail "rd"
    refine ⟨p, topsL fs, rfl, SqL.of ep, ?_⟩
    fail "rd"
    refine iteI (fun z => ?_) (fun z => ?_)
    · fail "rd"
      exact kE (.inl z) H1 s1
    · have n0 : topsL fs ≠ [] := fun e => z (by rw [e]; rfl)
      fail "rd"
      refine ⟨p, topsL fs, rfl, SqL.of ep, List.length_pos_iff.mpr n0, fun m hm hl => ?_⟩
      fail "rd"
      refine iteD (fun y => ?_) (fun y => ?_)
      · fail "rd"
        exact kE (.inr ⟨m, hm, y⟩) H1 s1
      · have nb : ¬ BadA fs := fun b => b.elim z fun ⟨t, mt, lt⟩ => y (Int.lt_of_le_of_lt (hl t mt) lt)
        obtain ⟨h0, hT⟩ := not_bad nb
        have hlt := topsL_len (fs := fs)
        generalize hws : topsL fs = ws at *
        fail "rd"
        intro q n_q
        generalize g_H2 : upd _ q _ = H2
        obtain ⟨s_H2, e_q⟩ := gen_new n_q g_H2
        clear g_H2
        have npq : p ≠ q := ne_of_none ep n_q
        have hT0 : ws.sum ≠ 0 := z
        have ep := s_H2 _ _ ep
        fail "rd"
        refine for_list (K := K) (a := p) (xs := ws.map V.int) (fun i σ' H' => ∃ v1 v2, σ' = [some (.int c), some (.ref l), some (.ref p), some (.int (lcmL fs)), some (.int ws.sum), some (.ref q), some (.int (sumT ws i)), some (.int (near c (sumT ws i) ws.sum)), v1, v2] ∧ Same H1 H' ∧ H' q = some (.lst (((dealtL c ws.sum ws).take i).map V.int)) ∧ H' p = some (.lst (ws.map V.int)))
          ⟨none, none, by rw [sumT_zero, near_zero hT]; rfl, s_H2, e_q, ep⟩ (fun i σ' H' _ ⟨_, _, _, _, _, e⟩ => SqL.of e) ?_ ?_
        · rintro i x σ' H' hi ⟨v1, v2, rfl, sH, hq, hp⟩
          obtain ⟨w, hw, rfl⟩ : ∃ w, ws[i]? = some w ∧ V.int w = x := by
            rw [List.getElem?_map] at hi
            exact Option.map_eq_some_iff.mp hi
          have li : i < ws.length := (List.getElem?_eq_some_iff.mp hw).1
          have z1 := ssz (i + 1)
          rw [sumT_succ hw] at z1
          have m1 : IntMulOk c (sumT ws i + w) := zc.mok z1
          fail "rd"
          intro r d_r n_r nd_r ne_r
          refine ⟨r, d_r, _, _, rfl, upd_same, zT.lg, fun z => absurd z hT0, fun _ H3 k_r e_r => ⟨rfl, ?_⟩⟩
          have s_H3 := same_made n_r nd_r ne_r k_r
          have R := RatAt.of z e_r
          have rz : (nrm (c * (sumT ws i + w)) ws.sum).2.natAbs ≤ ws.sum.natAbs := nrm_le2 z
          fail "rd"
          refine ⟨r, _, _, rfl, R, Sz.lg (n := 5002) ((Sz.mul (n := 2) (show Sz 2 2 from by show (2 : Int).natAbs < 2 ^ 2; decide) (zT.le rz)).mono), ?_⟩
          rw [near_nrm hT]
          have hq3 := s_H3 _ _ hq
          have hp3 := s_H3 _ _ hp
          fail "rd"
          have lq : ((dealtL c ws.sum ws).take i).length = i := by rw [List.length_take, dealtL_len]; omega
          refine ⟨q, _, _, rfl, rfl, hq3, Nat.lt_of_lt_of_le (show (((dealtL c ws.sum ws).take i).map V.int).length < 2000 by rw [List.length_map, lq]; omega) (line_le (by decide)), ?_⟩
          fail "rd"
          refine ⟨_, _, by rw [sumT_succ hw]; rfl, same_put n_q (sH.trans s_H3), ?_, une npq hp3⟩
          rw [upd_same, List.take_add_one, dealtL_get li]
          unfold partOf
          rw [sumT_succ hw]
          simp
        · rintro σ' H' ⟨v1, v2, rfl, sH, hq, hp⟩
          fail "rd"
          rw [List.length_map, ← dealtL_len (c := c) (T := ws.sum), List.take_length] at hq
          exact k nb q H' (s1.trans sH) (s1.free n_q) hq

abbrev s_l_refused : Stmt := top 22
theorem sc_l_refused : FnScope ["_law_cents", "_law_amounts_here", "_law_told", "e"] ["_law_cents", "_law_amounts_here"] (defScope s_l_refused) := ⟨rfl, rfl, rfl, by decide +kernel, rfl, by decide +kernel, by decide +kernel⟩
def sp_l_refused (K : PySem.W.Frag) (ca : Nat → Addr) : Sp := fun vs H Q _ => ∃ (c : Int) (l : Addr) (xs : List V) (fs : List (Int × Int)), vs = [.int c, .ref l] ∧ SqL K H l xs ∧ Handed ca H xs fs ∧ (∀ f ∈ fs, Sz 2000 f.1 ∧ 0 < f.2) ∧ Sz 2000 (lcmL fs : Int) ∧ Sz 1000 c ∧ fs.length ≤ 1000 ∧ BadA fs ∧ ∀ H' : Hp, Same H H' → Q (.bl true) H'
theorem ok_l_refused {f : Addr} {fd : FuncData} (F : Fun K "_law_refused" "_law_refused" s_l_refused f fd) (T : Txt K mg ca) (O_dealt : Own P w K mg base 5 "dealt" ["cents", "amounts"] (sp_dealt K ca)) : FnOk P w K mg base (L2N.CX P w) 6 f fd ["_law_cents", "_law_amounts_here"] (sp_l_refused K ca) := by
  refine okN F sc_l_refused (fun vs H Q E h => ?_) (fun cdv A outer s H vs Q E hr h => ?_)
  · obtain ⟨_, _, _, _, rfl, _⟩ := h
    rfl
  · obtain ⟨c, l, xs, fs, rfl, hl, hP, hz, zl, zc, hn, hb, k⟩ := h
    refine ⟨_, pss_cons (ps_set (i := 2) sc_l_refused.nd rfl (Or.inl rfl) pe_non) (pss_cons (L2N.ps_try_as (i := 3) (Wout := fun _ _ _ _ => False) rfl rfl sc_l_refused.nd rfl rfl ⟨rfl, by decide, Or.inl T.g_NoRatio⟩ takesN (fun W pn xe tk _ => pss_one (ps_set (i := 2) sc_l_refused.nd rfl (Or.inl rfl) (pe_own O_dealt (hr.mono (by decide)) rfl (fun σ => L2N.passAt tk σ) (pa_cons (pv 0) (pa_cons (pv 1) pa_nil))))) (fun a oe cls d pn hzn hf => have hz := hzn.zc; pss_err (C := ca 1) hz fun hz => pss_one (ps_ret (pe_and (pe_cmpR op_isN (pv 2) pe_non (nomark _)) (pe_one (pe_callB (call_isE T.ec_NoRatio hz hf) (by rfl) T.b_isinstance (by decide +kernel) (pa_cons (pv 3) (pa_cons (pe_glob (v := .ref (ca 0)) (by rfl) T.g_CostError rfl) pa_nil)))))))) (pss_one (ps_ret pe_bl))), ?_⟩
    fail "rd"
    refine ⟨c, l, xs, fs, rfl, hl, hP, hz, zl, zc, hn, fun _ H1 s1 => ?_, fun nb => absurd hb nb⟩
    refine ⟨true, T.te_NoRatio, fun _ e ne => ⟨⟨rfl, rfl⟩, ?_⟩, fun q => Bool.noConfusion q⟩
    fail "rd"
    refine ⟨_, _, true, rfl, fun u r => r, T.ki_NoRatio_CostError, ?_⟩
    fail "rd"
    exact k H1 s1

abbrev s_l_number : Stmt := top 14
theorem sc_l_number : FnScope ["_law_value"] ["_law_value"] (defScope s_l_number) := ⟨rfl, rfl, rfl, by decide +kernel, rfl, by decide +kernel, by decide +kernel⟩
def sp_l_number (_ : PySem.W.Frag) (_ : Nat → Addr) : Sp := fun vs H Q _ => ∃ i : Int, vs = [.int i] ∧ Q (.bl true) H
theorem ok_l_number {f : Addr} {fd : FuncData} (F : Fun K "_law_number" "_law_number" s_l_number f fd) (T : Txt K mg ca)  : FnOk P w K mg base (L2N.CX P w) 1 f fd ["_law_value"] (sp_l_number K ca) := by
  refine okN F sc_l_number (fun vs H Q E h => ?_) (fun cdv A outer s H vs Q E hr h => ?_)
  · obtain ⟨_, rfl, _⟩ := h
    rfl
  · obtain ⟨i, rfl, k⟩ := h
    refine ⟨_, pss_one (ps_ret (pe_and (pe_callB call_isi (by rfl) T.b_isinstance (by decide +kernel) (pa_cons (pv 0) (pa_cons (pe_bltn (v := .ty "int") (by rfl) T.b_int (by decide +kernel) rfl) pa_nil))) (pe_one (pe_not (pe_callB call_isi (by rfl) T.b_isinstance (by decide +kernel) (pa_cons (pv 0) (pa_cons (pe_bltn (v := .ty "bool") (by rfl) T.b_bool (by decide +kernel) rfl) pa_nil))))))), ?_⟩
    fail "rd"
    refine ⟨_, _, _, _, true, rfl, .ty "int", .base (.int _), kit_ty (by decide +kernel), ?_⟩
    fail "rd"
    refine ⟨_, _, _, _, false, rfl, .ty "bool", .base (.int _), kit_ty (by decide +kernel), ?_⟩
    fail "rd"
    exact k

abbrev s_l_dealt_right : Stmt := top 21
theorem sc_l_dealt_right : FnScope ["_law_told", "_law_cents", "_law_weights", "_law_total", "_law_given", "_law_weight", "_law_k", "_law_part"] ["_law_told", "_law_cents", "_law_weights"] (defScope s_l_dealt_right) := ⟨rfl, rfl, rfl, by decide +kernel, rfl, by decide +kernel, by decide +kernel⟩
def sp_l_dealt_right (_ : PySem.W.Frag) (_ : Nat → Addr) : Sp := fun vs H Q _ => ∃ (c : Int) (p q : Addr) (ws : List Int), vs = [.ref p, .int c, .ref q] ∧ H p = some (.lst ((dealtL c ws.sum ws).map V.int)) ∧ H q = some (.lst (ws.map V.int)) ∧ (∀ w ∈ ws, 0 ≤ w ∧ Sz 4000 w) ∧ 0 < ws.sum ∧ Sz 1000 c ∧ ws.length ≤ 1000 ∧ ∀ H' : Hp, Same H H' → Q (.bl true) H'
theorem ok_l_dealt_right {f : Addr} {fd : FuncData} (F : Fun K "_law_dealt_right" "_law_dealt_right" s_l_dealt_right f fd) (T : Txt K mg ca) (O__law_number : Own P w K mg base 1 "_law_number" ["_law_value"] (sp_l_number K ca)) : FnOk P w K mg base (L2N.CX P w) 2 f fd ["_law_told", "_law_cents", "_law_weights"] (sp_l_dealt_right K ca) := by
  refine okN F sc_l_dealt_right (fun vs H Q E h => ?_) (fun cdv A outer s H vs Q E hr h => ?_)
  · obtain ⟨_, _, _, _, rfl, _⟩ := h
    rfl
  · obtain ⟨c, p, q, ws, rfl, hp, hq, hw, hT, zc, hn, k⟩ := h
    refine ⟨_, pss_cons (ps_if (PW.pt (pw_or (pt_not (pt_val (pe_callB call_isi (by rfl) T.b_isinstance (by decide +kernel) (pa_cons (pv 0) (pa_cons (pe_bltn (v := .ty "list") (by rfl) T.b_list (by decide +kernel) rfl) pa_nil))))) (pw_or (pt_cmpR op_ne (pe_callB call_len_seq (by rfl) T.b_len (by decide +kernel) (pa_cons (pv 0) pa_nil)) (pe_callB call_len_seq (by rfl) T.b_len (by decide +kernel) (pa_cons (pv 2) pa_nil)) (nomark _)) (pw_or1 (pt_not (pt_val (pe_callB (cr_all rfl) (by rfl) T.b_all (by decide +kernel) (pa_cons (pe_lc (own := [("_law_part", 7)]) (g := gName 7) (tt := tYes) rfl sc_l_dealt_right.nd (pi_list (pv 0)) (blkOk_by (N := ["_law_told", "_law_cents", "_law_weights", "_law_total", "_law_given", "_law_weight", "_law_k", "_law_part"]) (sc := defScope s_l_dealt_right) (by decide +kernel)) (fun _ _ _ _ _ => pg_name (i := 7) sc_l_dealt_right.nd rfl (Or.inl rfl)) (fun _ _ _ _ _ => pts_nil) (fun _ _ _ _ _ => pe_own O__law_number (hr.mono (by decide)) rfl pas0 (pa_cons (pv 7) pa_nil))) pa_nil)))))))) (pss_one (ps_ret pe_bl)) pss_nil) (pss_cons (ps_set (i := 3) sc_l_dealt_right.nd rfl (Or.inl rfl) (pe_callB (cr_sum rfl) (by rfl) T.b_sum (by decide +kernel) (pa_cons (pv 2) pa_nil))) (pss_cons (ps_set (i := 4) sc_l_dealt_right.nd rfl (Or.inl rfl) pe_int) (pss_cons (ps_set (i := 5) sc_l_dealt_right.nd rfl (Or.inl rfl) pe_int) (pss_cons (ps_for (passes_of rfl) rfl (pi_range1 rfl T.b_range (pa_cons (pe_callB call_len_seq (by rfl) T.b_len (by decide +kernel) (pa_cons (pv 2) pa_nil)) pa_nil)) (pg_name (i := 6) sc_l_dealt_right.nd rfl (Or.inl rfl)) (pss_cons (ps_set (i := 4) sc_l_dealt_right.nd rfl (Or.inl rfl) (pe_op op_add (pv 4) (pe_ix ix_list (pv 0) (pv 6) (fun _ _ => rfl)))) (pss_cons (ps_set (i := 5) sc_l_dealt_right.nd rfl (Or.inl rfl) (pe_op op_add (pv 5) (pe_ix ix_list (pv 2) (pv 6) (fun _ _ => rfl)))) (pss_cons (ps_if (pt_cmpR op_ne (pv 4) (pe_op op_fdivW (pe_op op_add (pe_op op_mulI (pe_op op_mulI pe_int (pv 1)) (pv 5)) (pv 3)) (pe_op op_mulI pe_int (pv 3))) (nomark _)) (pss_one (ps_ret pe_bl)) pss_nil) (pss_one (ps_if (pt_cmpR op_ge (pe_callB call_abs (by rfl) T.b_abs (by decide +kernel) (pa_cons (pe_op op_sub (pe_op op_mulI (pe_ix ix_list (pv 0) (pv 6) (fun _ _ => rfl)) (pv 3)) (pe_op op_mulI (pv 1) (pe_ix ix_list (pv 2) (pv 6) (fun _ _ => rfl)))) pa_nil)) (pv 3) (nomark _)) (pss_one (ps_ret pe_bl)) pss_nil)))))) (pss_one (ps_ret (pe_cmpR op_eq (pv 4) (pv 1) (nomark _)))))))), ?_⟩
    fail "rd"
    refine ⟨_, _, _, _, true, rfl, .ty "list", .base (.lst hp), kit_ty (by decide +kernel), ?_⟩
    fail "rd"
    refine iteNv (by rw [List.length_map, List.length_map, dealtL_len]) ?_
    fail "rd"
    intro D nD
    have lD := dealtL_len (c := c) (T := ws.sum) (ws := ws)
    refine lc_list (K := K) (a := p) (xs := (dealtL c ws.sum ws).map V.int) (fun i H' => Same H H' ∧ H' D = some (.lst ((List.replicate i true).map V.bl))) ⟨same_upd nD, upd_same⟩ (fun i H' _ s => SqL.of (s.1 _ _ hp)) ?_ ?_
    · rintro i x H1 hi ⟨s1, eD⟩
      obtain ⟨w, hw', rfl⟩ : ∃ w, (dealtL c ws.sum ws)[i]? = some w ∧ V.int w = x := by
        rw [List.getElem?_map] at hi
        exact Option.map_eq_some_iff.mp hi
      have li := (List.getElem?_eq_some_iff.mp hw').1
      fail "rd"
      refine ⟨_, eD, Nat.lt_of_lt_of_le (show ((List.replicate i true).map V.bl).length < 2000 by rw [List.length_map, List.length_replicate]; omega) (line_le (by decide)), ?_⟩
      refine ⟨fun b o e => ?_, ?_⟩
      · rw [upd_ne (ne_of_none e nD)]
        exact s1 _ _ e
      · rw [upd_same, List.replicate_succ', List.map_append]
        rfl
    · rintro H1 ⟨s1, eD⟩
      have hp := s1 _ _ hp
      have hq := s1 _ _ hq
      fail "rd"
      have hall : (List.replicate ((dealtL c ws.sum ws).map V.int).length true).all id = true := by
        rw [List.all_eq_true]
        intro x m
        rw [List.eq_of_mem_replicate m]
        rfl
      refine ⟨D, _, rfl, SqL.of eD, ?_⟩
      rw [hall]
      fail "rd"
      refine ⟨q, ws, rfl, SqL.of hq, ?_⟩
      fail "rd"
      have hz : (ws.length : Int) < 2 ^ 62 := by
        have e : (2 : Int) ^ 62 = 4611686018427387904 := by decide
        omega
      have hlen : (ws.map V.int).length = ws.length := List.length_map ..
      fail "rd"
      refine ⟨by omega, by rw [hlen]; exact hz, for_range (n := (ws.map V.int).length) (fun i σ' H' => ∃ v, σ' = [some (.ref p), some (.int c), some (.ref q), some (.int ws.sum), some (.int (near c (sumT ws i) ws.sum)), some (.int (sumT ws i)), v, none] ∧ H1 = H')
        ⟨none, by rw [sumT_zero, near_zero hT]; rfl, rfl⟩ ?_ ?_⟩
      · rintro i σ' H' hi ⟨v, rfl, rfl⟩
        rw [hlen] at hi
        have hx : ws[i]? = some ws[i] := List.getElem?_eq_getElem hi
        have ht := dealtL_get (c := c) (T := ws.sum) hi
        rw [Int.zero_add]
        fail "rd"
        refine ⟨_, _, _, _, rfl, rfl, SqL.of hp, atI_nat (v := .int (partOf c ws.sum ws i)) (by rw [List.getElem?_map, ht]; rfl), ?_⟩
        fail "rd"
        refine ⟨_, _, _, _, rfl, rfl, SqL.of hq, atI_nat (v := .int ws[i]) (by rw [List.getElem?_map, hx]; rfl), ?_⟩
        obtain ⟨w0, wz⟩ := hw _ (List.mem_of_getElem? hx)
        have zs := sumT_sz (fun w m => (hw w m).2) hn (i + 1)
        have zT := sumT_sz (fun w m => (hw w m).2) hn ws.length
        rw [sumT_all] at zT
        rw [sumT_succ hx] at zs
        have m1 : IntMulOk (2 * c) (sumT ws i + ws[i]) := (Sz.mul (n := 2) (show (2 : Int).natAbs < 2 ^ 2 by decide) zc).mok zs
        have m2 : IntMulOk c ws[i] := zc.mok wz
        have pz := part_near (c := c) hT hx
        have zp : Sz 6002 (partOf c ws.sum ws i) := by
          have z1 : Sz 6001 (partOf c ws.sum ws i * ws.sum) := by
            have e : partOf c ws.sum ws i * ws.sum = (partOf c ws.sum ws i * ws.sum - c * ws[i]) + c * ws[i] := by omega
            rw [e]
            have a1 : Sz 6000 (partOf c ws.sum ws i * ws.sum - c * ws[i]) := (zT.le (by omega)).mono
            have a2 : Sz 6000 (c * ws[i]) := (zc.mul wz).mono
            exact a1.add' a2
          refine (z1.le ?_).mono
          rw [Int.natAbs_mul]
          exact Nat.le_mul_of_pos_right _ (by omega)
        have m3 : IntMulOk (partOf c ws.sum ws i) ws.sum := zp.mok zT
        have lT : (2 * ws.sum).natAbs.log2 < 9000 := Sz.lg (n := 5002) ((Sz.mul (n := 2) (show (2 : Int).natAbs < 2 ^ 2 by decide) zT).mono)
        fail "rd"
        refine iteNv (congrArg V.int ?_) ?_
        · show near c (sumT ws i) ws.sum + (near c (sumT ws (i + 1)) ws.sum - near c (sumT ws i) ws.sum) = (2 * c * (sumT ws i + ws[i]) + ws.sum) / (2 * ws.sum)
          rw [sumT_succ hx]
          unfold near
          omega
        · fail "rd"
          refine ⟨_, _, _, _, rfl, rfl, SqL.of hp, atI_nat (v := .int (partOf c ws.sum ws i)) (by rw [List.getElem?_map, ht]; rfl), ?_⟩
          fail "rd"
          refine ⟨_, _, _, _, rfl, rfl, SqL.of hq, atI_nat (v := .int ws[i]) (by rw [List.getElem?_map, hx]; rfl), ?_⟩
          fail "rd"
          refine iteDF (fun z => ?_) ?_
          · have z : ws.sum ≤ iab (partOf c ws.sum ws i * ws.sum - c * ws[i]) := z
            rw [iab_nat] at z
            omega
          · fail "rd"
            refine ⟨some (.int i), ?_, rfl⟩
            have e : near c (sumT ws i) ws.sum + partOf c ws.sum ws i = near c (sumT ws (i + 1)) ws.sum := by
              unfold partOf
              omega
            rw [← e, sumT_succ hx]
            rfl
      · rintro σ' H' ⟨v, rfl, rfl⟩
        fail "rd"
        rw [hlen, sumT_all, near_all hT, decide_eq_true rfl]
        exact k _ s1

abbrev s_law : Stmt := top 23
theorem sc_law : FnScope ["_law_script", "_law_bag_here", "_law_amounts_here", "_law_cents", "_law_handed", "_law_weights", "_law_spot", "_law_bad", "_law_kept", "_law_turn", "_law_told"] ["_law_script"] (defScope s_law) := ⟨rfl, rfl, rfl, by decide +kernel, rfl, by decide +kernel, by decide +kernel⟩
theorem ok_law {f : Addr} {fd : FuncData} (F : Fun K "law" "law" s_law f fd) (T : Txt K mg ca) (O__law_bag : Own P w K mg base 1 "_law_bag" ["_law_script"] (sp_l_bag K ca)) (O__law_amounts : Own P w K mg base 3 "_law_amounts" ["_law_bag_here"] (sp_l_amounts K ca)) (O__law_integer : Own P w K mg base 2 "_law_integer" ["_law_bag_here"] (sp_l_integer K ca)) (O__law_handed_out : Own P w K mg base 3 "_law_handed_out" ["_law_bag_here", "_law_amounts_here"] (sp_l_handed_out K ca)) (O__law_common : Own P w K mg base 2 "_law_common" ["_law_amounts_here"] (sp_l_common K ca)) (O__law_draw : Own P w K mg base 1 "_law_draw" ["_law_bag_here", "_law_size"] (sp_l_draw K ca)) (O__law_refused : Own P w K mg base 6 "_law_refused" ["_law_cents", "_law_amounts_here"] (sp_l_refused K ca)) (O_dealt : Own P w K mg base 5 "dealt" ["cents", "amounts"] (sp_dealt K ca)) (O__law_dealt_right : Own P w K mg base 2 "_law_dealt_right" ["_law_told", "_law_cents", "_law_weights"] (sp_l_dealt_right K ca)) (O_Ratio_2 : OwnI P w K mg base 1 "Ratio" (ca 2) ["self", "top", "bottom"] [] (sp_Ratio_init K ca)) (O_Ratio_1 : OwnI P w K mg base 1 "Ratio" (ca 2) ["self", "top", "bottom"] [.int 1] (sp_Ratio_init K ca)) : FnOk P w K mg base (L2N.CX P w) 7 f fd ["_law_script"] (sp_law K ca) := by
  refine okN F sc_law (fun vs H Q E h => ?_) (fun cdv A outer s H vs Q E hr h => ?_)
  · obtain ⟨_, _, rfl, _⟩ := h
    rfl
  · obtain ⟨s0, ns, rfl, hs, k⟩ := h
    refine ⟨_, pss_cons (ps_set (i := 1) sc_law.nd rfl (Or.inl rfl) (pe_own O__law_bag (hr.mono (by decide)) rfl pas0 (pa_cons (pv 0) pa_nil))) (pss_cons (ps_set (i := 2) sc_law.nd rfl (Or.inl rfl) (pe_own O__law_amounts (hr.mono (by decide)) rfl pas0 (pa_cons (pv 1) pa_nil))) (pss_cons (ps_set (i := 3) sc_law.nd rfl (Or.inl rfl) (pe_own O__law_integer (hr.mono (by decide)) rfl pas0 (pa_cons (pv 1) pa_nil))) (pss_cons (ps_set (i := 4) sc_law.nd rfl (Or.inl rfl) (pe_own O__law_handed_out (hr.mono (by decide)) rfl pas0 (pa_cons (pv 1) (pa_cons (pv 2) pa_nil)))) (pss_cons (ps_set (i := 5) sc_law.nd rfl (Or.inl rfl) (pe_own O__law_common (hr.mono (by decide)) rfl pas0 (pa_cons (pv 2) pa_nil))) (pss_cons (ps_if (PW.pt (pw_or (pt_not (pt_val (pe_own O__law_refused (hr.mono (by decide)) rfl pas0 (pa_cons (pv 3) (pa_cons (pe_lst pa_nil) pa_nil))))) (pw_or1 (pt_not (pt_val (pe_own O__law_refused (hr.mono (by decide)) rfl pas0 (pa_cons (pv 3) (pa_cons (pe_lst (pa_cons pe_int (pa_cons (pe_owni O_Ratio_1 (hr.mono (by decide)) rfl pas0 (pa_cons pe_int pa_nil)) pa_nil))) pa_nil)))))))) (pss_one (ps_ret pe_bl)) pss_nil) (pss_cons (ps_if (PW.pt (pw_or (pt_not (pt_val (pe_own O__law_refused (hr.mono (by decide)) rfl pas0 (pa_cons (pv 3) (pa_cons (pe_op op_cat (pv 4) (pe_lst (pa_cons (pe_owni O_Ratio_2 (hr.mono (by decide)) rfl pas0 (pa_cons (pe_un un_neg pe_int) (pa_cons pe_int pa_nil))) pa_nil))) pa_nil))))) (pw_or1 (pt_not (pt_val (pe_own O__law_refused (hr.mono (by decide)) rfl pas0 (pa_cons (pv 3) (pa_cons (pe_op op_cat (pe_lst (pa_cons (pe_un un_neg pe_int) pa_nil)) (pv 4)) pa_nil)))))))) (pss_one (ps_ret pe_bl)) pss_nil) (pss_cons (ps_set (i := 6) sc_law.nd rfl (Or.inl rfl) (pe_own O__law_draw (hr.mono (by decide)) rfl pas0 (pa_cons (pv 1) (pa_cons (pe_op op_add (pe_callB call_len_seq (by rfl) T.b_len (by decide +kernel) (pa_cons (pv 4) pa_nil)) pe_int) pa_nil)))) (pss_cons (ps_set (i := 7) sc_law.nd rfl (Or.inl rfl) (pe_ix ix_list (pe_lst (pa_cons (pe_un un_neg pe_int) (pa_cons (pe_owni O_Ratio_2 (hr.mono (by decide)) rfl pas0 (pa_cons (pe_un un_neg pe_int) (pa_cons pe_int pa_nil))) pa_nil))) (pe_own O__law_draw (hr.mono (by decide)) rfl pas0 (pa_cons (pv 1) (pa_cons pe_int pa_nil))) (fun _ _ => rfl))) (pss_cons (ps_if (pt_not (pt_val (pe_own O__law_refused (hr.mono (by decide)) rfl pas0 (pa_cons (pv 3) (pa_cons (pe_op op_cat (pe_op op_cat (pe_op op_cat (pe_slice sl_list (pv 4) po_none (po_some (pv 6))) (pe_lst (pa_cons (pv 7) pa_nil))) (pe_slice sl_list (pv 4) (po_some (pv 6)) po_none)) (pe_lst (pa_cons pe_int pa_nil))) pa_nil))))) (pss_one (ps_ret pe_bl)) pss_nil) (pss_cons (ps_if (pt_cmpR op_eq (pe_callB (cr_sum rfl) (by rfl) T.b_sum (by decide +kernel) (pa_cons (pv 5) pa_nil)) pe_int (nomark _)) (pss_one (ps_ret (pe_own O__law_refused (hr.mono (by decide)) rfl pas0 (pa_cons (pv 3) (pa_cons (pv 4) pa_nil))))) pss_nil) (pss_cons (ps_set (i := 8) sc_law.nd rfl (Or.inl rfl) (pe_callTy call_list_of (by rfl) T.b_list (by decide +kernel) (pa_cons (pv 4) pa_nil))) (pss_cons (ps_for (passes_of rfl) rfl (pi_range1 rfl T.b_range (pa_cons pe_int pa_nil)) (pg_name (i := 9) sc_law.nd rfl (Or.inl rfl)) (pss_cons (ps_set (i := 10) sc_law.nd rfl (Or.inl rfl) (pe_own O_dealt (hr.mono (by decide)) rfl pas0 (pa_cons (pv 3) (pa_cons (pv 4) pa_nil)))) (pss_cons (ps_if (PW.pt (pw_or (pt_not (pt_val (pe_own O__law_dealt_right (hr.mono (by decide)) rfl pas0 (pa_cons (pv 10) (pa_cons (pv 3) (pa_cons (pv 5) pa_nil)))))) (pw_or1 (pt_cmpR (op_neL (Room.units0 (hr.mono (Nat.zero_le _)))) (pv 4) (pv 8) (nomark _))))) (pss_one (ps_ret pe_bl)) pss_nil) (pss_one (ps_expr (pe_bm0 PySem.F.plainAttrs_list PySem.F.slot_list_clear PySem.F.type_list_clear mt_clear (pv 10))))))) (pss_one (ps_ret pe_bl)))))))))))))), ?_⟩
    fail "rd"
    refine ⟨s0, ns, rfl, hs, fun L bag H1 nb nL s1 B1 => ?_⟩
    fail "rd"
    refine ⟨L, B1, fun am H2 xs fs k2 B2 n2 e2 hA hF hl1 hl8 => ?_⟩
    have amb : am ≠ bag := B1.ne n2
    fail "rd"
    refine ⟨L, B2, fun c H3 hc k3 B3 => ?_⟩
    obtain ⟨xb, hxb⟩ := B2.lst
    have e3 := k3 _ _ e2 amb
    have hA3 : Paired (AmtAt H3) xs fs := Paired.mapP hA fun _ _ z => z.put hxb k3
    fail "rd"
    refine ⟨bag, am, xs, fs, rfl, L, B3, e3, amb, hA3, fun f m => ⟨(hF f m).1, ?_⟩, by omega, fun hd ys H4 k4 B4 n4 e4 hY => ?_⟩
    · obtain ⟨r, _, _, b⟩ := hF f m
      have := r.pos
      exact lt_sz (n := 10) (by omega) (by decide)
    have hbe : hd ≠ bag := B3.ne n4
    have e34 := k4 _ _ e3 amb
    obtain ⟨xc, hxc⟩ := B3.lst
    have hA4 : Paired (AmtAt H4) xs fs := Paired.mapP hA3 fun _ _ z => z.put hxc k4
    have ok0 : Ok20 fs := ⟨by omega, fun f m => by
      obtain ⟨r, _, z, b⟩ := hF f m
      exact ⟨z.mono, r.pos, by omega⟩⟩
    have zc : Sz 1000 c := Sz.mono (n := 164) hc
    fail "rd"
    refine ⟨am, xs, fs, rfl, e34, hA4, ok0.a, ok0.l, ok0.n, fun w H5 s5 n5 e5 => ?_⟩
    have hY5 := Handed.same hY s5
    have e45 := s5 _ _ e4
    have B5 := B4.same s5
    fail "rd"
    intro l0 n_l0
    generalize g_H6 : upd _ l0 _ = H6
    obtain ⟨s_H6, e_l0⟩ := gen_new n_l0 g_H6
    clear g_H6
    fail "rd"
    refine ⟨c, l0, [], [], rfl, SqL.of e_l0, .nil, (fun f m => nomatch m), Sz.one.mono, zc, by decide, bad_zero (fun f m => nomatch m), fun H7 s7 => ?_⟩
    fail "rd"
    intro r0 d_r0 n_r0 nd_r0 ne_r0
    refine ⟨r0, d_r0, _, _, rfl, upd_same, (by decide), fun z => absurd z (by decide), fun _ H8 k_r0 e_r0 => ⟨rfl, ?_⟩⟩
    have s_H8 := same_made n_r0 nd_r0 ne_r0 k_r0
    have R0 : RatAt ca H8 r0 0 1 := RatAt.mk red01 e_r0
    fail "rd"
    intro l1 n_l1
    generalize g_H9 : upd _ l1 _ = H9
    obtain ⟨s_H9, e_l1⟩ := gen_new n_l1 g_H9
    clear g_H9
    fail "rd"
    refine ⟨c, l1, [.int 0, .ref r0], [(0, 1), (0, 1)], rfl, SqL.of e_l1, .cons (.inl ⟨rfl, rfl⟩) (.cons (.inr ⟨r0, rfl, R0.same s_H9⟩) .nil), (fun f m => ?_), (amt_lcm (fun f m => ?_) (by decide)), zc, by decide, bad_zero (fun f m => ?_), fun H10 s10 => ?_⟩
    · simp at m
      rw [m]
      exact ⟨Sz.zero.mono, by decide⟩
    · simp at m
      rw [m]
      exact ⟨by decide, by decide⟩
    · simp at m
      rw [m]
    have sA : Same H5 H10 := (((s_H6.trans s7).trans s_H8).trans s_H9).trans s10
    have B10 := B5.same sA
    have e410 := sA _ _ e45
    have hY10 := Handed.same hY5 sA
    have e510 := sA _ _ e5
    clear s_H6 s7 s_H8 s_H9 s10 sA
    fail "rd"
    have red13 : Red (-1) 3 := ⟨by decide, by decide⟩
    intro r1 d_r1 n_r1 nd_r1 ne_r1
    refine ⟨r1, d_r1, _, _, rfl, upd_same, (by decide), fun z => absurd z (by decide), fun _ H11 k_r1 e_r1 => ⟨rfl, ?_⟩⟩
    have s_H11 := same_made n_r1 nd_r1 ne_r1 k_r1
    have R1 : RatAt ca H11 r1 (-1) 3 := RatAt.mk red13 e_r1
    fail "rd"
    intro l2 n_l2
    generalize g_H12 : upd _ l2 _ = H12
    obtain ⟨s_H12, e_l2⟩ := gen_new n_l2 g_H12
    clear g_H12
    have e412 := s_H12 _ _ (s_H11 _ _ e410)
    have ly : ys.length = fs.length := hY.length
    refine ⟨_, _, _, _, rfl, rfl, e412, e_l2, Nat.le_of_lt (Nat.lt_of_lt_of_le (show ys.length + [V.ref r1].length < 2000 by simp; omega) (line_le (by decide))), ?_⟩
    intro l3 n_l3
    generalize g_H13 : upd _ l3 _ = H13
    obtain ⟨s_H13, e_l3⟩ := gen_new n_l3 g_H13
    clear g_H13
    fail "rd"
    have s1013 : Same H10 H13 := (s_H11.trans s_H12).trans s_H13
    have ok3 : Ok20 (fs ++ [(-1, 3)]) := ok0.snoc (by omega) (by decide) (by decide) (by decide)
    refine ⟨c, l3, _, fs ++ [(-1, 3)], rfl, SqL.of e_l3, Paired.snoc (Handed.same hY10 s1013) (.inr ⟨r1, rfl, (R1.same s_H12).same s_H13⟩), ok3.a, ok3.l, zc, ok3.n, bad_neg (fun f m => (ok3.all f m).2.1) (List.mem_append_right _ List.mem_cons_self) (by decide), fun H14 s14 => ?_⟩
    fail "rd"
    intro l4 n_l4
    generalize g_H15 : upd _ l4 _ = H15
    obtain ⟨s_H15, e_l4⟩ := gen_new n_l4 g_H15
    clear g_H15
    have sB : Same H10 H15 := (s1013.trans s14).trans s_H15
    have e415 := sB _ _ e410
    fail "rd"
    refine ⟨_, _, _, _, rfl, rfl, e_l4, e415, Nat.le_of_lt (Nat.lt_of_lt_of_le (show [V.int (-1)].length + ys.length < 2000 by simp; omega) (line_le (by decide))), ?_⟩
    intro l5 n_l5
    generalize g_H16 : upd _ l5 _ = H16
    obtain ⟨s_H16, e_l5⟩ := gen_new n_l5 g_H16
    clear g_H16
    fail "rd"
    have ok5 : Ok20 ([(-1, 1)] ++ fs) := ok0.cons (by omega) (by decide) (by decide) (by decide)
    refine ⟨c, l5, _, [(-1, 1)] ++ fs, rfl, SqL.of e_l5, paired_app (c := [((-1 : Int), (1 : Int))]) (.cons (.inl ⟨rfl, rfl⟩) .nil) (Handed.same hY10 (sB.trans s_H16)), ok5.a, ok5.l, zc, ok5.n, bad_neg (fun f m => (ok5.all f m).2.1) (List.mem_append_left _ List.mem_cons_self) (by decide), fun H17 s17 => ?_⟩
    have sC : Same H10 H17 := (sB.trans s_H16).trans s17
    have B17 := B10.same sC
    have e417 := sC _ _ e410
    have hY17 := Handed.same hY10 sC
    have e517 := sC _ _ e510
    clear sC sB s1013 s14 s17 e415 e412
    fail "rd"
    refine ⟨L, B17, by omega, lg164 (show ((ys.length : Int) + 1).natAbs < 2 ^ 164 from Nat.lt_of_le_of_lt (show ((ys.length : Int) + 1).natAbs ≤ 100 by omega) (by decide)), fun sp H18 sp0 sp1 k18 B18 => ?_⟩
    obtain ⟨xd, hxd⟩ := B17.lst
    have wb : w ≠ bag := B4.ne n5
    have e418 := k18 _ _ e417 hbe
    have hY18 := Handed.put hY17 hxd k18
    have e518 := k18 _ _ e517 wb
    obtain ⟨SP, rfl⟩ := Int.eq_ofNat_of_zero_le sp0
    fail "rd"
    have redm : Red (-1) 1000 := ⟨by decide, by decide⟩
    intro r2 d_r2 n_r2 nd_r2 ne_r2
    refine ⟨r2, d_r2, _, _, rfl, upd_same, (by decide), fun z => absurd z (by decide), fun _ H19 k_r2 e_r2 => ⟨rfl, ?_⟩⟩
    have s_H19 := same_made n_r2 nd_r2 ne_r2 k_r2
    have R2 : RatAt ca H19 r2 (-1) 1000 := RatAt.mk redm e_r2
    fail "rd"
    intro l6 n_l6
    generalize g_H20 : upd _ l6 _ = H20
    obtain ⟨s_H20, e_l6⟩ := gen_new n_l6 g_H20
    clear g_H20
    have B20 := (B18.same s_H19).same s_H20
    have R2 := R2.same s_H20
    fail "rd"
    refine ⟨L, B20, by decide, by decide, fun d H21 d0 d1 k21 B21 => ?_⟩
    obtain ⟨xe, hxe⟩ := B20.lst
    have l6b : l6 ≠ bag := (B18.same s_H19).ne n_l6
    have e_l6 := k21 _ _ e_l6 l6b
    have R2 := R2.keep hxe (fun _ _ _ z => nomatch z) k21
    have s1820 : Same H18 H20 := s_H19.trans s_H20
    have e421 := k21 _ _ (s1820 _ _ e418) hbe
    have hY21 := Handed.put (Handed.same hY18 s1820) hxe k21
    have e521 := k21 _ _ (s1820 _ _ e518) wb
    clear k_r2 e_r2 s_H19 s_H20
    obtain ⟨v, g, hv, hn, hg, hb⟩ : ∃ (v : V) (g : Int × Int), atI [V.int (-1), .ref r2] d = some v ∧ NumV ca H21 v g.1 g.2 ∧ (g = (-1, 1) ∨ g = (-1, 1000)) ∧ g.1 < 0 := by
      have hc : d = 0 ∨ d = 1 := by omega
      rcases hc with rfl | rfl
      · exact ⟨.int (-1), (-1, 1), ix_c rfl, .inl ⟨rfl, rfl⟩, .inl rfl, by decide⟩
      · exact ⟨.ref r2, (-1, 1000), ix_c rfl, .inr ⟨r2, rfl, R2⟩, .inr rfl, by decide⟩
    refine ⟨_, _, _, _, rfl, rfl, SqL.of e_l6, hv, ?_⟩
    have hSP : SP ≤ ys.length := by omega
    fail "rd"
    refine ⟨hd, ys, rfl, SqL.of e421, ?_⟩
    intro p1 n_p1
    generalize g_H22 : upd _ p1 _ = H22
    obtain ⟨s_H22, e_p1⟩ := gen_new n_p1 g_H22
    clear g_H22
    rw [cut_to] at e_p1
    fail "rd"
    intro p2 n_p2
    generalize g_H23 : upd _ p2 _ = H23
    obtain ⟨s_H23, e_p2⟩ := gen_new n_p2 g_H23
    clear g_H23
    fail "rd"
    have small : ∀ (a b : List V), a.length ≤ 900 → b.length ≤ 900 → a.length + b.length ≤ sizeLine := fun a b h1 h2 => Nat.le_of_lt (Nat.lt_of_lt_of_le (show a.length + b.length < 2000 by omega) (line_le (by decide)))
    have lt1 : (ys.take SP).length ≤ 8 := by rw [List.length_take]; omega
    have lt2 : (ys.drop SP).length ≤ 8 := by rw [List.length_drop]; omega
    refine ⟨_, _, _, _, rfl, rfl, s_H23 _ _ e_p1, e_p2, small _ _ (by omega) (by simp), ?_⟩
    intro p3 n_p3
    generalize g_H24 : upd _ p3 _ = H24
    obtain ⟨s_H24, e_p3⟩ := gen_new n_p3 g_H24
    clear g_H24
    have sD : Same H21 H24 := (s_H22.trans s_H23).trans s_H24
    fail "rd"
    refine ⟨hd, ys, rfl, SqL.of (sD _ _ e421), ?_⟩
    intro p4 n_p4
    generalize g_H25 : upd _ p4 _ = H25
    obtain ⟨s_H25, e_p4⟩ := gen_new n_p4 g_H25
    clear g_H25
    rw [cut_from] at e_p4
    refine ⟨_, _, _, _, rfl, rfl, s_H25 _ _ e_p3, e_p4, small _ _ (by rw [List.length_append]; simp only [List.length_singleton]; omega) (by omega), ?_⟩
    intro p5 n_p5
    generalize g_H26 : upd _ p5 _ = H26
    obtain ⟨s_H26, e_p5⟩ := gen_new n_p5 g_H26
    clear g_H26
    fail "rd"
    intro p6 n_p6
    generalize g_H27 : upd _ p6 _ = H27
    obtain ⟨s_H27, e_p6⟩ := gen_new n_p6 g_H27
    clear g_H27
    fail "rd"
    refine ⟨_, _, _, _, rfl, rfl, s_H27 _ _ e_p5, e_p6, small _ _ (by rw [List.length_append, List.length_append]; simp only [List.length_singleton]; omega) (by decide), ?_⟩
    intro p7 n_p7
    generalize g_H28 : upd _ p7 _ = H28
    obtain ⟨s_H28, e_p7⟩ := gen_new n_p7 g_H28
    clear g_H28
    have sE : Same H21 H28 := (((sD.trans s_H25).trans s_H26).trans s_H27).trans s_H28
    have hY28 := Handed.same hY21 sE
    have B28 := B21.same sE
    have e428 := sE _ _ e421
    have e528 := sE _ _ e521
    have hn28 := hn.same sE
    clear sD sE s_H22 s_H23 s_H24 s_H25 s_H26 s_H27 s_H28
    have hs7 : Handed ca H28 (ys.take SP ++ [v] ++ ys.drop SP ++ [.int 1000]) (fs.take SP ++ [g] ++ fs.drop SP ++ [(1000, 1)]) :=
      Paired.snoc (paired_app (Paired.snoc (paired_take SP hY28) hn28) (paired_drop SP hY28)) (.inl ⟨rfl, rfl⟩)
    have mg : g ∈ fs.take SP ++ [g] ++ fs.drop SP ++ [(1000, 1)] := by simp
    have ok7 : Ok20 (fs.take SP ++ [g] ++ fs.drop SP ++ [(1000, 1)]) := by
      refine ⟨?_, fun f m => ?_⟩
      · have := hs7.length
        rw [← this, List.length_append, List.length_append, List.length_append]
        simp only [List.length_singleton]
        omega
      · simp only [List.mem_append, List.mem_singleton] at m
        rcases m with ((m | rfl) | m) | rfl
        · exact ok0.all f (List.mem_of_mem_take m)
        · rcases hg with rfl | rfl
          · exact ⟨by show (1 : Nat) < 2 ^ 100; decide, by decide, by decide⟩
          · exact ⟨by show (1 : Nat) < 2 ^ 100; decide, by decide, by decide⟩
        · exact ok0.all f (List.mem_of_mem_drop m)
        · exact ⟨by show (1000 : Nat) < 2 ^ 100; decide, by decide, by decide⟩
    fail "rd"
    refine ⟨c, p7, _, _, rfl, SqL.of e_p7, hs7, ok7.a, ok7.l, zc, ok7.n, bad_neg (fun f m => (ok7.all f m).2.1) mg hb, fun H29 s29 => ?_⟩
    have hY29 := Handed.same hY28 s29
    have e429 := s29 _ _ e428
    have e529 := s29 _ _ e528
    fail "rd"
    refine iteI (fun z => ?_) (fun z => ?_)
    · fail "rd"
      exact ⟨c, hd, ys, fs, rfl, SqL.of e429, hY29, ok0.a, ok0.l, zc, ok0.n, .inl z, fun H30 s30 => k H30⟩
    · fail "rd"
      intro q0 n_q0
      generalize g_H30 : upd _ q0 _ = H30
      obtain ⟨s_H30, e_q0⟩ := gen_new n_q0 g_H30
      clear g_H30
      have hY30 := Handed.same hY29 s_H30
      have e430 := s_H30 _ _ e429
      have e530 := s_H30 _ _ e529
      have nb : ¬ BadA fs := fun b => b.elim z fun ⟨t, mt, lt⟩ => by
        obtain ⟨f, mf, rfl⟩ := List.mem_map.mp mt
        have := Int.mul_nonneg (hF f mf).2.1 (Int.le_of_lt (part_pos (fun f m => (ok0.all f m).2.1) mf))
        omega
      obtain ⟨h0, hT⟩ := not_bad nb
      fail "rd"
      have zs : ∀ t ∈ topsL fs, Sz 4000 t := fun t m => by
        obtain ⟨f, mf, rfl⟩ := List.mem_map.mp m
        exact (ok0.a f mf).1.mul (part_sz (fun f m => (ok0.a f m).2) ok0.l mf)
      refine ⟨by decide, by decide, for_range (n := 2) (fun i σ' H' => ∃ v1 v2, σ' = [some (.ref s0), some (.ref bag), some (.ref am), some (.int c), some (.ref hd), some (.ref w), some (.int SP), some v, some (.ref q0), v1, v2] ∧ Same H30 H') ⟨none, none, rfl, Same.refl _⟩ ?_ ?_⟩
      · rintro i σ' H' hi ⟨v1, v2, rfl, sH⟩
        have hY' := Handed.same hY30 sH
        have e4' := sH _ _ e430
        have e5' := sH _ _ e530
        have eq' := sH _ _ e_q0
        fail "rd"
        refine ⟨c, hd, ys, fs, rfl, SqL.of e4', hY', ok0.a, ok0.l, zc, ok0.n, fun b => absurd b nb, fun _ tl H31 s31 n31 e31 => ?_⟩
        have e51 := s31 _ _ e5'
        fail "rd"
        refine ⟨c, tl, w, topsL fs, rfl, e31, e51, fun t m => ⟨h0 t m, zs t m⟩, hT, zc, by rw [topsL_len]; omega, fun H32 s32 => ?_⟩
        fail "rd"
        refine neCopy (s32 _ _ (s31 _ _ e4')) (s32 _ _ (s31 _ _ eq')) (Handed.plain hY') ?_
        fail "rd"
        refine ⟨tl, _, rfl, rfl, s32 _ _ e31, ?_⟩
        exact ⟨_, _, rfl, sH.trans (same_put n31 (s31.trans s32))⟩
      · rintro σ' H' ⟨v1, v2, rfl, sH⟩
        fail "rd"
        exact k H'

end
theorem all_mk {l : PySem.W.OpenLaw} {w : World} {K : PySem.W.Frag} {h : Heap} {mg : Str → Option Value} {fa : Addr} (X : K.In h) (G : h.Ns mainGlobals mg) (hfa : mg "law" = some (.ref fa))
    {C0 C1 C2 : Addr}
    {f0 : Addr} {od0 an0 : Option Addr} {sl0 : Array (Option Value)} {oc0 kV0 dc0 pm0 cd0 ct0 : Value}
    {f1 : Addr} {od1 an1 : Option Addr} {sl1 : Array (Option Value)} {oc1 kV1 dc1 pm1 cd1 ct1 : Value}
    {f2 : Addr} {od2 an2 : Option Addr} {sl2 : Array (Option Value)} {oc2 kV2 dc2 pm2 cd2 ct2 : Value}
    {f3 : Addr} {od3 an3 : Option Addr} {sl3 : Array (Option Value)} {oc3 kV3 dc3 pm3 cd3 ct3 : Value}
    {f4 : Addr} {od4 an4 : Option Addr} {sl4 : Array (Option Value)} {oc4 kV4 dc4 pm4 cd4 ct4 : Value}
    {f5 : Addr} {od5 an5 : Option Addr} {sl5 : Array (Option Value)} {oc5 kV5 dc5 pm5 cd5 ct5 : Value}
    {f6 : Addr} {od6 an6 : Option Addr} {sl6 : Array (Option Value)} {oc6 kV6 dc6 pm6 cd6 ct6 : Value}
    {T6 : Addr} {tk6_0 : Tok} {oT6 : Value} {dT6 : Option Addr} {nT6 : Nat} {sT6 : Array (Option Value)}
    {f7 : Addr} {od7 an7 : Option Addr} {sl7 : Array (Option Value)} {oc7 kV7 dc7 pm7 cd7 ct7 : Value}
    {f8 : Addr} {od8 an8 : Option Addr} {sl8 : Array (Option Value)} {oc8 kV8 dc8 pm8 cd8 ct8 : Value}
    {f9 : Addr} {od9 an9 : Option Addr} {sl9 : Array (Option Value)} {oc9 kV9 dc9 pm9 cd9 ct9 : Value}
    {f10 : Addr} {od10 an10 : Option Addr} {sl10 : Array (Option Value)} {oc10 kV10 dc10 pm10 cd10 ct10 : Value}
    {f11 : Addr} {od11 an11 : Option Addr} {sl11 : Array (Option Value)} {oc11 kV11 dc11 pm11 cd11 ct11 : Value}
    {f12 : Addr} {od12 an12 : Option Addr} {sl12 : Array (Option Value)} {oc12 kV12 dc12 pm12 cd12 ct12 : Value}
    {f13 : Addr} {od13 an13 : Option Addr} {sl13 : Array (Option Value)} {oc13 kV13 dc13 pm13 cd13 ct13 : Value}
    {f14 : Addr} {od14 an14 : Option Addr} {sl14 : Array (Option Value)} {oc14 kV14 dc14 pm14 cd14 ct14 : Value}
    {f15 : Addr} {od15 an15 : Option Addr} {sl15 : Array (Option Value)} {oc15 kV15 dc15 pm15 cd15 ct15 : Value}
    {f16 : Addr} {od16 an16 : Option Addr} {sl16 : Array (Option Value)} {oc16 kV16 dc16 pm16 cd16 ct16 : Value}
    (aC0 : PySem.W.nsIn K mainGlobals "CostError" = some (some (.ref C0)))
    (aC1 : PySem.W.nsIn K mainGlobals "NoRatio" = some (some (.ref C1)))
    (aC2 : PySem.W.nsIn K mainGlobals "Ratio" = some (some (.ref C2)))
    (pg2 : PySem.W.plainGet K C2 Str.empty = true)
    (hd2 : PySem.W.hasDictIn K C2 = true)
    (po2 : PySem.W.plainOver K C2 = true)
    (sa2 : PySem.W.findIn K (.ref C2) "__setattr__" = some (some (.builtin "object.__setattr__")))
    (mk2 : PySem.W.makesIn K C2 = true)
    (kc2 : PySem.W.keepIn K (.ref C2) = true)
    (z_abs : PySem.W.nsIn K mainGlobals "abs" = some none)
    (z_all : PySem.W.nsIn K mainGlobals "all" = some none)
    (z_bool : PySem.W.nsIn K mainGlobals "bool" = some none)
    (z_int : PySem.W.nsIn K mainGlobals "int" = some none)
    (z_isinstance : PySem.W.nsIn K mainGlobals "isinstance" = some none)
    (z_len : PySem.W.nsIn K mainGlobals "len" = some none)
    (z_list : PySem.W.nsIn K mainGlobals "list" = some none)
    (z_min : PySem.W.nsIn K mainGlobals "min" = some none)
    (z_range : PySem.W.nsIn K mainGlobals "range" = some none)
    (z_sum : PySem.W.nsIn K mainGlobals "sum" = some none)
    (z_lcm : PySem.W.nsIn K mainGlobals "lcm" = some (some (.builtin "math.lcm")))
    (z_gcd : PySem.W.nsIn K mainGlobals "gcd" = some (some (.builtin "math.gcd")))
    (fkp_NoRatio : PySem.W.keepIn K (.ref C1) = true)
    (fex_NoRatio : PySem.W.excIn K C1 [.type "ValueError", .type "Exception", .type "BaseException", .type "object"] "ValueError.__new__" = true)
    (fsb_NoRatio : PySem.W.subIn K (.ref C1) (.type "BaseException") = some true)
    (fty_NoRatio : PySem.W.typeIn K (.ref C1) = some (.type "type"))
    (fxi_NoRatio : PySem.W.isClsIn K C1 = true)
    (fxs_NoRatio : PySem.W.subIn K (.ref C1) (.ref C1) = some true)
    (fy1_NoRatio : PySem.W.findIn K (.ref C1) "__getattribute__" = some (some (.builtin "BaseException.__getattribute__")))
    (fy2_NoRatio : PySem.W.findIn K (.ref C1) "__getattr__" = some none)
    (fy3_NoRatio : PySem.W.hasDictIn K C1 = true)
    (fy4_NoRatio : PySem.W.findIn K (.ref C1) "__class__" = some (some (.builtin "object.__class__")))
    (fo5 : PySem.W.specialIn K (.builtin "object.__class__") "__get__" = some (some (.builtin "getset_descriptor.__get__")))
    (fo6 : PySem.W.takesIn K (.builtin "object.__class__") = some true)
    (fy7_NoRatio : PySem.W.mroIn K C1 (.type "object") = some true)
    (fna_Ratio_top : PySem.W.findIn K (.ref C2) "top" = some none)
    (fna_Ratio_bottom : PySem.W.findIn K (.ref C2) "bottom" = some none)
    (fic_Ratio : PySem.W.findIn K (.ref C2) "__class__" = some (some (.builtin "object.__class__")))
    (fim_Ratio : PySem.W.mroIn K C2 (.type "object") = some true)
    (fki_NoRatio_CostError : PySem.W.kitOne K (.ref C1) (.ref C0) = some true)
    (fki_int_Ratio : PySem.W.kitOne K (.type "int") (.ref C2) = some false)
    (a0 : PySem.W.nsIn K mainGlobals "_law_bag" = some (some (.ref f0)))
    (l0 : K.lookup f0 = some ⟨oc0, od0, .func (PySem.W.fnOf "_law_bag" "_law_bag" (defArgs s_l_bag) (defBody s_l_bag) (defScope s_l_bag) .none kV0 dc0 pm0 an0 cd0 ct0), sl0⟩)
    (c0 : PySem.W.codeIn K cd0 "_law_bag" = true)
    (k0 : PySem.W.keepIn K (.ref f0) = true)
    (a1 : PySem.W.nsIn K mainGlobals "_law_draw" = some (some (.ref f1)))
    (l1 : K.lookup f1 = some ⟨oc1, od1, .func (PySem.W.fnOf "_law_draw" "_law_draw" (defArgs s_l_draw) (defBody s_l_draw) (defScope s_l_draw) .none kV1 dc1 pm1 an1 cd1 ct1), sl1⟩)
    (c1 : PySem.W.codeIn K cd1 "_law_draw" = true)
    (k1 : PySem.W.keepIn K (.ref f1) = true)
    (a2 : PySem.W.nsIn K mainGlobals "_law_divisor" = some (some (.ref f2)))
    (l2 : K.lookup f2 = some ⟨oc2, od2, .func (PySem.W.fnOf "_law_divisor" "_law_divisor" (defArgs s_l_divisor) (defBody s_l_divisor) (defScope s_l_divisor) .none kV2 dc2 pm2 an2 cd2 ct2), sl2⟩)
    (c2 : PySem.W.codeIn K cd2 "_law_divisor" = true)
    (k2 : PySem.W.keepIn K (.ref f2) = true)
    (a3 : PySem.W.nsIn K mainGlobals "_law_lowest" = some (some (.ref f3)))
    (l3 : K.lookup f3 = some ⟨oc3, od3, .func (PySem.W.fnOf "_law_lowest" "_law_lowest" (defArgs s_l_lowest) (defBody s_l_lowest) (defScope s_l_lowest) .none kV3 dc3 pm3 an3 cd3 ct3), sl3⟩)
    (c3 : PySem.W.codeIn K cd3 "_law_lowest" = true)
    (k3 : PySem.W.keepIn K (.ref f3) = true)
    (a4 : PySem.W.nsIn K mainGlobals "_law_amounts" = some (some (.ref f4)))
    (l4 : K.lookup f4 = some ⟨oc4, od4, .func (PySem.W.fnOf "_law_amounts" "_law_amounts" (defArgs s_l_amounts) (defBody s_l_amounts) (defScope s_l_amounts) .none kV4 dc4 pm4 an4 cd4 ct4), sl4⟩)
    (c4 : PySem.W.codeIn K cd4 "_law_amounts" = true)
    (k4 : PySem.W.keepIn K (.ref f4) = true)
    (a5 : PySem.W.nsIn K mainGlobals "_law_integer" = some (some (.ref f5)))
    (l5 : K.lookup f5 = some ⟨oc5, od5, .func (PySem.W.fnOf "_law_integer" "_law_integer" (defArgs s_l_integer) (defBody s_l_integer) (defScope s_l_integer) .none kV5 dc5 pm5 an5 cd5 ct5), sl5⟩)
    (c5 : PySem.W.codeIn K cd5 "_law_integer" = true)
    (k5 : PySem.W.keepIn K (.ref f5) = true)
    (a6 : PySem.W.findIn K (.ref C2) "__init__" = some (some (.ref f6)))
    (i6 : PySem.W.isFn K (.ref f6) = true)
    (l6 : K.lookup f6 = some ⟨oc6, od6, .func (PySem.W.fnOf "__init__" "Ratio.__init__" (defArgs s_Ratio_init) (defBody s_Ratio_init) (defScope s_Ratio_init) (.ref T6) kV6 dc6 pm6 an6 cd6 ct6), sl6⟩)
    (c6 : PySem.W.codeIn K cd6 "Ratio.__init__" = true)
    (k6 : PySem.W.keepIn K (.ref f6) = true)
    (t6 : K.lookup T6 = some ⟨oT6, dT6, .seq #[.int 1 tk6_0] nT6, sT6⟩)
    (a7 : PySem.W.nsIn K mainGlobals "_law_handed_out" = some (some (.ref f7)))
    (l7 : K.lookup f7 = some ⟨oc7, od7, .func (PySem.W.fnOf "_law_handed_out" "_law_handed_out" (defArgs s_l_handed_out) (defBody s_l_handed_out) (defScope s_l_handed_out) .none kV7 dc7 pm7 an7 cd7 ct7), sl7⟩)
    (c7 : PySem.W.codeIn K cd7 "_law_handed_out" = true)
    (k7 : PySem.W.keepIn K (.ref f7) = true)
    (a8 : PySem.W.nsIn K mainGlobals "_law_common" = some (some (.ref f8)))
    (l8 : K.lookup f8 = some ⟨oc8, od8, .func (PySem.W.fnOf "_law_common" "_law_common" (defArgs s_l_common) (defBody s_l_common) (defScope s_l_common) .none kV8 dc8 pm8 an8 cd8 ct8), sl8⟩)
    (c8 : PySem.W.codeIn K cd8 "_law_common" = true)
    (k8 : PySem.W.keepIn K (.ref f8) = true)
    (a9 : PySem.W.nsIn K mainGlobals "as_ratio" = some (some (.ref f9)))
    (l9 : K.lookup f9 = some ⟨oc9, od9, .func (PySem.W.fnOf "as_ratio" "as_ratio" (defArgs s_as_ratio) (defBody s_as_ratio) (defScope s_as_ratio) .none kV9 dc9 pm9 an9 cd9 ct9), sl9⟩)
    (c9 : PySem.W.codeIn K cd9 "as_ratio" = true)
    (k9 : PySem.W.keepIn K (.ref f9) = true)
    (a10 : PySem.W.nsIn K mainGlobals "over_one_bottom" = some (some (.ref f10)))
    (l10 : K.lookup f10 = some ⟨oc10, od10, .func (PySem.W.fnOf "over_one_bottom" "over_one_bottom" (defArgs s_over_one_bottom) (defBody s_over_one_bottom) (defScope s_over_one_bottom) .none kV10 dc10 pm10 an10 cd10 ct10), sl10⟩)
    (c10 : PySem.W.codeIn K cd10 "over_one_bottom" = true)
    (k10 : PySem.W.keepIn K (.ref f10) = true)
    (a11 : PySem.W.findIn K (.ref C2) "nearest" = some (some (.ref f11)))
    (i11 : PySem.W.isFn K (.ref f11) = true)
    (l11 : K.lookup f11 = some ⟨oc11, od11, .func (PySem.W.fnOf "nearest" "Ratio.nearest" (defArgs s_Ratio_nearest) (defBody s_Ratio_nearest) (defScope s_Ratio_nearest) .none kV11 dc11 pm11 an11 cd11 ct11), sl11⟩)
    (c11 : PySem.W.codeIn K cd11 "Ratio.nearest" = true)
    (k11 : PySem.W.keepIn K (.ref f11) = true)
    (a12 : PySem.W.nsIn K mainGlobals "dealt" = some (some (.ref f12)))
    (l12 : K.lookup f12 = some ⟨oc12, od12, .func (PySem.W.fnOf "dealt" "dealt" (defArgs s_dealt) (defBody s_dealt) (defScope s_dealt) .none kV12 dc12 pm12 an12 cd12 ct12), sl12⟩)
    (c12 : PySem.W.codeIn K cd12 "dealt" = true)
    (k12 : PySem.W.keepIn K (.ref f12) = true)
    (a13 : PySem.W.nsIn K mainGlobals "_law_refused" = some (some (.ref f13)))
    (l13 : K.lookup f13 = some ⟨oc13, od13, .func (PySem.W.fnOf "_law_refused" "_law_refused" (defArgs s_l_refused) (defBody s_l_refused) (defScope s_l_refused) .none kV13 dc13 pm13 an13 cd13 ct13), sl13⟩)
    (c13 : PySem.W.codeIn K cd13 "_law_refused" = true)
    (k13 : PySem.W.keepIn K (.ref f13) = true)
    (a14 : PySem.W.nsIn K mainGlobals "_law_number" = some (some (.ref f14)))
    (l14 : K.lookup f14 = some ⟨oc14, od14, .func (PySem.W.fnOf "_law_number" "_law_number" (defArgs s_l_number) (defBody s_l_number) (defScope s_l_number) .none kV14 dc14 pm14 an14 cd14 ct14), sl14⟩)
    (c14 : PySem.W.codeIn K cd14 "_law_number" = true)
    (k14 : PySem.W.keepIn K (.ref f14) = true)
    (a15 : PySem.W.nsIn K mainGlobals "_law_dealt_right" = some (some (.ref f15)))
    (l15 : K.lookup f15 = some ⟨oc15, od15, .func (PySem.W.fnOf "_law_dealt_right" "_law_dealt_right" (defArgs s_l_dealt_right) (defBody s_l_dealt_right) (defScope s_l_dealt_right) .none kV15 dc15 pm15 an15 cd15 ct15), sl15⟩)
    (c15 : PySem.W.codeIn K cd15 "_law_dealt_right" = true)
    (k15 : PySem.W.keepIn K (.ref f15) = true)
    (a16 : PySem.W.nsIn K mainGlobals "law" = some (some (.ref f16)))
    (l16 : K.lookup f16 = some ⟨oc16, od16, .func (PySem.W.fnOf "law" "law" (defArgs s_law) (defBody s_law) (defScope s_law) .none kV16 dc16 pm16 an16 cd16 ct16), sl16⟩)
    (c16 : PySem.W.codeIn K cd16 "law" = true)
    (k16 : PySem.W.keepIn K (.ref f16) = true)
    : ∃ fd : FuncData, (∀ (s : Shared) (v : Value), BindsTo s fd ⟨[v], []⟩ [("_law_script", v)]) ∧ ∀ base : Heap, K.In base → base.Ns mainGlobals mg → FnOk l.prog w K mg base (L2N.CX l.prog w) 7 fa fd ["_law_script"] (sp_law K fun _ => 0) := by
  have e := hfa.symm.trans (PySem.W.mg_of X G a16)
  cases e
  have T : Txt K mg (fun n => if n = 0 then C0 else if n = 1 then C1 else if n = 2 then C2 else 0) := ⟨PySem.W.mg_none_of X G z_abs, PySem.W.mg_none_of X G z_all, PySem.W.mg_none_of X G z_bool, PySem.W.mg_none_of X G z_int, PySem.W.mg_none_of X G z_isinstance, PySem.W.mg_none_of X G z_len, PySem.W.mg_none_of X G z_list, PySem.W.mg_none_of X G z_min, PySem.W.mg_none_of X G z_range, PySem.W.mg_none_of X G z_sum, PySem.W.mg_of X G z_lcm, PySem.W.mg_of X G z_gcd, PySem.W.mg_of X G aC0, PySem.W.mg_of X G aC1, fkp_NoRatio, fex_NoRatio, fsb_NoRatio, fty_NoRatio, exm1 fsb_NoRatio fxi_NoRatio fty_NoRatio fxs_NoRatio, ⟨fy1_NoRatio, fy2_NoRatio, fsb_NoRatio, fy3_NoRatio, fy4_NoRatio, fo5, fo6, fy7_NoRatio⟩, PySem.W.mg_of X G aC2, ⟨pg2, hd2, po2, sa2⟩, fna_Ratio_top, fna_Ratio_bottom, fic_Ratio, fo5, fo6, fim_Ratio, fki_NoRatio_CostError, fki_int_Ratio⟩
  have F0 := fun_mk (st := s_l_bag) l0 c0 k0
  have b0 := F0.binds (ps := ["_law_script"]) fun _ _ _ _ _ _ us hl => match us, hl with | [_], _ => rfl
  have F1 := fun_mk (st := s_l_draw) l1 c1 k1
  have b1 := F1.binds (ps := ["_law_bag_here", "_law_size"]) fun _ _ _ _ _ _ us hl => match us, hl with | [_, _], _ => rfl
  have F2 := fun_mk (st := s_l_divisor) l2 c2 k2
  have b2 := F2.binds (ps := ["_law_one", "_law_other"]) fun _ _ _ _ _ _ us hl => match us, hl with | [_, _], _ => rfl
  have F3 := fun_mk (st := s_l_lowest) l3 c3 k3
  have b3 := F3.binds (ps := ["_law_top", "_law_bottom"]) fun _ _ _ _ _ _ us hl => match us, hl with | [_, _], _ => rfl
  have F4 := fun_mk (st := s_l_amounts) l4 c4 k4
  have b4 := F4.binds (ps := ["_law_bag_here"]) fun _ _ _ _ _ _ us hl => match us, hl with | [_], _ => rfl
  have F5 := fun_mk (st := s_l_integer) l5 c5 k5
  have b5 := F5.binds (ps := ["_law_bag_here"]) fun _ _ _ _ _ _ us hl => match us, hl with | [_], _ => rfl
  have F6 : FunD K "__init__" "Ratio.__init__" (defArgs s_Ratio_init) (defBody s_Ratio_init) (defScope s_Ratio_init) [.int 1] [] f6 _ := ⟨⟨_, _, _, _, _, _, _, _, _, _, rfl, l6, c6, .inr ⟨by simp, T6, _, [.int 1 tk6_0], nT6, rfl, t6, rfl, (.cons ⟨_, rfl⟩ .nil)⟩, .inl rfl⟩, k6⟩
  have b6_2 := F6.binds1 (ps := ["self", "top", "bottom"]) 3 1 (by simp) (by decide) fun _ _ _ _ _ _ _ us its hl hi => match us, hl, its, hi with | [_, _, _], _, [_], _ => ⟨_, rfl, rfl⟩
  have b6_1 := F6.binds1 (ps := ["self", "top", "bottom"]) 2 0 (by simp) (by decide) fun _ _ _ _ _ _ _ us its hl hi => match us, hl, its, hi with | [_, _], _, [_], _ => ⟨_, rfl, rfl⟩
  have F7 := fun_mk (st := s_l_handed_out) l7 c7 k7
  have b7 := F7.binds (ps := ["_law_bag_here", "_law_amounts_here"]) fun _ _ _ _ _ _ us hl => match us, hl with | [_, _], _ => rfl
  have F8 := fun_mk (st := s_l_common) l8 c8 k8
  have b8 := F8.binds (ps := ["_law_amounts_here"]) fun _ _ _ _ _ _ us hl => match us, hl with | [_], _ => rfl
  have F9 := fun_mk (st := s_as_ratio) l9 c9 k9
  have b9 := F9.binds (ps := ["number"]) fun _ _ _ _ _ _ us hl => match us, hl with | [_], _ => rfl
  have F10 := fun_mk (st := s_over_one_bottom) l10 c10 k10
  have b10 := F10.binds (ps := ["numbers"]) fun _ _ _ _ _ _ us hl => match us, hl with | [_], _ => rfl
  have F11 := fun_mk (st := s_Ratio_nearest) l11 c11 k11
  have b11 := F11.binds (ps := ["self"]) fun _ _ _ _ _ _ us hl => match us, hl with | [_], _ => rfl
  have F12 := fun_mk (st := s_dealt) l12 c12 k12
  have b12 := F12.binds (ps := ["cents", "amounts"]) fun _ _ _ _ _ _ us hl => match us, hl with | [_, _], _ => rfl
  have F13 := fun_mk (st := s_l_refused) l13 c13 k13
  have b13 := F13.binds (ps := ["_law_cents", "_law_amounts_here"]) fun _ _ _ _ _ _ us hl => match us, hl with | [_, _], _ => rfl
  have F14 := fun_mk (st := s_l_number) l14 c14 k14
  have b14 := F14.binds (ps := ["_law_value"]) fun _ _ _ _ _ _ us hl => match us, hl with | [_], _ => rfl
  have F15 := fun_mk (st := s_l_dealt_right) l15 c15 k15
  have b15 := F15.binds (ps := ["_law_told", "_law_cents", "_law_weights"]) fun _ _ _ _ _ _ us hl => match us, hl with | [_, _, _], _ => rfl
  have F16 := fun_mk (st := s_law) l16 c16 k16
  have b16 := F16.binds (ps := ["_law_script"]) fun _ _ _ _ _ _ us hl => match us, hl with | [_], _ => rfl
  refine ⟨PySem.W.fnOf "law" "law" (defArgs s_law) (defBody s_law) (defScope s_law) .none kV16 dc16 pm16 an16 cd16 ct16, fun s v => .of_eq rfl, fun base _ _ => ?_⟩
  have O0 : Own l.prog w K mg base 1 "_law_bag" ["_law_script"] (sp_l_bag K (fun n => if n = 0 then C0 else if n = 1 then C1 else if n = 2 then C2 else 0)) := ⟨⟨f0, _, ok_l_bag F0 T , PySem.W.mg_of X G a0, k0, b0⟩⟩
  have O1 : Own l.prog w K mg base 1 "_law_draw" ["_law_bag_here", "_law_size"] (sp_l_draw K (fun n => if n = 0 then C0 else if n = 1 then C1 else if n = 2 then C2 else 0)) := ⟨⟨f1, _, ok_l_draw F1 T , PySem.W.mg_of X G a1, k1, b1⟩⟩
  have O2 : Own l.prog w K mg base 1 "_law_divisor" ["_law_one", "_law_other"] (sp_l_divisor K (fun n => if n = 0 then C0 else if n = 1 then C1 else if n = 2 then C2 else 0)) := ⟨⟨f2, _, ok_l_divisor F2 T , PySem.W.mg_of X G a2, k2, b2⟩⟩
  have O3 : Own l.prog w K mg base 2 "_law_lowest" ["_law_top", "_law_bottom"] (sp_l_lowest K (fun n => if n = 0 then C0 else if n = 1 then C1 else if n = 2 then C2 else 0)) := ⟨⟨f3, _, ok_l_lowest F3 T O2, PySem.W.mg_of X G a3, k3, b3⟩⟩
  have O4 : Own l.prog w K mg base 3 "_law_amounts" ["_law_bag_here"] (sp_l_amounts K (fun n => if n = 0 then C0 else if n = 1 then C1 else if n = 2 then C2 else 0)) := ⟨⟨f4, _, ok_l_amounts F4 T O1 O3, PySem.W.mg_of X G a4, k4, b4⟩⟩
  have O5 : Own l.prog w K mg base 2 "_law_integer" ["_law_bag_here"] (sp_l_integer K (fun n => if n = 0 then C0 else if n = 1 then C1 else if n = 2 then C2 else 0)) := ⟨⟨f5, _, ok_l_integer F5 T O1, PySem.W.mg_of X G a5, k5, b5⟩⟩
  obtain ⟨ds6_2, vd6_2, bd6_2⟩ := b6_2
  have O6_2 : OwnI l.prog w K mg base 1 "Ratio" C2 ["self", "top", "bottom"] [] (sp_Ratio_init K (fun n => if n = 0 then C0 else if n = 1 then C1 else if n = 2 then C2 else 0)) := ⟨⟨f6, _, _, ok_Ratio_init F6 T , ⟨mk2, a6, i6, kc2⟩, PySem.W.mg_of X G aC2, bd6_2, vd6_2⟩⟩
  obtain ⟨ds6_1, vd6_1, bd6_1⟩ := b6_1
  have O6_1 : OwnI l.prog w K mg base 1 "Ratio" C2 ["self", "top", "bottom"] [.int 1] (sp_Ratio_init K (fun n => if n = 0 then C0 else if n = 1 then C1 else if n = 2 then C2 else 0)) := ⟨⟨f6, _, _, ok_Ratio_init F6 T , ⟨mk2, a6, i6, kc2⟩, PySem.W.mg_of X G aC2, bd6_1, vd6_1⟩⟩
  have O7 : Own l.prog w K mg base 3 "_law_handed_out" ["_law_bag_here", "_law_amounts_here"] (sp_l_handed_out K (fun n => if n = 0 then C0 else if n = 1 then C1 else if n = 2 then C2 else 0)) := ⟨⟨f7, _, ok_l_handed_out F7 T O1 O6_2 O6_1, PySem.W.mg_of X G a7, k7, b7⟩⟩
  have O8 : Own l.prog w K mg base 2 "_law_common" ["_law_amounts_here"] (sp_l_common K (fun n => if n = 0 then C0 else if n = 1 then C1 else if n = 2 then C2 else 0)) := ⟨⟨f8, _, ok_l_common F8 T O2, PySem.W.mg_of X G a8, k8, b8⟩⟩
  have O9 : Own l.prog w K mg base 3 "as_ratio" ["number"] (sp_as_ratio K (fun n => if n = 0 then C0 else if n = 1 then C1 else if n = 2 then C2 else 0)) := ⟨⟨f9, _, ok_as_ratio F9 T O6_2 O6_1, PySem.W.mg_of X G a9, k9, b9⟩⟩
  have O10 : Own l.prog w K mg base 4 "over_one_bottom" ["numbers"] (sp_over_one_bottom K (fun n => if n = 0 then C0 else if n = 1 then C1 else if n = 2 then C2 else 0)) := ⟨⟨f10, _, ok_over_one_bottom F10 T O9, PySem.W.mg_of X G a10, k10, b10⟩⟩
  have O11 : OwnM l.prog w K mg base 1 C2 "nearest" ["self"] (sp_Ratio_nearest K (fun n => if n = 0 then C0 else if n = 1 then C1 else if n = 2 then C2 else 0)) := ⟨⟨pg2, hd2, po2, sa2⟩, ⟨f11, _, ok_Ratio_nearest F11 T , ⟨a11, i11, k11⟩, b11⟩⟩
  have O12 : Own l.prog w K mg base 5 "dealt" ["cents", "amounts"] (sp_dealt K (fun n => if n = 0 then C0 else if n = 1 then C1 else if n = 2 then C2 else 0)) := ⟨⟨f12, _, ok_dealt F12 T O10 O6_2 O6_1 O11, PySem.W.mg_of X G a12, k12, b12⟩⟩
  have O13 : Own l.prog w K mg base 6 "_law_refused" ["_law_cents", "_law_amounts_here"] (sp_l_refused K (fun n => if n = 0 then C0 else if n = 1 then C1 else if n = 2 then C2 else 0)) := ⟨⟨f13, _, ok_l_refused F13 T O12, PySem.W.mg_of X G a13, k13, b13⟩⟩
  have O14 : Own l.prog w K mg base 1 "_law_number" ["_law_value"] (sp_l_number K (fun n => if n = 0 then C0 else if n = 1 then C1 else if n = 2 then C2 else 0)) := ⟨⟨f14, _, ok_l_number F14 T , PySem.W.mg_of X G a14, k14, b14⟩⟩
  have O15 : Own l.prog w K mg base 2 "_law_dealt_right" ["_law_told", "_law_cents", "_law_weights"] (sp_l_dealt_right K (fun n => if n = 0 then C0 else if n = 1 then C1 else if n = 2 then C2 else 0)) := ⟨⟨f15, _, ok_l_dealt_right F15 T O14, PySem.W.mg_of X G a15, k15, b15⟩⟩
  have z : FnOk l.prog w K mg base (L2N.CX l.prog w) 7 _ _ ["_law_script"] (sp_law K (fun n => if n = 0 then C0 else if n = 1 then C1 else if n = 2 then C2 else 0)) := ok_law F16 T O0 O4 O5 O7 O8 O1 O13 O12 O15 O6_2 O6_1
  exact z
end Lo
open PySem PySem.W PyProof.Rows in
set_option maxRecDepth 100000 in
set_option maxHeartbeats 0 in
theorem PySem.Challenge.cw_lotcosts_k89_cents_dealt_out_holds : PySem.Challenge.rw_lotcosts_k89_cents_dealt_out.Holds := by
  w_on; o_law; k_head; (case hw => w_witness2)
  k_fill
  refine Lo.walk (l := PySem.Challenge.rw_lotcosts_k89_cents_dealt_out) 7 ⟨rfl, by decide, by decide⟩ rfl rfl (fun w h Y => PySem.W.kIn_of Y) ?F
  case F =>
    intro w mg fa h KX G hmg
    refine' Lo.all_mk KX G hmg ?aC0 ?aC1 ?aC2 ?pg2 ?hd2 ?po2 ?sa2 ?mk2 ?kc2 ?z_abs ?z_all ?z_bool ?z_int ?z_isinstance ?z_len ?z_list ?z_min ?z_range ?z_sum ?z_lcm ?z_gcd ?fkp_NoRatio ?fex_NoRatio ?fsb_NoRatio ?fty_NoRatio ?fxi_NoRatio ?fxs_NoRatio ?fy1_NoRatio ?fy2_NoRatio ?fy3_NoRatio ?fy4_NoRatio ?fo5 ?fo6 ?fy7_NoRatio ?fna_Ratio_top ?fna_Ratio_bottom ?fic_Ratio ?fim_Ratio ?fki_NoRatio_CostError ?fki_int_Ratio ?a0 ?l0 ?c0 ?k0 ?a1 ?l1 ?c1 ?k1 ?a2 ?l2 ?c2 ?k2 ?a3 ?l3 ?c3 ?k3 ?a4 ?l4 ?c4 ?k4 ?a5 ?l5 ?c5 ?k5 ?a6 ?i6 ?l6 ?c6 ?k6 ?t6 ?a7 ?l7 ?c7 ?k7 ?a8 ?l8 ?c8 ?k8 ?a9 ?l9 ?c9 ?k9 ?a10 ?l10 ?c10 ?k10 ?a11 ?i11 ?l11 ?c11 ?k11 ?a12 ?l12 ?c12 ?k12 ?a13 ?l13 ?c13 ?k13 ?a14 ?l14 ?c14 ?k14 ?a15 ?l15 ?c15 ?k15 ?a16 ?l16 ?c16 ?k16
    (case aC0 => k_is)
    (case aC1 => k_is)
    (case aC2 => k_is)
    (case pg2 => k_is)
    (case hd2 => k_is)
    (case po2 => k_is)
    (case sa2 => k_is)
    (case mk2 => k_is)
    (case kc2 => k_is)
    (case z_abs => k_is)
    (case z_all => k_is)
    (case z_bool => k_is)
    (case z_int => k_is)
    (case z_isinstance => k_is)
    (case z_len => k_is)
    (case z_list => k_is)
    (case z_min => k_is)
    (case z_range => k_is)
    (case z_sum => k_is)
    (case z_lcm => k_is)
    (case z_gcd => k_is)
    (case fkp_NoRatio => k_is)
    (case fex_NoRatio => k_exc)
    (case fsb_NoRatio => k_is)
    (case fty_NoRatio => k_is)
    (case fxi_NoRatio => k_is)
    (case fxs_NoRatio => first | rfl | k_is)
    (case fy1_NoRatio => k_is)
    (case fy2_NoRatio => k_is)
    (case fy3_NoRatio => k_is)
    (case fy4_NoRatio => k_is)
    (case fo5 => k_is)
    (case fo6 => k_is)
    (case fy7_NoRatio => k_is)
    (case fna_Ratio_top => k_is)
    (case fna_Ratio_bottom => k_is)
    (case fic_Ratio => k_is)
    (case fim_Ratio => k_is)
    (case fki_NoRatio_CostError => kit_is)
    (case fki_int_Ratio => kit_is)
    (case a0 => k_is)
    (case l0 => k_is)
    (case c0 => k_is)
    (case k0 => k_is)
    (case a1 => k_is)
    (case l1 => k_is)
    (case c1 => k_is)
    (case k1 => k_is)
    (case a2 => k_is)
    (case l2 => k_is)
    (case c2 => k_is)
    (case k2 => k_is)
    (case a3 => k_is)
    (case l3 => k_is)
    (case c3 => k_is)
    (case k3 => k_is)
    (case a4 => k_is)
    (case l4 => k_is)
    (case c4 => k_is)
    (case k4 => k_is)
    (case a5 => k_is)
    (case l5 => k_is)
    (case c5 => k_is)
    (case k5 => k_is)
    (case a6 => k_is)
    (case i6 => k_is)
    (case l6 => k_is)
    (case c6 => k_is)
    (case k6 => k_is)
    (case t6 => k_is)
    (case a7 => k_is)
    (case l7 => k_is)
    (case c7 => k_is)
    (case k7 => k_is)
    (case a8 => k_is)
    (case l8 => k_is)
    (case c8 => k_is)
    (case k8 => k_is)
    (case a9 => k_is)
    (case l9 => k_is)
    (case c9 => k_is)
    (case k9 => k_is)
    (case a10 => k_is)
    (case l10 => k_is)
    (case c10 => k_is)
    (case k10 => k_is)
    (case a11 => k_is)
    (case i11 => k_is)
    (case l11 => k_is)
    (case c11 => k_is)
    (case k11 => k_is)
    (case a12 => k_is)
    (case l12 => k_is)
    (case c12 => k_is)
    (case k12 => k_is)
    (case a13 => k_is)
    (case l13 => k_is)
    (case c13 => k_is)
    (case k13 => k_is)
    (case a14 => k_is)
    (case l14 => k_is)
    (case c14 => k_is)
    (case k14 => k_is)
    (case a15 => k_is)
    (case l15 => k_is)
    (case c15 => k_is)
    (case k15 => k_is)
    (case a16 => k_is)
    (case l16 => k_is)
    (case c16 => k_is)
    (case k16 => k_is)
#print axioms PySem.Challenge.cw_lotcosts_k89_cents_dealt_out_holds
