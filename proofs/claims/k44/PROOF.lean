import PyProof.Rows.All
import Wide.All
import OpenK.AllK
import Wide.FinOn
import HandS.ForMost
import HandS.ForExc
import HandS.Flow
import HandS.Wide
import HandS.Gcd
import HandS.IsInst
import HandS.EndBits
import HandS.Defaults
import HandS.Style
import HandS.TryMany
import HandS.ExcIs
import HandS.ExcCtx
import HandS.Small
import HandS.ClsMeth
import HandS.Evl
import KE.RegKIsAll
import KE.KOpsOwn
import HandS.OwnEq
import HandS.DictComp
import HandS.Walk
import HandS.StrMore
import HandS.More
import HandS.Finally
import HandS.NoneIn
import HandS.ExcInit
import HandS.ExcField
import HandS.SetKeys
import HandS.TupSets
import HandS.MakeKwOnly
import KE.KExcIs
import PySem.Challenge.RW_lotcosts_k44_refused_rules
set_option Elab.async false
set_option linter.all false
set_option maxRecDepth 100000
set_option maxHeartbeats 4000000
namespace Lo
open PySem PySem.Spec PyProof.Rows L2

/-! ### heaps -/
theorem sget {H H' : Hp} {a : Addr} {o : HO} (s : Same H H') (h : H a = some o) : H' a = some o := s a o h
/-- all but what stands at b is as it was -/
def Keep (b : Addr) (H H' : Hp) : Prop := ∀ a o, H a = some o → a ≠ b → H' a = some o
theorem Keep.of {b : Addr} {H H' : Hp} (s : Same H H') : Keep b H H' := fun a o h _ => s a o h
theorem Keep.trans {b : Addr} {H H1 H2 : Hp} (s : Keep b H H1) (t : Keep b H1 H2) : Keep b H H2 := fun a o h n => t a o (s a o h n) n
theorem kget {b : Addr} {H H' : Hp} {a : Addr} {o : HO} (s : Keep b H H') (n : a ≠ b) (h : H a = some o) : H' a = some o := s a o h n
theorem same_upd {H : Hp} {p : Addr} {o : HO} (h : H p = none) : Same H (upd H p o) := fun a u e => by rw [upd_ne (ne_of_none e h)]; exact e
theorem keep_upd {H : Hp} {p : Addr} {o : HO} : Keep p H (upd H p o) := fun a u e n => by rw [upd_ne n]; exact e
theorem same_put {H H' : Hp} {p : Addr} {o : HO} (n : H p = none) (s : Same H H') : Same H (upd H' p o) := fun a u e => by rw [upd_ne (ne_of_none e n)]; exact s a u e
theorem gen_new {H G : Hp} {p : Addr} {o : HO} (n : H p = none) (g : upd H p o = G) : Same H G ∧ G p = some o := by
  subst g
  exact ⟨same_upd n, upd_same⟩
theorem gen_put {H G : Hp} {p : Addr} {o : HO} (g : upd H p o = G) : Keep p H G ∧ G p = some o := by
  subst g
  exact ⟨keep_upd, upd_same⟩
theorem SqL.same {K : PySem.W.Frag} {H H' : Hp} {a : Addr} {xs : List V} (s : Same H H') (h : SqL K H a xs) : SqL K H' a xs := s.seq h

/-! ### a word between an expression and what follows -/
def tMid (t : TE) : TE := fun σ H Q => ∃ M : V → Hp → Prop, t σ H M ∧ ∀ v H', M v H' → Q v H'
theorem pe_mid {X : Cx} {e : Expr} {t : TE} (h : PE X e t) : PE X e (tMid t) := ⟨fun pins s σ H Q I ⟨M, hm, hq⟩ => thn (h.run pins s σ H M I hm) fun u s1 ⟨v, H1, I1, r, m⟩ => ⟨v, H1, I1, r, hq v H1 m⟩⟩
def tMidT (t : TT) : TT := fun σ H Q => ∃ M : Bool → Hp → Prop, t σ H M ∧ ∀ v H', M v H' → Q v H'
theorem pt_mid {X : Cx} {e : Expr} {t : TT} (h : PT X e t) : PT X e (tMidT t) := ⟨fun pins s σ H Q I ⟨M, hm, hq⟩ => thn (h.run pins s σ H M I hm) fun b s1 ⟨H1, I1, m⟩ => ⟨H1, I1, hq b H1 m⟩⟩
/-! ### own defs, as their callers see them -/
structure Own (P : Program) (w : World) (K : PySem.W.Frag) (mg : Str → Option Value) (base : Heap) (k : Nat) (x : Str) (ps : List Str) (sp : Sp) : Prop where
  ex : ∃ f fd, FnOk P w K mg base (L2N.CX P w) k f fd ps sp ∧ mg x = some (.ref f) ∧ PySem.W.keepIn K (.ref f) = true ∧ Binds K fd ps []
structure OwnM (P : Program) (w : World) (K : PySem.W.Frag) (mg : Str → Option Value) (base : Heap) (k : Nat) (C : Addr) (m : Str) (ps : List Str) (sp : Sp) : Prop where
  cl : Cls K C
  ex : ∃ f fd, FnOk P w K mg base (L2N.CX P w) k f fd ps sp ∧ Meth K C m f ∧ Binds K fd ps []
structure OwnI (P : Program) (w : World) (K : PySem.W.Frag) (mg : Str → Option Value) (base : Heap) (k : Nat) (x : Str) (C : Addr) (ps : List Str) (dvs : List V) (sp : Sp) : Prop where
  ex : ∃ f fd ds, FnOk P w K mg base (L2N.CX P w) k f fd ps sp ∧ Mk K C f ∧ mg x = some (.ref C) ∧ Binds K fd ps ds ∧ Vals dvs ds

section
variable {X : Cx} {k : Nat} {C : Addr} {ps : List Str} {sp : Sp} {E : L2.St → XK} {x m : Str} {p pos apos : Pos} {e o : Expr} {es : List Expr} {ta : TE} {t : TA} {dvs : List V}

theorem pas0 {X : Cx} : ∀ σ, PassesAt (L2N.CX X.prog X.w) X σ ((fun _ => E0) σ) := fun σ pins H s e s' I h => by
  obtain ⟨_, _, _, _, _, _, _, _, _, _, _, _, z⟩ := h
  exact z.elim
/-- a def by its body, whatever its callers learn of what leaves it -/
theorem okN {P : Program} {w : World} {K : PySem.W.Frag} {mg : Str → Option Value} {base : Heap} {x qual : Str} {st : Stmt} {f : Addr} {fd : FuncData} {N ps : List Str} {k : Nat} {sp : Sp} (F : Fun K x qual st f fd) (sc : FnScope N ps (defScope st))
    (ln : ∀ vs H Q E, sp vs H Q E → vs.length = ps.length) (bd : ∀ (cv : Value) (A : Around) (outer : List Env) (s : Shared) (H : Hp) (vs : List V) (Q : VK) (E : XK), Room k (A.deeper (envOfC qual (defScope st) s.heap.objs.size f cv)) → sp vs H Q E →
      ∃ t, PSs (cxOf (L2N.CX P w) P w K mg base N qual (defScope st) f cv A outer s H E) (defBody st) t ∧ t { nx := fun _ H' => Q .non H', rt := Q } (start N vs) H) :
    FnOk P w K mg base (L2N.CX P w) (k + 1) f fd ps sp := by
  have ⟨_, _, _, _, _, _, _, _, _, e, look, hcd⟩ := F.ex
  subst e
  exact fn_of look hcd sc ln fun A outer s H vs Q E hr h => bd _ A outer s H vs Q E hr h
theorem takesN {X : Cx} : L2N.Takes X (fun _ _ _ _ => False) := fun _ _ ⟨_, _, _, _, _, _, _, _, _, _, _, _, _, _, _, _, z⟩ => z.elim
theorem passN {X : Cx} : Passes (L2N.CX X.prog X.w) X E0 := fun pins σ => pas0 σ pins
theorem pasE {X : Cx} {E : XK} (tk : L2N.Takes X (fun cls d _ H => E cls d H)) : ∀ σ, PassesAt (L2N.CX X.prog X.w) X σ ((fun _ => E) σ) := fun σ => L2N.passAt (W := fun cls d _ H => E cls d H) tk σ
theorem pe_own (O : Own X.prog X.w X.K X.mg X.base k x ps sp) (hr : Room k X.A) (hg : Gl X x) (hx : ∀ σ, PassesAt (L2N.CX X.prog X.w) X σ (E σ)) (ha : PA X (e :: es) t)
    (hdb : (x == ("__debug__" : Str)) = false := by decide) (he : starEach (e :: es) X.env = (false, eval e X.env) :: starEach es X.env := by rfl) (hpl : (backTo pos (starEach es X.env)).any (·.1) = false := by rfl) :
    PE X (.Call (.Name x p) (e :: es) [] pos) (tCallS sp E t) := by
  obtain ⟨f, fd, F, hm, hk, hb⟩ := O.ex
  exact pe_callS F hr hg hm hk hb hx ha hdb he hpl

def tMethS (C : Addr) (m : Str) (sp : Sp) (E : L2.St → XK) (ta : TE) (t : TA) : TE := fun σ H Q => ta σ H fun x H1 => ∃ a dx fs, x = .ref a ∧ H1 a = some (.ins C dx fs) ∧ fs.lookup m = none ∧
  t σ H1 fun vs H2 => sp (x :: vs) H2 Q (E σ)
theorem pe_ownm {pl : Sem Bool} (O : OwnM X.prog X.w X.K X.mg X.base k C m ps sp) (he : PE X o ta) (hr : Room k X.A) (hx : ∀ σ, PassesAt (L2N.CX X.prog X.w) X σ (E σ)) (ha : PA X (e :: es) t)
    (hst : starEach (e :: es) X.env = (false, eval e X.env) :: starEach es X.env := by rfl) (hpl : (backTo pos (starEach es X.env)).any (·.1) = false := by rfl)
    (ht : eval (.Call (.Attribute o m apos) (e :: es) [] pos) X.env = (do
      let ov ← eval o X.env
      standAt apos.atName
      let (f, first) ← holding [ov] (getMethod ov m pl)
      callWith pos f first (backTo pos (starEach (e :: es) X.env)) (backToKw pos (keywordEach [] X.env))) := by rfl) :
    PE X (.Call (.Attribute o m apos) (e :: es) [] pos) (tMethS C m sp E ta t) := by
  obtain ⟨f, fd, F, hm, hb⟩ := O.ex
  refine ⟨fun pins s σ H Q I h => ?_⟩
  refine PySem.W.methodCall_KW (pl := pl) (thn (he.run pins s σ H _ I h) fun u s1 ⟨x, H1, I1, rx, a, dx, fs, ex, ea, l, q⟩ => ?_) ht
  subst ex
  obtain rfl : u = Value.ref a := rx
  refine getmeth_ok I1 ea O.cl hm l ?_
  refine PySem.W.callWith_K (first := [.ref a]) (h₀ := X.base) I.ok.mod.kin hm.kp (thn (ha.run pos pins s1 σ H1 _ I1 q) fun us s2 ⟨vs, H2, I2, r, q2⟩ => ⟨I2.kIn, ?_⟩) hst hpl
  exact run_fnS (us := .ref a :: us) (vs := .ref a :: vs) F hr hb (hx σ) I2 (.cons rfl r) q2
theorem pe_ownm0 {pl : Sem Bool} (O : OwnM X.prog X.w X.K X.mg X.base k C m ps sp) (he : PE X o ta) (hr : Room k X.A) (hx : ∀ σ, PassesAt (L2N.CX X.prog X.w) X σ (E σ))
    (ht : eval (.Call (.Attribute o m apos) [] [] pos) X.env = (do
      let ov ← eval o X.env
      standAt apos.atName
      let (f, first) ← holding [ov] (getMethod ov m pl)
      callWith pos f first (backTo pos (starEach [] X.env)) (backToKw pos (keywordEach [] X.env))) := by rfl) :
    PE X (.Call (.Attribute o m apos) [] [] pos) (tMethS C m sp E ta tNil) := by
  obtain ⟨f, fd, F, hm, hb⟩ := O.ex
  refine ⟨fun pins s σ H Q I h => ?_⟩
  refine PySem.W.methodCall_KW (pl := pl) (thn (he.run pins s σ H _ I h) fun u s1 ⟨x, H1, I1, rx, a, dx, fs, ex, ea, l, q⟩ => ?_) ht
  subst ex
  obtain rfl : u = Value.ref a := rx
  refine getmeth_ok I1 ea O.cl hm l ?_
  exact PySem.W.callWith_K0 (first := [.ref a]) I1.kIn hm.kp (run_fnS (us := [.ref a]) (vs := [.ref a]) F hr hb (hx σ) I1 (.cons rfl .nil) q)

def tMakeS (C : Addr) (sp : Sp) (dvs : List V) (E : L2.St → XK) (t : TA) : TE := fun σ H Q => t σ H fun vs H1 => ∀ x dx, H1 x = none → H1 dx = none → dx ≠ x →
  sp (.ref x :: (vs ++ dvs)) (upd (upd H1 dx (.own x)) x (.ins C dx [])) (fun v H2 => v = .non ∧ Q (.ref x) H2) (E σ)
theorem run_makeS {f : Addr} {fd : FuncData} {ds : List Value} {pins : List (Addr × Obj)} {σ : L2.St} {H : Hp} {s : Shared} {Q : VK} {us : List Value} {vs : List V} (M : Mk X.K C f) (F : FnOk X.prog X.w X.K X.mg X.base (L2N.CX X.prog X.w) k f fd ps sp)
    (hr : Room (k + 1) X.A) (hb : Binds X.K fd ps ds) (hd : Vals dvs ds) (hx : PassesAt (L2N.CX X.prog X.w) X σ (E σ)) (I : Inv X pins σ H s) (r : Vals vs us)
    (h : ∀ x dx, H x = none → H dx = none → dx ≠ x → sp (.ref x :: (vs ++ dvs)) (upd (upd H dx (.own x)) x (.ins C dx [])) (fun v H2 => v = .non ∧ Q (.ref x) H2) (E σ)) :
    wpAny (model X.prog X.w) X.A (call (.ref C) us) (EP X pins σ Q) X.xe s := by
  have hq := h (s.heap.objs.size + 1) s.heap.objs.size (I.hok.fresh (Nat.le_succ _)) (I.hok.fresh (Nat.le_refl _)) (Nat.ne_of_lt (Nat.lt_succ_self _))
  have I2 := Inv.made (C := C) I
  have r2 : Vals (V.ref (s.heap.objs.size + 1) :: (vs ++ dvs)) (Value.ref (s.heap.objs.size + 1) :: (us ++ ds)) := .cons rfl (r.append hd)
  have hl : (Value.ref (s.heap.objs.size + 1) :: us ++ ds).length = ps.length := by
    have e := r2.length
    rw [F.len _ _ _ _ hq] at e
    exact e.symm
  refine wpAny_call (make_map (f := f) I.kIn M.makes M.init (beq_iff_eq.mp M.fn) (codeAny_mono (F.run _ X.stack _ _ ⟨Value.ref (s.heap.objs.size + 1) :: us, []⟩ (Value.ref (s.heap.objs.size + 1) :: (us ++ ds)) _ _ (E σ) (hr.make C us [])
    (I2.env0.make C us []) (hb _ (Value.ref (s.heap.objs.size + 1) :: us) I2.kIn hl) r2 hq) fun r s' hq' => ?_))
  cases r with
  | error e => exact hx pins _ _ e s' I2 hq'
  | ok fl =>
    cases fl with
    | ret u =>
      obtain ⟨v, H', I3, rv, ev, q3⟩ := I2.after hq'
      subst ev
      exact ⟨rv, ⟨V.ref (s.heap.objs.size + 1), H', I3, rfl, q3⟩⟩
    | next => exact False.elim hq'
    | brk => exact False.elim hq'
    | cont => exact False.elim hq'
theorem pe_owni (O : OwnI X.prog X.w X.K X.mg X.base k x C ps dvs sp) (hr : Room (k + 1) X.A) (hg : Gl X x) (hx : ∀ σ, PassesAt (L2N.CX X.prog X.w) X σ (E σ)) (ha : PA X (e :: es) t)
    (hdb : (x == ("__debug__" : Str)) = false := by decide) (he : starEach (e :: es) X.env = (false, eval e X.env) :: starEach es X.env := by rfl) (hpl : (backTo pos (starEach es X.env)).any (·.1) = false := by rfl) :
    PE X (.Call (.Name x p) (e :: es) [] pos) (tMakeS C sp dvs E t) := by
  obtain ⟨f, fd, ds, F, M, hm, hb, hd⟩ := O.ex
  refine ⟨fun pins s σ H Q I h => ?_⟩
  refine wpAny_Call_Name_kw (ld_glob I hg hm ?_ hdb)
  refine PySem.W.callWith_K (h₀ := X.base) I.ok.mod.kin M.kp (thn (ha.run pos pins s σ H _ I h) fun us s1 ⟨vs, H1, I1, r, q⟩ => ⟨I1.kIn, ?_⟩) he hpl
  exact run_makeS M F hr hb hd (hx σ) I1 r q
end

def rLenSeq (K : PySem.W.Frag) : List V → Hp → VK → Prop := fun xs H Q => ∃ p ys, xs = [V.ref p] ∧ (SqL K H p ys ∨ SqT K H p ys) ∧ Q (.int ys.length) H
/-! ### own operators -/
section
open PySem.W
section
variable {prog : Program} {w : World} {A : Around} {E : Value → Shared → Prop} {s : Shared} {i : Int} {t : Tok} {x C dx f g : Addr} {K : Frag} {ox : Obj} {od : Option Obj} {nm : String} {Q : Option Value → Shared → Prop} {rc fo ro : Option Value}
theorem slot_fills {M : Model} {h : Heap} (X : K.In h) (hc : selfFirst K C = true) (hs : findIn K (.ref C) (PySem.dunder nm) = some (some (.ref f))) : Looks M h (fillsNumberSlot (.ref C) nm) true := by
  obtain ⟨cd, rest, hcd, hm⟩ := ksp_first hc
  exact fills_K X hcd hm hs
/-- what an own method answers is no NotImplemented -/
theorem bin1_same {b : Value} (X : K.In s.heap) (I : InstAt s.heap x ox C od) (hb : Looks (model prog w) s.heap (typeOf b) (.ref C)) (hc : selfFirst K C = true) (hs : findIn K (.ref C) (PySem.dunder nm) = some (some (.ref f))) (hf : isFn K (.ref f) = true)
    (h : wpAny (model prog w) A (call (.ref f) [.ref x, b]) (PySem.W.CmpBack fun v => Q (some v)) E s) : wpAny (model prog w) A (binaryOp1 nm (.ref x) b) Q E s := by
  have one := ksp_try X I hs hf h
  have L3 : Looks (model prog w) s.heap (fillsNumberSlot (.ref C) nm) true := slot_fills X hc hs
  have L1 : Looks (model prog w) s.heap (typeOf (.ref x)) (.ref C) := I.type
  obtain ⟨hh, gg, d, tt, os⟩ := s
  unfold binaryOp1
  refine wpAny_bind (L1.at (wpAny_bind (hb.at (wpAny_bind (L3.at ?_)))))
  simp only [beq_self_eq_true, if_true]
  ksp_lk
  refine wpAny_mono one (fun r s' hr => ?_) fun _ _ e => e
  obtain ⟨v, rfl, hq⟩ := hr
  ksp_lk
  exact hq
theorem bin1_int (X : K.In s.heap) (I : InstAt s.heap x ox C od) (hc : selfFirst K C = true) (hs : findIn K (.ref C) (PySem.dunder nm) = some (some (.ref f))) (hf : isFn K (.ref f) = true) (hr : findIn K (.ref C) (dunderR nm) = some rc) (hp : rc = none ∨ ∃ g : Addr, rc = some (.ref g))
    (h1 : findIn K (.type "int") (PySem.dunder nm) = some fo) (h2 : findIn K (.type "int") (dunderR nm) = some ro) (hsub : subIn K (.type "int") (.ref C) = some false)
    (h : wpAny (model prog w) A (call (.ref f) [.ref x, .int i t]) (PySem.W.CmpBack fun v => Q (some v)) E s) : wpAny (model prog w) A (binaryOp1 nm (.ref x) (.int i t)) Q E s := by
  have one := ksp_try X I hs hf h
  have L3 : Looks (model prog w) s.heap (fillsNumberSlot (.ref C) nm) true := slot_fills X hc hs
  have L1 : Looks (model prog w) s.heap (typeOf (.ref x)) (.ref C) := I.type
  have L2 : Looks (model prog w) s.heap (typeOf (.int i t)) (.type "int") := Looks.of_pure rfl
  have L4 : Looks (model prog w) s.heap (fillsNumberSlot (.type "int") nm) ((fo.isSome && !isSeqSlot fo) || (ro.isSome && !isSeqSlot ro)) := ksp_fillsT X h1 h2
  have L5 : Looks (model prog w) s.heap (isSubtype (.type "int") (.ref C)) false := looks_subIn X hsub
  have L6 : Looks (model prog w) s.heap (numberSlotInPython (.ref C) nm) true := ksp_inPy X hs hr hp
  have L7 : Looks (model prog w) s.heap (numberSlotInPython (.type "int") nm) false := Looks.of_pure rfl
  have L8 : Looks (model prog w) s.heap (typeLookup (.type "int") (dunderR nm)) ro := looks_findIn X h2
  have hne : (Value.ref C == Value.type "int") = false := Bool.eq_false_iff.mpr fun q => by cases beq_iff_eq.mp q
  obtain ⟨hh, gg, d, tt, os⟩ := s
  generalize ((fo.isSome && !isSeqSlot fo) || (ro.isSome && !isSeqSlot ro)) = right at L4
  unfold binaryOp1
  refine wpAny_bind (L1.at (wpAny_bind (L2.at (wpAny_bind (L3.at ?_)))))
  simp only [hne, Bool.false_eq_true, if_false]
  cases right <;>
  · ksp_lk
    refine wpAny_mono one (fun r s' hr => ?_) fun _ _ e => e
    obtain ⟨v, rfl, hq⟩ := hr
    ksp_lk
    exact hq
theorem bin1_refl (X : K.In s.heap) (I : InstAt s.heap x ox C od) (hc : selfFirst K C = true) (hs : findIn K (.ref C) (PySem.dunder nm) = some (some (.ref g))) (hr : findIn K (.ref C) (dunderR nm) = some (some (.ref f))) (hf : isFn K (.ref f) = true)
    (fills : fillsNumberSlot (.type "int") nm = pure true) (hsub : subIn K (.ref C) (.type "int") = some false)
    (decl : ∀ Q : Option Value → Shared → Prop, Q none s → wpAny (model prog w) A (tryMethod (.int i t) (PySem.dunder nm) (.ref x)) Q E s)
    (h : wpAny (model prog w) A (call (.ref f) [.ref x, .int i t]) (PySem.W.CmpBack fun v => Q (some v)) E s) : wpAny (model prog w) A (binaryOp1 nm (.int i t) (.ref x)) Q E s := by
  have one := ksp_try X I hr hf h
  have L3 : Looks (model prog w) s.heap (fillsNumberSlot (.ref C) nm) true := slot_fills X hc hs
  have L1 : Looks (model prog w) s.heap (typeOf (.ref x)) (.ref C) := I.type
  have L2 : Looks (model prog w) s.heap (typeOf (.int i t)) (.type "int") := Looks.of_pure rfl
  have L4 : Looks (model prog w) s.heap (fillsNumberSlot (.type "int") nm) true := Looks.of_pure fills
  have L5 : Looks (model prog w) s.heap (isSubtype (.ref C) (.type "int")) false := looks_subIn X hsub
  have L7 : Looks (model prog w) s.heap (numberSlotInPython (.type "int") nm) false := Looks.of_pure rfl
  have hne : (Value.type "int" == Value.ref C) = false := Bool.eq_false_iff.mpr fun q => by cases beq_iff_eq.mp q
  obtain ⟨hh, gg, d, tt, os⟩ := s
  unfold binaryOp1
  refine wpAny_bind (L2.at (wpAny_bind (L1.at (wpAny_bind (L4.at ?_)))))
  simp only [hne, Bool.false_eq_true, if_false]
  ksp_lk
  refine decl _ ?_
  ksp_lk
  refine wpAny_mono one (fun r s' hr => ?_) fun _ _ e => e
  obtain ⟨v, rfl, hq⟩ := hr
  ksp_lk
  exact hq
end
end

/-! ### own arithmetic -/
section
variable {prog : Program} {w : World} {A : Around} {E : Value → Shared → Prop} {s : Shared} {i : Int} {t : Tok} {x C dx : Addr}
theorem int_declines {id : String} {B : Builtin} {nm : Str} {name : String} {f : Int → Int → Sem Fin} (slot : Slot "int" nm id) (entry : entryFor table id = some B) (args : ∀ a b : Value, argsOk id ⟨[a, b], []⟩) (hB : B = Builtin.Int.intBinary name f) (hx : s.heap.get? x = some (PySem.W.instObj C dx))
    (Q : Option Value → Shared → Prop) (h : Q none s) : wpAny (model prog w) A (tryMethod (.int i t) nm (.ref x)) Q E s := by
  refine wpAny_tryMethod_declines (typeIs_int s i t) slot (wpAny_call_entry slot (typeIs_int s i t) entry ?_ (args _ _))
  rw [hB]
  unfold Builtin.Int.intBinary
  obtain ⟨hp, g, d, tk, os⟩ := s
  wp_walk using wpAny_load' hx
  exact ⟨_, rfl, rfl, h⟩
theorem bin_of1 {op : Operator} {a b : Value} {Q : Value → Shared → Prop} (h : wpAny (model prog w) A (binaryOp1 op.info.2 a b) (fun r s' => ∃ v, r = some v ∧ Q v s') E s) : wpAny (model prog w) A (binaryOp op a b) Q E s := by
  unfold binaryOp
  refine wpAny_holding (wpAny_bind (wpAny_mono h (fun r s' hr => ?_) fun _ _ e => e))
  obtain ⟨v, rfl, hq⟩ := hr
  exact wpAny_pure hq
theorem inp_of1 {op : Operator} {a b ta : Value} {Q : Value → Shared → Prop} (ht : PySem.W.Looks (model prog w) s.heap (typeOf a) ta) (hn : PySem.W.Looks (model prog w) s.heap (fillsInplaceSlot ta op.info.2 (op == .Add)) false)
    (h : wpAny (model prog w) A (binaryOp1 op.info.2 a b) (fun r s' => ∃ v, r = some v ∧ Q v s') E s) : wpAny (model prog w) A (inplaceOp op a b) Q E s := by
  unfold inplaceOp
  refine wpAny_holding (wpAny_bind (ht.here (wpAny_bind (hn.here ?_))))
  simp only [Bool.false_eq_true, if_false]
  refine wpAny_bind (wpAny_mono h (fun r s' hr => ?_) fun _ _ e => e)
  obtain ⟨v, rfl, hq⟩ := hr
  exact wpAny_pure hq
end
section
variable {prog : Program} {w : World} {A : Around} {E : Value → Shared → Prop} {s : Shared} {x C : Addr} {K : PySem.W.Frag} {cd : ClassData}
theorem no_inplace {M : Model} {h : Heap} {nm : String} {add : Bool} (X : K.In h) (hc : PySem.W.clsIn K C = some cd) (hm : cd.mro = [.ref C, .type "object"]) (h1 : PySem.W.findIn K (.ref C) (dunderI nm) = some none) (h2 : PySem.W.findIn K (.type "object") (dunderI nm) = some none) :
    PySem.W.Looks M h (fillsInplaceSlot (.ref C) nm add) false := by
  intro A Q E s k q
  have Lm : PySem.W.Looks M h (mroOf (.ref C)) cd.mro := (PySem.W.looks_clsIn X hc).andThen (f := fun cd => pure cd.mro) .now
  have L1 : PySem.W.Looks M h (typeLookup (.ref C) (dunderI nm)) none := PySem.W.looks_findIn X h1
  have L2 : PySem.W.Looks M h (typeLookup (.type "object") (dunderI nm)) none := PySem.W.looks_findIn X h2
  unfold fillsInplaceSlot
  refine wpAny_bind (Lm.keeps k |>.here ?_)
  rw [hm, List.anyM_cons]
  refine wpAny_bind (wpAny_bind ((L1.keeps k).here ?_))
  refine wpAny_pure ?_
  rw [List.anyM_cons]
  refine wpAny_bind (wpAny_bind ((L2.keeps k).here ?_))
  refine wpAny_pure ?_
  exact wpAny_pure q
end

/-- what the written part says of a class with own + - * -/
def refOr : Option Value → Bool
  | none => true
  | some (.ref _) => true
  | _ => false
theorem refOr_of {r : Option Value} (h : refOr r = true) : r = none ∨ ∃ g : Addr, r = some (.ref g) := by
  unfold refOr at h
  split at h
  · exact .inl rfl
  · exact .inr ⟨_, rfl⟩
  · cases h
structure Arith (K : PySem.W.Frag) (C : Addr) : Prop where
  sf : PySem.W.selfFirst K C = true
  s1 : PySem.W.subIn K (.type "int") (.ref C) = some false
  s2 : PySem.W.subIn K (.ref C) (.type "int") = some false
  mro : ∃ cd, PySem.W.clsIn K C = some cd ∧ cd.mro = [.ref C, .type "object"]
  ia : PySem.W.findIn K (.ref C) "__iadd__" = some none ∧ PySem.W.findIn K (.type "object") "__iadd__" = some none
  isb : PySem.W.findIn K (.ref C) "__isub__" = some none ∧ PySem.W.findIn K (.type "object") "__isub__" = some none
  im : PySem.W.findIn K (.ref C) "__imul__" = some none ∧ PySem.W.findIn K (.type "object") "__imul__" = some none
  ofInt : ∃ a b c d e f, PySem.W.findIn K (.type "int") "__add__" = some a ∧ PySem.W.findIn K (.type "int") "__radd__" = some b ∧ PySem.W.findIn K (.type "int") "__sub__" = some c ∧ PySem.W.findIn K (.type "int") "__rsub__" = some d ∧
    PySem.W.findIn K (.type "int") "__mul__" = some e ∧ PySem.W.findIn K (.type "int") "__rmul__" = some f
  refl : ∃ a b c, (PySem.W.findIn K (.ref C) "__radd__" = some a ∧ refOr a = true) ∧ (PySem.W.findIn K (.ref C) "__rsub__" = some b ∧ refOr b = true) ∧ PySem.W.findIn K (.ref C) "__rmul__" = some c ∧ refOr c = true
  has : ∃ a b c : Addr, PySem.W.findIn K (.ref C) "__add__" = some (some (.ref a)) ∧ PySem.W.findIn K (.ref C) "__sub__" = some (some (.ref b)) ∧ PySem.W.findIn K (.ref C) "__mul__" = some (some (.ref c))
inductive AOp | add | sub | mul
def AOp.op : AOp → Operator | .add => .Add | .sub => .Sub | .mul => .Mult
def AOp.m : AOp → Str | .add => "__add__" | .sub => "__sub__" | .mul => "__mul__"
def AOp.r : AOp → Str | .add => "__radd__" | .sub => "__rsub__" | .mul => "__rmul__"
def AOp.i : AOp → Str | .add => "__iadd__" | .sub => "__isub__" | .mul => "__imul__"
theorem AOp.em (o : AOp) : PySem.dunder o.op.info.2 = o.m := by cases o <;> decide +kernel
theorem AOp.er (o : AOp) : dunderR o.op.info.2 = o.r := by cases o <;> decide +kernel
theorem AOp.ei (o : AOp) : dunderI o.op.info.2 = o.i := by cases o <;> decide +kernel
theorem AOp.fills (o : AOp) : fillsNumberSlot (.type "int") o.op.info.2 = pure true := by
  cases o
  · exact F.fills_int_add
  · exact F.fills_int_sub
  · exact F.fills_int_mul
theorem AOp.decl {prog : Program} {w : World} {A : Around} {E : Value → Shared → Prop} {s : Shared} {i : Int} {t : Tok} {x C dx : Addr} (o : AOp) (hx : s.heap.get? x = some (PySem.W.instObj C dx)) (Q : Option Value → Shared → Prop) (h : Q none s) :
    wpAny (model prog w) A (tryMethod (.int i t) (PySem.dunder o.op.info.2) (.ref x)) Q E s := by
  cases o
  · exact int_declines F.slot_int_add F.entry_int_add F.args_int_add_2 rfl hx Q h
  · exact int_declines F.slot_int_sub F.entry_int_sub F.args_int_sub_2 rfl hx Q h
  · exact int_declines F.slot_int_mul F.entry_int_mul F.args_int_mul_2 rfl hx Q h
section
variable {X : Cx} {k k' : Nat} {C : Addr} {m : Str} {ps ps' : List Str} {sp sp' : Sp} {E : XK}
/-- an instance of C on the left, an int or such an instance on the right -/
def rOwn (C : Addr) (sp : Sp) (E : XK) : R2 := fun x y H Q => ∃ a dx fs, x = .ref a ∧ H a = some (.ins C dx fs) ∧ ((∃ i, y = .int i) ∨ ∃ b dy gs, y = .ref b ∧ H b = some (.ins C dy gs)) ∧ sp [x, y] H Q E
/-- an int on the left -/
def rRefl (C : Addr) (sp : Sp) (E : XK) : R2 := fun x y H Q => ∃ i b dy gs, x = .int i ∧ y = .ref b ∧ H b = some (.ins C dy gs) ∧ sp [y, x] H Q E
def rUna (C : Addr) (sp : Sp) (E : XK) : V → Hp → VK → Prop := fun x H Q => ∃ a dx fs, x = .ref a ∧ H a = some (.ins C dx fs) ∧ sp [x] H Q E
theorem back_of {pins : List (Addr × Obj)} {σ : L2.St} {Q : VK} {u : Value} {s' : Shared} {R : Value → Shared → Prop} (h : EP X pins σ Q u s') (k : ∀ u s', EP X pins σ Q u s' → R u s') : PySem.W.CmpBack R u s' := by
  obtain ⟨v, H', I, r, q⟩ := id h
  cases u with
  | notImplemented =>
    cases v <;> simp [L2.RelV] at r
  | _ => exact k _ _ h
theorem inst_at {pins : List (Addr × Obj)} {σ : L2.St} {H : Hp} {s : Shared} {a dx : Addr} {fs : List (Str × V)} (I : Inv X pins σ H s) (e : H a = some (.ins C dx fs)) : s.heap.get? a = some (PySem.W.instObj C dx) ∧ ∃ od, PySem.W.InstAt s.heap a (PySem.W.instObj C dx) C (some od) := by
  obtain ⟨mA, J, _⟩ := ins_get I.hok e
  obtain ⟨od, J2, _⟩ := J.look
  exact ⟨J.obj, od, J2⟩
theorem bin1_own (o : AOp) (A : Arith X.K C) (O : OwnM X.prog X.w X.K X.mg X.base k C o.m ps sp) (hr : Room k X.A) (hx : Passes (L2N.CX X.prog X.w) X E)
    {pins : List (Addr × Obj)} {s : Shared} {σ : L2.St} {H : Hp} {x y : V} {v u : Value} {Q : VK} (I : Inv X pins σ H s) (rx : RelV x v) (ry : RelV y u) (h : rOwn C sp E x y H Q) :
    wpAny (model X.prog X.w) X.A (binaryOp1 o.op.info.2 v u) (fun r s' => ∃ z, r = some z ∧ EP X pins σ Q z s') X.xe s := by
  obtain ⟨a, dx, fs, rfl, ha, hy, hsp⟩ := h
  obtain rfl : v = Value.ref a := rx
  obtain ⟨f, fd, Fo, hm, hb⟩ := O.ex
  obtain ⟨_, od, J⟩ := inst_at I ha
  have h1 : PySem.W.findIn X.K (.ref C) (PySem.dunder o.op.info.2) = some (some (.ref f)) := by rw [o.em]; exact hm.at_
  obtain ⟨rc, h2, hrc⟩ : ∃ rc, PySem.W.findIn X.K (.ref C) (dunderR o.op.info.2) = some rc ∧ refOr rc = true := by
    rw [o.er]
    obtain ⟨a, b, c, q1, q2, q3⟩ := A.refl
    cases o
    · exact ⟨_, q1⟩
    · exact ⟨_, q2⟩
    · exact ⟨_, q3⟩
  have run := run_fn (us := [.ref a, u]) (vs := [.ref a, y]) (dvs := []) Fo hr hb .nil hx I (.cons rfl (.cons ry .nil)) hsp
  have run2 := wpAny_mono run (fun u s' q => back_of (R := fun v s' => ∃ z, some v = some z ∧ EP X pins σ Q z s') q fun v s' q => ⟨v, rfl, q⟩) fun _ _ e => e
  rcases hy with ⟨i, rfl⟩ | ⟨b, dy, gs, rfl, hb'⟩
  · obtain ⟨t, rfl⟩ := ry
    obtain ⟨fo, ro, e1, e2⟩ : ∃ fo ro, PySem.W.findIn X.K (.type "int") (PySem.dunder o.op.info.2) = some fo ∧ PySem.W.findIn X.K (.type "int") (dunderR o.op.info.2) = some ro := by
      rw [o.em, o.er]
      obtain ⟨p1, p2, p3, p4, p5, p6, q1, q2, q3, q4, q5, q6⟩ := A.ofInt
      cases o
      · exact ⟨_, _, q1, q2⟩
      · exact ⟨_, _, q3, q4⟩
      · exact ⟨_, _, q5, q6⟩
    exact bin1_int I.kIn J A.sf h1 hm.fn h2 (refOr_of hrc) e1 e2 A.s1 run2
  · obtain rfl : u = Value.ref b := ry
    obtain ⟨_, od', J'⟩ := inst_at I hb'
    exact bin1_same I.kIn J J'.type A.sf h1 hm.fn run2
theorem op_own (o : AOp) (A : Arith X.K C) (O : OwnM X.prog X.w X.K X.mg X.base k C o.m ps sp) (hr : Room k X.A) (hx : Passes (L2N.CX X.prog X.w) X E) : OpR X (binaryOp o.op) (rOwn C sp E) :=
  fun _ _ _ _ _ _ _ _ _ I rx ry h => bin_of1 (bin1_own o A O hr hx I rx ry h)
theorem iop_own (o : AOp) (A : Arith X.K C) (O : OwnM X.prog X.w X.K X.mg X.base k C o.m ps sp) (hr : Room k X.A) (hx : Passes (L2N.CX X.prog X.w) X E) : OpR X (inplaceOp o.op) (rOwn C sp E) := by
  intro pins s σ H x y v u Q I rx ry h
  have one := bin1_own o A O hr hx I rx ry h
  obtain ⟨a, dx, fs, rfl, ha, _, _⟩ := h
  obtain rfl : v = Value.ref a := rx
  obtain ⟨_, od, J⟩ := inst_at I ha
  obtain ⟨cd, hcd, hmro⟩ := A.mro
  refine inp_of1 J.type (no_inplace I.kIn hcd hmro ?_ ?_) one
  · rw [o.ei]
    cases o
    · exact A.ia.1
    · exact A.isb.1
    · exact A.im.1
  · rw [o.ei]
    cases o
    · exact A.ia.2
    · exact A.isb.2
    · exact A.im.2
theorem op_refl (o : AOp) (A : Arith X.K C) (R : OwnM X.prog X.w X.K X.mg X.base k C o.r ps sp) (hr : Room k X.A) (hx : Passes (L2N.CX X.prog X.w) X E) : OpR X (binaryOp o.op) (rRefl C sp E) := by
  intro pins s σ H x y v u Q I rx ry h
  obtain ⟨i, b, dy, gs, rfl, rfl, hb, hsp⟩ := h
  obtain ⟨t, rfl⟩ := rx
  obtain rfl : u = Value.ref b := ry
  obtain ⟨f, fd, Fo, hm, hbd⟩ := R.ex
  obtain ⟨hobj, od, J⟩ := inst_at I hb
  obtain ⟨g, h1⟩ : ∃ g : Addr, PySem.W.findIn X.K (.ref C) (PySem.dunder o.op.info.2) = some (some (.ref g)) := by
    rw [o.em]
    obtain ⟨a, b, c, q1, q2, q3⟩ := A.has
    cases o
    · exact ⟨_, q1⟩
    · exact ⟨_, q2⟩
    · exact ⟨_, q3⟩
  have h2 : PySem.W.findIn X.K (.ref C) (dunderR o.op.info.2) = some (some (.ref f)) := by rw [o.er]; exact hm.at_
  have run := run_fn (us := [.ref b, .int i t]) (vs := [.ref b, .int i]) (dvs := []) Fo hr hbd .nil hx I (.cons rfl (.cons ⟨t, rfl⟩ .nil)) hsp
  exact bin_of1 (bin1_refl I.kIn J A.sf h1 h2 hm.fn o.fills A.s2 (fun Q h => o.decl hobj Q h) (wpAny_mono run (fun u s' q => back_of (R := fun v s' => ∃ z, some v = some z ∧ EP X pins σ Q z s') q fun v s' q => ⟨v, rfl, q⟩) fun _ _ e => e))
theorem un_negOwn (O : OwnM X.prog X.w X.K X.mg X.base k C "__neg__" ps sp) (hr : Room k X.A) (hx : Passes (L2N.CX X.prog X.w) X E) : UnR X (unaryOp .USub) (rUna C sp E) := by
  intro pins s σ H x v Q I rx h
  obtain ⟨a, dx, fs, rfl, ha, hsp⟩ := h
  obtain rfl : v = Value.ref a := rx
  obtain ⟨f, fd, Fo, hm, hb⟩ := O.ex
  obtain ⟨_, od, J⟩ := inst_at I ha
  have run := run_fn (us := [.ref a]) (vs := [.ref a]) (dvs := []) Fo hr hb .nil hx I (.cons rfl .nil) hsp
  unfold unaryOp
  refine wpAny_holding ?_
  exact wpAny_bind (PySem.W.special_fn I.kIn J hm.at_ (beq_iff_eq.mp hm.fn) (wpAny_mono run (fun _ _ z => wpAny_pure z) fun _ _ z => z))
theorem call_absOwn (O : OwnM X.prog X.w X.K X.mg X.base k C "__abs__" ps sp) (hr : Room (k + 1) X.A) (hx : Passes (L2N.CX X.prog X.w) X E) : CallR X (.builtin "abs") (fun xs H Q => ∃ a dx fs, xs = [.ref a] ∧ H a = some (.ins C dx fs) ∧ sp [.ref a] H Q E) := by
  intro pins s σ H xs us Q I r h
  obtain ⟨a, dx, fs, rfl, ha, hsp⟩ := h
  obtain ⟨u, rfl, r1⟩ := vals1 r
  obtain rfl : u = Value.ref a := r1
  obtain ⟨f, fd, Fo, hm, hb⟩ := O.ex
  obtain ⟨_, od, J⟩ := inst_at I ha
  refine PySem.Calls.call_function_entry kind_abs plain_abs entry_abs (args_abs _) ?_
  unfold Builtin.«abs»
  refine wpAny_bind (m := oneArg "abs" _) (wpAny_pure ?_)
  refine wpAny_bind (m := callSpecial? (.ref a) (Str.ofString "__abs__")) ?_
  refine PySem.W.special_fn I.kIn J hm.at_ (beq_iff_eq.mp hm.fn) ?_
  have bd := hb s [.ref a] I.kIn (Fo.len _ _ _ _ hsp)
  refine wpAny_call (codeAny_mono (Fo.run X.A.in1 X.stack s H ⟨[.ref a], []⟩ [.ref a] [.ref a] Q E hr.in1 I.env0.in1 bd (.cons rfl .nil) hsp) fun r s' hq => ?_)
  cases r with
  | error e => exact hx pins σ H s e s' I hq
  | ok fl =>
    cases fl with
    | ret u => exact wpAny_pure ⟨_, rfl, I.after hq⟩
    | next => exact False.elim hq
    | brk => exact False.elim hq
    | cont => exact False.elim hq
end
/-! ### operators on ints, further -/
section
variable {X : Cx}
theorem op_mulI : OpR X (binaryOp .Mult) (rI IntMulOk fun i j => .int (i * j)) := opI fun _ _ _ _ _ _ _ hc q => mul_int q hc
def CDivA (_ j : Int) : Prop := j ≠ 0 ∧ j.natAbs.log2 < 9000
theorem op_fdivA : OpR X (binaryOp .FloorDiv) (rI CDivA fun i j => .int (i.fdiv j)) := opI fun i j _ _ _ _ _ hc q => floordiv_int hc.1 q (.inl (PyProof.noPylong_of_log2 hc.2))
end
theorem mok_l {i j : Int} (h : i.natAbs < 2 ^ 64) : IntMulOk i j := by
  have e : (2 : Nat) ^ 64 = 18446744073709551616 := by decide
  rw [e] at h
  exact CMul.ok (.inl ⟨by omega, by omega⟩)
theorem mok_r {i j : Int} (h : j.natAbs < 2 ^ 64) : IntMulOk i j := by
  have e : (2 : Nat) ^ 64 = 18446744073709551616 := by decide
  rw [e] at h
  exact CMul.ok (.inr ⟨by omega, by omega⟩)
theorem mok_w {i j : Int} {a b : Nat} (ha : i.natAbs < 2 ^ a) (hb : j.natAbs < 2 ^ b) (h0 : 0 < a := by decide) (h1 : 0 < b := by decide) (h : a + b ≤ 1000000 := by decide) : IntMulOk i j := CMulW.ok (wide_mul ha hb h0 h1 h)
theorem une {H : Hp} {a p : Addr} {o u : HO} (n : a ≠ p) (h : H a = some o) : upd H p u a = some o := by rw [upd_ne n]; exact h
theorem sqL_of {K : PySem.W.Frag} {H : Hp} {a : Addr} {xs : List V} (h : H a = some (.lst xs)) : SqL K H a xs := SqL.of h
theorem ix_c {xs : List V} {z : Int} {v : V} (h : xs[z.toNat]? = some v) (h0 : 0 ≤ z := by decide) : atI xs z = some v := at_of (Int.toNat_of_nonneg h0).symm h

/-! ### tests whose outcome is open -/
theorem iteI {i j : Int} {A B : Prop} (h1 : i = j → A) (h2 : i ≠ j → B) : if decide (V.int i = V.int j) = true then A else B := by
  by_cases e : i = j
  · rw [decide_eq_true (congrArg V.int e)]
    exact iteT (h1 e)
  · rw [decide_eq_false fun z => e (V.int.inj z)]
    exact iteF (h2 e)
theorem iteIn {i j : Int} {A B : Prop} (h1 : i ≠ j → A) (h2 : i = j → B) : if (!decide (V.int i = V.int j)) = true then A else B := by
  by_cases e : i = j
  · rw [decide_eq_true (congrArg V.int e)]
    exact iteF (h2 e)
  · rw [decide_eq_false fun z => e (V.int.inj z)]
    exact iteT (h1 e)
theorem iteD {p : Prop} [Decidable p] {A B : Prop} (h1 : p → A) (h2 : ¬ p → B) : if decide p = true then A else B := by
  by_cases e : p
  · rw [decide_eq_true e]
    exact iteT (h1 e)
  · rw [decide_eq_false e]
    exact iteF (h2 e)
theorem iteDn {p : Prop} [Decidable p] {A B : Prop} (h1 : ¬ p → A) (h2 : p → B) : if (!decide p) = true then A else B := by
  by_cases e : p
  · rw [decide_eq_true e]
    exact iteF (h2 e)
  · rw [decide_eq_false e]
    exact iteT (h1 e)
theorem iteZ {y : Int} {A B : Prop} (h1 : y ≠ 0 → A) (h2 : y = 0 → B) : if (y != 0) = true then A else B := by
  by_cases e : y = 0
  · subst e
    exact iteF (h2 rfl)
  · rw [bne_iff_ne.mpr e]
    exact iteT (h1 e)
theorem iteDT {p : Prop} [Decidable p] {A B : Prop} (h : p) (a : A) : if decide p = true then A else B := iteD (fun _ => a) fun n => absurd h n
theorem iteDF {p : Prop} [Decidable p] {A B : Prop} (h : ¬ p) (a : B) : if decide p = true then A else B := iteD (fun n => absurd n h) fun _ => a
theorem iteDnT {p : Prop} [Decidable p] {A B : Prop} (h : p) (a : B) : if (!decide p) = true then A else B := iteDn (fun n => absurd h n) fun _ => a
theorem line_le {n : Nat} (h : n ≤ 16777216) : n ≤ sizeLine := by
  rw [sizeLine_eq]
  exact h

/-! ### the law's bag: what is drawn from it is any number below the size -/
/-- a bag stands at b, its script at L -/
def Bag (H : Hp) (L b : Addr) : Prop := ∃ (ns : List Int) (i : Nat) (big mix cnt : Int), H b = some (.lst [.ref L, .int i, .int big, .int mix, .int cnt]) ∧ H L = some (.lst (ns.map V.int)) ∧ L ≠ b
theorem Bag.same {H H' : Hp} {L b : Addr} (s : Same H H') (h : Bag H L b) : Bag H' L b := by
  obtain ⟨ns, i, big, mix, cnt, h1, h2, h3⟩ := h
  exact ⟨ns, i, big, mix, cnt, s _ _ h1, s _ _ h2, h3⟩
theorem Bag.some {H : Hp} {L b : Addr} (h : Bag H L b) : H b ≠ none := by
  obtain ⟨ns, i, big, mix, cnt, h1, h2, h3⟩ := h
  rw [h1]
  exact fun z => nomatch z
theorem Bag.someL {H : Hp} {L b : Addr} (h : Bag H L b) : H L ≠ none := by
  obtain ⟨ns, i, big, mix, cnt, h1, h2, h3⟩ := h
  rw [h2]
  exact fun z => nomatch z
/-- what was made behind the bag stands apart from it -/
theorem Bag.ne {H : Hp} {L b p : Addr} (h : Bag H L b) (n : H p = none) : p ≠ b := fun e => h.some (e ▸ n)
theorem Bag.neL {H : Hp} {L b p : Addr} (h : Bag H L b) (n : H p = none) : p ≠ L := fun e => h.someL (e ▸ n)
/-- another object was changed -/
theorem Bag.keep {H H' : Hp} {L b p : Addr} (h : Bag H L b) (k : Keep p H H') (n : p ≠ b) (n2 : p ≠ L) : Bag H' L b := by
  obtain ⟨ns, i, big, mix, cnt, h1, h2, h3⟩ := h
  exact ⟨ns, i, big, mix, cnt, k _ _ h1 n.symm, k _ _ h2 n2.symm, h3⟩
theorem Bag.mk {H : Hp} {L b : Addr} {ns : List Int} {i : Nat} {big mix cnt : Int} (hb : H b = Option.some (.lst [.ref L, .int i, .int big, .int mix, .int cnt])) (hL : H L = Option.some (.lst (ns.map V.int))) (n : L ≠ b) : Bag H L b :=
  ⟨ns, i, big, mix, cnt, hb, hL, n⟩

/-! ### fields by name -/
theorem lk0 {a : Str} {v : V} {r : List (Str × V)} : ((a, v) :: r).lookup a = some v := by simp [List.lookup]
theorem lk1 {a b : Str} {u : V} {o : Option V} {r : List (Str × V)} (h : (b == a) = false) (k : r.lookup b = o) : ((a, u) :: r).lookup b = o := by
  simp only [List.lookup, h]
  exact k
theorem lkn {b : Str} : ([] : List (Str × V)).lookup b = none := rfl
theorem putF_nil {f : Str} {v : V} : putF f v [] = [(f, v)] := rfl
theorem putF_ne {f g : Str} {u v : V} {r : List (Str × V)} (h : ¬ g = f) : putF f v ((g, u) :: r) = (g, u) :: putF f v r := if_neg h
theorem putF_eq {f : Str} {u v : V} {r : List (Str × V)} : putF f v ((f, u) :: r) = (f, v) :: r := if_pos rfl
theorem same_made {H H2 : Hp} {x dx C : Addr} (nx : H x = none) (nd : H dx = none) (ne : dx ≠ x) (k : Keep x (upd (upd H dx (.own x)) x (.ins C dx [])) H2) : Same H H2 := fun a o e => by
  have n1 := ne_of_none e nx
  have n2 := ne_of_none e nd
  exact k a o (by rw [upd_ne n1, upd_ne n2]; exact e) n1

/-! ### an own exception class, made without arguments -/
theorem pmk_own0 {X : Cx} {C : Addr} {bmB : List Value} {B newId initId : String} {x : Str} {p pos : Pos} (F : ExcBaseFacts B newId initId bmB) (q : PySem.W.excIn X.K C bmB newId = true) (gC : X.mg x = some (.ref C))
    (kC : PySem.W.keepIn X.K (.ref C) = true) (r : Raises X (.ref C)) (hg : Gl X x) (hdb : (x == ("__debug__" : Str)) = false := by decide) : L2N.PMk X (.Call (.Name x p) [] [] pos) (fun _ H Q => Q (.ref C) none H) := by
  intro pins s σ H Q I h
  refine wpAny_Call_Name_kw (ld_glob I hg gC ?_ hdb)
  refine PySem.W.callWith_K0 I.kIn kC ?_
  obtain ⟨bm, N, nm, qn, bs, hdct, sn, sub, ab, col, dd, k0, k1, k2, k3, k5, mN, hC, hN, hni, T⟩ := exc_obj I.kIn q
  refine wpAny_call_exc_subT F T hC hN hni (fun h' e hm => ?_) (Nat.zero_le _)
  exact L2N.mk_of I hm r h (I.hok.gone hm.new)

theorem erase_perm {α : Type} : ∀ {l : List α} {i : Nat} (h : i < l.length), (l[i] :: l.eraseIdx i).Perm l
  | a :: l, 0, _ => .refl _
  | a :: l, i + 1, h => by
    have ih := erase_perm (l := l) (i := i) (by simpa using h)
    simp only [List.getElem_cons_succ, List.eraseIdx_cons_succ]
    exact (List.Perm.swap _ _ _).trans (.cons _ ih)
/-! ### numbers in lowest terms -/
/-- a / b in lowest terms -/
def nrmC (a b : Int) : Int := if b < 0 then -((Nat.gcd a.natAbs b.natAbs : Nat) : Int) else ((Nat.gcd a.natAbs b.natAbs : Nat) : Int)
def nrm (a b : Int) : Int × Int := (a.fdiv (nrmC a b), b.fdiv (nrmC a b))
theorem nrmC_ne {a b : Int} (h : b ≠ 0) : nrmC a b ≠ 0 := by
  have g : 0 < Nat.gcd a.natAbs b.natAbs := Nat.gcd_pos_of_pos_right _ (by omega)
  unfold nrmC
  split <;> omega
theorem nrmC_abs {a b : Int} : (nrmC a b).natAbs = Nat.gcd a.natAbs b.natAbs := by
  unfold nrmC
  split <;> omega
theorem nrmC_log {a b : Int} (h : b ≠ 0) (hb : b.natAbs.log2 < 9000) : (nrmC a b).natAbs.log2 < 9000 := by
  rw [nrmC_abs]
  have g : Nat.gcd a.natAbs b.natAbs ≤ b.natAbs := Nat.gcd_le_right _ (by omega)
  have hb2 : b.natAbs < 2 ^ 9000 := (Nat.log2_lt (by omega)).mp hb
  exact (Nat.log2_lt (by have := Nat.gcd_pos_of_pos_right a.natAbs (show 0 < b.natAbs by omega); omega)).mpr (Nat.lt_of_le_of_lt g hb2)
theorem nrmC_dvd_a {a b : Int} : nrmC a b ∣ a := by
  have h : ((Nat.gcd a.natAbs b.natAbs : Nat) : Int) ∣ a := Int.ofNat_dvd_left.mpr (Nat.gcd_dvd_left _ _)
  unfold nrmC
  split
  · exact Int.neg_dvd.mpr h
  · exact h
theorem nrmC_dvd_b {a b : Int} : nrmC a b ∣ b := by
  have h : ((Nat.gcd a.natAbs b.natAbs : Nat) : Int) ∣ b := Int.ofNat_dvd_left.mpr (Nat.gcd_dvd_right _ _)
  unfold nrmC
  split
  · exact Int.neg_dvd.mpr h
  · exact h
theorem fdiv_mul {a c : Int} (h : c ∣ a) : a.fdiv c * c = a := Int.fdiv_mul_cancel h
theorem nrm_a {a b : Int} : (nrm a b).1 * nrmC a b = a := fdiv_mul nrmC_dvd_a
theorem nrm_b {a b : Int} : (nrm a b).2 * nrmC a b = b := fdiv_mul nrmC_dvd_b
/-- in lowest terms -/
structure Red (t b : Int) : Prop where
  pos : 0 < b
  cop : Nat.gcd t.natAbs b.natAbs = 1
theorem nrm_red {a b : Int} (h : b ≠ 0) : Red (nrm a b).1 (nrm a b).2 := by
  have e1 := nrm_a (a := a) (b := b)
  have e2 := nrm_b (a := a) (b := b)
  have hc := nrmC_ne (a := a) h
  refine ⟨?_, ?_⟩
  · have s : (0 < b ∧ 0 < nrmC a b) ∨ (b < 0 ∧ nrmC a b < 0) := by
      have g : 0 < Nat.gcd a.natAbs b.natAbs := Nat.gcd_pos_of_pos_right _ (by omega)
      unfold nrmC
      split <;> omega
    rcases s with ⟨s1, s2⟩ | ⟨s1, s2⟩
    · exact Int.pos_of_mul_pos_left (by rw [e2]; exact s1) s2
    · refine Int.pos_of_mul_pos_left (b := -nrmC a b) ?_ (by omega)
      rw [Int.mul_neg, e2]
      omega
  · have g : 0 < Nat.gcd a.natAbs b.natAbs := Nat.gcd_pos_of_pos_right _ (by omega)
    have f1 : (nrm a b).1.natAbs * Nat.gcd a.natAbs b.natAbs = a.natAbs := by
      have := congrArg Int.natAbs e1
      rw [Int.natAbs_mul, nrmC_abs] at this
      exact this
    have f2 : (nrm a b).2.natAbs * Nat.gcd a.natAbs b.natAbs = b.natAbs := by
      have := congrArg Int.natAbs e2
      rw [Int.natAbs_mul, nrmC_abs] at this
      exact this
    have f3 : Nat.gcd ((nrm a b).1.natAbs * Nat.gcd a.natAbs b.natAbs) ((nrm a b).2.natAbs * Nat.gcd a.natAbs b.natAbs) = Nat.gcd a.natAbs b.natAbs := by rw [f1, f2]
    rw [Nat.gcd_mul_right] at f3
    exact Nat.eq_of_mul_eq_mul_right g (by rw [f3, Nat.one_mul])
theorem nrm_cross {a b : Int} : (nrm a b).1 * b = a * (nrm a b).2 := by
  have e1 := nrm_a (a := a) (b := b)
  have e2 := nrm_b (a := a) (b := b)
  have h : (nrm a b).1 * ((nrm a b).2 * nrmC a b) = (nrm a b).1 * nrmC a b * (nrm a b).2 := by
    rw [Int.mul_assoc, Int.mul_comm (nrmC a b)]
  rw [e1, e2] at h
  exact h
theorem Red.uniq {t b t' b' : Int} (h : Red t b) (h' : Red t' b') (e : t * b' = t' * b) : t = t' ∧ b = b' := by
  have hb := h.pos
  have hb' := h'.pos
  have f : t.natAbs * b'.natAbs = t'.natAbs * b.natAbs := by
    have := congrArg Int.natAbs e
    rw [Int.natAbs_mul, Int.natAbs_mul] at this
    exact this
  have c : Nat.Coprime b.natAbs t.natAbs := (Nat.gcd_comm _ _).trans h.cop
  have c' : Nat.Coprime b'.natAbs t'.natAbs := (Nat.gcd_comm _ _).trans h'.cop
  have d1 : b.natAbs ∣ b'.natAbs := c.dvd_of_dvd_mul_left ⟨t'.natAbs, by rw [f, Nat.mul_comm]⟩
  have d2 : b'.natAbs ∣ b.natAbs := c'.dvd_of_dvd_mul_left ⟨t.natAbs, by rw [← f, Nat.mul_comm]⟩
  have eb : b = b' := by
    have := Nat.dvd_antisymm d1 d2
    omega
  subst eb
  exact ⟨Int.eq_of_mul_eq_mul_right (by omega) e, rfl⟩
/-- which fraction stands for the number doesn't matter -/
theorem nrm_same {a b c d : Int} (hb : b ≠ 0) (hd : d ≠ 0) (e : a * d = c * b) : nrm a b = nrm c d := by
  have h1 := nrm_cross (a := a) (b := b)
  have h2 := nrm_cross (a := c) (b := d)
  have k : (nrm a b).1 * (nrm c d).2 = (nrm c d).1 * (nrm a b).2 := by
    refine Int.eq_of_mul_eq_mul_right (a := b * d) (Int.mul_ne_zero hb hd) ?_
    calc (nrm a b).1 * (nrm c d).2 * (b * d) = ((nrm a b).1 * b) * (d * (nrm c d).2) := by ac_rfl
      _ = (a * (nrm a b).2) * (d * (nrm c d).2) := by rw [h1]
      _ = (a * d) * ((nrm a b).2 * (nrm c d).2) := by ac_rfl
      _ = (c * b) * ((nrm a b).2 * (nrm c d).2) := by rw [e]
      _ = (c * (nrm c d).2) * ((nrm a b).2 * b) := by ac_rfl
      _ = ((nrm c d).1 * d) * ((nrm a b).2 * b) := by rw [h2]
      _ = (nrm c d).1 * (nrm a b).2 * (b * d) := by ac_rfl
  obtain ⟨e1, e2⟩ := (nrm_red hb).uniq (nrm_red hd) k
  exact Prod.ext e1 e2
theorem nrm_id {t b : Int} (h : Red t b) : nrm t b = (t, b) := by
  have hb := h.pos
  obtain ⟨e1, e2⟩ := (nrm_red (a := t) (b := b) (by omega)).uniq h nrm_cross
  exact Prod.ext e1 e2
theorem red_one {t : Int} : Red t 1 := ⟨by decide, by simp⟩
theorem nrm_one {t : Int} : nrm t 1 = (t, 1) := nrm_id red_one

theorem nrm_zero {a b : Int} (h : b ≠ 0) : (nrm a b).1 = 0 ↔ a = 0 := by
  have e := nrm_a (a := a) (b := b)
  have c := nrmC_ne (a := a) h
  constructor
  · intro z
    rw [z, Int.zero_mul] at e
    exact e.symm
  · intro z
    rw [z] at e
    rcases Int.mul_eq_zero.mp e with u | u
    · rw [z]
      exact u
    · rw [z] at c
      exact absurd u c
theorem nrm_ne {a b : Int} (h : b ≠ 0) : (nrm a b).2 ≠ 0 := by
  have := (nrm_red (a := a) h).pos
  omega
/-- a quotient of numbers in lowest terms -/
theorem nrm_over {a b c d : Int} (hb : b ≠ 0) (hd : d ≠ 0) (hc : c ≠ 0) : nrm ((nrm a b).1 * (nrm c d).2) ((nrm a b).2 * (nrm c d).1) = nrm (a * d) (b * c) := by
  have h1 := nrm_cross (a := a) (b := b)
  have h2 := nrm_cross (a := c) (b := d)
  have n1 := nrm_ne (a := a) hb
  have n2 : (nrm c d).1 ≠ 0 := fun z => hc ((nrm_zero hd).mp z)
  refine nrm_same (Int.mul_ne_zero n1 n2) (Int.mul_ne_zero hb hc) ?_
  calc (nrm a b).1 * (nrm c d).2 * (b * c) = ((nrm a b).1 * b) * (c * (nrm c d).2) := by ac_rfl
    _ = (a * (nrm a b).2) * ((nrm c d).1 * d) := by rw [h1, h2]
    _ = a * d * ((nrm a b).2 * (nrm c d).1) := by ac_rfl

/-! ### Ratios -/
/-- the ratio t / b stands at p -/
def RatAt (ca : Nat → Addr) (H : Hp) (p : Addr) (t b : Int) : Prop := Red t b ∧ ∃ dx, H p = some (.ins (ca 2) dx [("top", .int t), ("bottom", .int b)])
theorem RatAt.same {ca : Nat → Addr} {H H' : Hp} {p : Addr} {t b : Int} (h : RatAt ca H p t b) (s : Same H H') : RatAt ca H' p t b := ⟨h.1, let ⟨dx, e⟩ := h.2; ⟨dx, s _ _ e⟩⟩
/-- a number: an int, or a ratio -/
def NumV (ca : Nat → Addr) (H : Hp) (x : V) (t b : Int) : Prop := (x = .int t ∧ b = 1) ∨ ∃ p, x = .ref p ∧ RatAt ca H p t b
theorem NumV.same {ca : Nat → Addr} {H H' : Hp} {x : V} {t b : Int} (h : NumV ca H x t b) (s : Same H H') : NumV ca H' x t b :=
  h.imp id fun ⟨p, e, r⟩ => ⟨p, e, r.same s⟩
theorem NumV.red {ca : Nat → Addr} {H : Hp} {x : V} {t b : Int} (h : NumV ca H x t b) : Red t b := by
  rcases h with ⟨_, rfl⟩ | ⟨p, _, r⟩
  · exact red_one
  · exact r.1
theorem kit_self {K : PySem.W.Frag} {v : Value} : PySem.W.kitOne K v v = some true := if_pos (beq_iff_eq.mpr rfl)
theorem put_rat {x y : V} : putF "bottom" y (putF "top" x []) = ([("top", x), ("bottom", y)] : List (Str × V)) := by
  rw [putF_nil, putF_ne (by decide +kernel), putF_nil]
theorem lt164 {z : Int} (h0 : -(10 ^ 49 + 2) < z) (h : z < 10 ^ 49 + 2) : z.natAbs < 2 ^ 164 := by
  have e : (2 : Nat) ^ 164 = 23384026197294446691258957323460528314494920687616 := by decide
  have e2 : (10 : Int) ^ 49 = 10000000000000000000000000000000000000000000000000 := by decide
  rw [e]
  rw [e2] at h0 h
  omega
theorem lg164 {z : Int} (h : z.natAbs < 2 ^ 164) : z.natAbs.log2 < 9000 := Nat.lt_trans (PySem.Flt.log2_lt_of (by decide) h) (by decide)
theorem RatAt.mk {ca : Nat → Addr} {H : Hp} {p dx : Addr} {t b : Int} (h : Red t b) (e : H p = some (.ins (ca 2) dx [("top", .int (nrm t b).1), ("bottom", .int (nrm t b).2)])) : RatAt ca H p t b := by
  rw [nrm_id h] at e
  exact ⟨h, dx, e⟩
theorem RatAt.of {ca : Nat → Addr} {H : Hp} {p dx : Addr} {t b : Int} (h : b ≠ 0) (e : H p = some (.ins (ca 2) dx [("top", .int (nrm t b).1), ("bottom", .int (nrm t b).2)])) : RatAt ca H p (nrm t b).1 (nrm t b).2 := ⟨nrm_red h, dx, e⟩
theorem nrm_le1 {a b : Int} (h : b ≠ 0) : (nrm a b).1.natAbs ≤ a.natAbs := by
  have e := congrArg Int.natAbs (nrm_a (a := a) (b := b))
  rw [Int.natAbs_mul] at e
  have c : 0 < (nrmC a b).natAbs := by have := nrmC_ne (a := a) h; omega
  rw [← e]
  exact Nat.le_mul_of_pos_right _ c
theorem nrm_le2 {a b : Int} (h : b ≠ 0) : (nrm a b).2.natAbs ≤ b.natAbs := by
  have e := congrArg Int.natAbs (nrm_b (a := a) (b := b))
  rw [Int.natAbs_mul] at e
  have c : 0 < (nrmC a b).natAbs := by have := nrmC_ne (a := a) h; omega
  rw [← e]
  exact Nat.le_mul_of_pos_right _ c
/-- a pair of ints in lowest terms, none of them large -/
structure TupR (H : Hp) (p : Addr) (t b : Int) : Prop where
  red : Red t b
  st : t.natAbs < 2 ^ 170
  sb : b.natAbs < 2 ^ 170
  at_ : H p = some (.tup [.int t, .int b])
theorem tup_ne {H : Hp} {L b p : Addr} {xs : List V} (B : Bag H L b) (e : H p = some (.tup xs)) : p ≠ b := by
  obtain ⟨ns, i, big, mix, cnt, h1, _⟩ := B
  exact ne_of e h1 fun z => nomatch z
theorem TupR.keep {H H' : Hp} {L b p : Addr} {t u : Int} (h : TupR H p t u) (B : Bag H L b) (k : Keep b H H') : TupR H' p t u := ⟨h.red, h.st, h.sb, k _ _ h.at_ (tup_ne B h.at_)⟩
theorem TupR.same {H H' : Hp} {p : Addr} {t u : Int} (h : TupR H p t u) (s : Same H H') : TupR H' p t u := ⟨h.red, h.st, h.sb, s _ _ h.at_⟩
theorem TupR.of {H : Hp} {p : Addr} {a b : Int} (hb : b ≠ 0) (sa : a.natAbs < 2 ^ 164) (sb : b.natAbs < 2 ^ 164) (e : H p = some (.tup [.int (nrm a b).1, .int (nrm a b).2])) : TupR H p (nrm a b).1 (nrm a b).2 :=
  ⟨nrm_red hb, Nat.lt_of_le_of_lt (nrm_le1 hb) (Nat.lt_trans sa (by decide)), Nat.lt_of_le_of_lt (nrm_le2 hb) (Nat.lt_trans sb (by decide)), e⟩
theorem lg170 {z : Int} (h : z.natAbs < 2 ^ 170) : z.natAbs.log2 < 9000 := Nat.lt_trans (PySem.Flt.log2_lt_of (by decide) h) (by decide)
theorem m170 {x y : Int} (h : x.natAbs < 2 ^ 170) (h2 : y.natAbs < 2 ^ 170) : IntMulOk x y := mok_w h h2
theorem eqv2 {a b c d : Int} : PyData.eqv (.tuple [.int a, .int b]) (.tuple [.int c, .int d]) = decide (a = c ∧ b = d) := by
  by_cases h1 : a = c <;> by_cases h2 : b = d <;> simp [PyData.eqv, PyData.eqvAll, h1, h2]
/-- two pairs of ints, compared -/
theorem eqT {K : PySem.W.Frag} {H : Hp} {p q : Addr} {a b c d : Int} {Q : VK} (hp : H p = some (.tup [.int a, .int b])) (hq : H q = some (.tup [.int c, .int d])) (k : Q (.bl (decide (a = c ∧ b = d))) H) : rEqD K (.ref p) (.ref q) H Q := by
  refine ⟨.tuple [.int a, .int b], .tuple [.int c, .int d], .tup (SqT.of hp) (.cons (.int _) (.cons (.int _) .nil)), .tup (SqT.of hq) (.cons (.int _) (.cons (.int _) .nil)), rfl, rfl, ?_⟩
  rw [eqv2]
  exact k
theorem neT {K : PySem.W.Frag} {H : Hp} {p q : Addr} {a b c d : Int} {Q : VK} (hp : H p = some (.tup [.int a, .int b])) (hq : H q = some (.tup [.int c, .int d])) (k : Q (.bl (!decide (a = c ∧ b = d))) H) : rNeD K (.ref p) (.ref q) H Q := by
  refine ⟨.tuple [.int a, .int b], .tuple [.int c, .int d], .tup (SqT.of hp) (.cons (.int _) (.cons (.int _) .nil)), .tup (SqT.of hq) (.cons (.int _) (.cons (.int _) .nil)), rfl, rfl, ?_⟩
  rw [eqv2]
  exact k
theorem iteNv {x y : V} {A B : Prop} (h : x = y) (b : B) : if (!decide (x = y)) = true then A else B := by
  rw [decide_eq_true h]
  exact iteF b
def dueN (w a0 a1 b0 b1 : Int) : Int × Int := if w = 0 then (a0, b0) else if w = 1 then (a0 * b1, a1 * b0) else if w = 2 then (a0, a1 * b0) else (a0 * b1, b0)
theorem due_ne {w a0 a1 b0 b1 : Int} (h1 : a1 ≠ 0) (h3 : b1 ≠ 0) (h2 : b0 ≠ 0) : (dueN w a0 a1 b0 b1).2 ≠ 0 := by
  unfold dueN
  split
  · exact h2
  · split
    · exact Int.mul_ne_zero h1 h2
    · split
      · exact Int.mul_ne_zero h1 h2
      · exact h2
theorem due_log {w a0 a1 b0 b1 : Int} (s1 : a1.natAbs < 2 ^ 170) (s2 : b0.natAbs < 2 ^ 170) (_ : b1.natAbs < 2 ^ 170) : (dueN w a0 a1 b0 b1).2.natAbs.log2 < 9000 := by
  have m3 : (a1 * b0).natAbs.log2 < 9000 := Nat.lt_trans (PySem.Flt.log2_lt_of (by decide) (wide_lt s1 s2)) (by decide)
  unfold dueN
  split
  · exact lg170 s2
  · split
    · exact m3
    · split
      · exact m3
      · exact lg170 s2
/-! ### sizes -/
def Sz (n : Nat) (z : Int) : Prop := z.natAbs < 2 ^ n
theorem Sz.mono {n m : Nat} {z : Int} (h : Sz n z) (l : n ≤ m := by decide) : Sz m z := Nat.lt_of_lt_of_le h (Nat.pow_le_pow_right (by decide) l)
theorem Sz.mul {n m : Nat} {x y : Int} (h : Sz n x) (k : Sz m y) : Sz (n + m) (x * y) := by
  unfold Sz
  rw [Int.natAbs_mul, Nat.pow_add]
  exact Nat.mul_lt_mul_of_lt_of_le h (Nat.le_of_lt k) (Nat.two_pow_pos _)
theorem Sz.add {n m : Nat} {x y : Int} (h : Sz n x) (k : Sz m y) : Sz (n + m + 1) (x + y) := by
  unfold Sz at *
  have a : 2 ^ n ≤ 2 ^ (n + m) := Nat.pow_le_pow_right (by decide) (Nat.le_add_right _ _)
  have b : 2 ^ m ≤ 2 ^ (n + m) := Nat.pow_le_pow_right (by decide) (Nat.le_add_left _ _)
  rw [Nat.pow_succ]
  omega
/-- both of the same size -/
theorem Sz.add' {n : Nat} {x y : Int} (h : Sz n x) (k : Sz n y) : Sz (n + 1) (x + y) := by
  unfold Sz at *
  rw [Nat.pow_succ]
  omega
theorem Sz.neg {n : Nat} {x : Int} (h : Sz n x) : Sz n (-x) := by
  unfold Sz at *
  omega
theorem Sz.sub {n m : Nat} {x y : Int} (h : Sz n x) (k : Sz m y) : Sz (n + m + 1) (x - y) := by
  rw [Int.sub_eq_add_neg]
  exact h.add k.neg
theorem Sz.sub' {n : Nat} {x y : Int} (h : Sz n x) (k : Sz n y) : Sz (n + 1) (x - y) := by
  unfold Sz at *
  rw [Nat.pow_succ]
  omega
theorem Sz.lg {n : Nat} {x : Int} (h : Sz n x) (l : n ≤ 8999 := by decide) (l0 : 0 < n := by decide) : x.natAbs.log2 < 9000 :=
  Nat.lt_of_lt_of_le (PySem.Flt.log2_lt_of l0 h) (Nat.le_succ_of_le l)
theorem Sz.mok {n m : Nat} {x y : Int} (h : Sz n x) (k : Sz m y) (h0 : 0 < n := by decide) (h1 : 0 < m := by decide) (l : n + m ≤ 1000000 := by decide) : IntMulOk x y := mok_w h k h0 h1 l
theorem Sz.le {n : Nat} {x y : Int} (h : Sz n x) (l : y.natAbs ≤ x.natAbs) : Sz n y := Nat.lt_of_le_of_lt l h
theorem Sz.one : Sz 1 1 := show (1 : Int).natAbs < 2 ^ 1 by decide
theorem Sz.zero : Sz 1 0 := show (0 : Int).natAbs < 2 ^ 1 by decide

/-! ### fractions, and the ratios that stand for them -/
theorem nrm_add {a b c d : Int} (hb : b ≠ 0) (hd : d ≠ 0) : nrm ((nrm a b).1 * (nrm c d).2 + (nrm c d).1 * (nrm a b).2) ((nrm a b).2 * (nrm c d).2) = nrm (a * d + c * b) (b * d) := by
  have h1 := nrm_cross (a := a) (b := b)
  have h2 := nrm_cross (a := c) (b := d)
  refine nrm_same (Int.mul_ne_zero (nrm_ne hb) (nrm_ne hd)) (Int.mul_ne_zero hb hd) ?_
  rw [Int.add_mul, Int.add_mul]
  congr 1
  · calc (nrm a b).1 * (nrm c d).2 * (b * d) = ((nrm a b).1 * b) * (d * (nrm c d).2) := by ac_rfl
      _ = a * (nrm a b).2 * (d * (nrm c d).2) := by rw [h1]
      _ = a * d * ((nrm a b).2 * (nrm c d).2) := by ac_rfl
  · calc (nrm c d).1 * (nrm a b).2 * (b * d) = ((nrm c d).1 * d) * (b * (nrm a b).2) := by ac_rfl
      _ = c * (nrm c d).2 * (b * (nrm a b).2) := by rw [h2]
      _ = c * b * ((nrm a b).2 * (nrm c d).2) := by ac_rfl
theorem nrm_neg {a b : Int} (hb : b ≠ 0) : nrm (-a) b = (-(nrm a b).1, (nrm a b).2) := by
  have h1 := nrm_cross (a := a) (b := b)
  have r := nrm_red (a := a) hb
  rw [← nrm_id (t := -(nrm a b).1) (b := (nrm a b).2) ⟨r.pos, by rw [Int.natAbs_neg]; exact r.cop⟩]
  refine nrm_same hb (nrm_ne hb) ?_
  rw [Int.neg_mul, Int.neg_mul, h1]
theorem nrm_sub {a b c d : Int} (hb : b ≠ 0) (hd : d ≠ 0) : nrm ((nrm a b).1 * (nrm c d).2 - (nrm c d).1 * (nrm a b).2) ((nrm a b).2 * (nrm c d).2) = nrm (a * d - c * b) (b * d) := by
  have h := nrm_add (a := a) (c := -c) hb hd
  rw [nrm_neg hd] at h
  simp only [Int.neg_mul, ← Int.sub_eq_add_neg] at h
  exact h
theorem nrm_mul {a b c d : Int} (hb : b ≠ 0) (hd : d ≠ 0) : nrm ((nrm a b).1 * (nrm c d).1) ((nrm a b).2 * (nrm c d).2) = nrm (a * c) (b * d) := by
  have h1 := nrm_cross (a := a) (b := b)
  have h2 := nrm_cross (a := c) (b := d)
  refine nrm_same (Int.mul_ne_zero (nrm_ne hb) (nrm_ne hd)) (Int.mul_ne_zero hb hd) ?_
  calc (nrm a b).1 * (nrm c d).1 * (b * d) = ((nrm a b).1 * b) * ((nrm c d).1 * d) := by ac_rfl
    _ = a * (nrm a b).2 * (c * (nrm c d).2) := by rw [h1, h2]
    _ = a * c * ((nrm a b).2 * (nrm c d).2) := by ac_rfl
/-- the amount of a number -/
def iab (a : Int) : Int := if a < 0 then -a else a
theorem iab_nat {a : Int} : iab a = (a.natAbs : Int) := by unfold iab; split <;> omega
theorem Sz.iab {n : Nat} {x : Int} (h : Sz n x) : Sz n (iab x) := h.le (by rw [iab_nat]; exact Nat.le_of_eq (Int.natAbs_natCast _))
theorem nrm_abs {a b : Int} (hb : b ≠ 0) : nrm (iab (nrm a b).1) (nrm a b).2 = nrm (iab a) (iab b) := by
  have h1 := congrArg Int.natAbs (nrm_cross (a := a) (b := b))
  have r := nrm_red (a := a) hb
  rw [Int.natAbs_mul, Int.natAbs_mul] at h1
  have e : ((nrm a b).2.natAbs : Int) = (nrm a b).2 := Int.natAbs_of_nonneg (Int.le_of_lt r.pos)
  refine nrm_same (nrm_ne hb) (by rw [iab_nat]; omega) ?_
  rw [iab_nat, iab_nat, iab_nat, ← e, ← Int.natCast_mul, ← Int.natCast_mul, h1]
/-- the ratio of a / b stands at p -/
structure RatQ (ca : Nat → Addr) (H : Hp) (p : Addr) (a b : Int) : Prop where
  ne : b ≠ 0
  at_ : RatAt ca H p (nrm a b).1 (nrm a b).2
theorem RatQ.same {ca : Nat → Addr} {H H' : Hp} {p : Addr} {a b : Int} (h : RatQ ca H p a b) (s : Same H H') : RatQ ca H' p a b := ⟨h.ne, h.at_.same s⟩
theorem rsame {ca : Nat → Addr} {H H' : Hp} {p : Addr} {a b : Int} (s : Same H H') (h : RatQ ca H p a b) : RatQ ca H' p a b := h.same s
theorem strans {H H1 H2 : Hp} (t : Same H1 H2) (s : Same H H1) : Same H H2 := s.trans t
theorem RatQ.to {ca : Nat → Addr} {H : Hp} {p : Addr} {a b c d : Int} (h : RatQ ca H p a b) (hd : d ≠ 0) (e : a * d = c * b) : RatQ ca H p c d := ⟨hd, by rw [← nrm_same h.ne hd e]; exact h.at_⟩
theorem RatQ.ins {ca : Nat → Addr} {H : Hp} {p : Addr} {a b : Int} (h : RatQ ca H p a b) : ∃ dx, H p = some (.ins (ca 2) dx [("top", .int (nrm a b).1), ("bottom", .int (nrm a b).2)]) := h.at_.2
theorem RatQ.of {ca : Nat → Addr} {H : Hp} {p dx : Addr} {a b a' b' : Int} (hb : b ≠ 0) (e : H p = some (.ins (ca 2) dx [("top", .int (nrm a' b').1), ("bottom", .int (nrm a' b').2)])) (n : nrm a' b' = nrm a b) : RatQ ca H p a b :=
  ⟨hb, by rw [n] at e; exact RatAt.of hb e⟩
/-- a number that is a / b: an int, or a ratio -/
def NumQ (ca : Nat → Addr) (H : Hp) (x : V) (a b : Int) : Prop := (x = .int a ∧ b = 1) ∨ ∃ p, x = .ref p ∧ RatQ ca H p a b
theorem NumQ.same {ca : Nat → Addr} {H H' : Hp} {x : V} {a b : Int} (h : NumQ ca H x a b) (s : Same H H') : NumQ ca H' x a b := h.imp id fun ⟨p, e, r⟩ => ⟨p, e, r.same s⟩
theorem NumQ.ne {ca : Nat → Addr} {H : Hp} {x : V} {a b : Int} (h : NumQ ca H x a b) : b ≠ 0 := by
  rcases h with ⟨_, rfl⟩ | ⟨_, _, r⟩
  · decide
  · exact r.ne
theorem NumQ.num {ca : Nat → Addr} {H : Hp} {x : V} {a b : Int} (h : NumQ ca H x a b) : NumV ca H x (nrm a b).1 (nrm a b).2 := by
  rcases h with ⟨rfl, rfl⟩ | ⟨p, e, r⟩
  · rw [nrm_one]
    exact .inl ⟨rfl, rfl⟩
  · exact .inr ⟨p, e, r.at_⟩
theorem RatQ.num {ca : Nat → Addr} {H : Hp} {p : Addr} {a b : Int} (h : RatQ ca H p a b) : NumQ ca H (.ref p) a b := .inr ⟨p, rfl, h⟩
theorem NumQ.int {ca : Nat → Addr} {H : Hp} {a : Int} : NumQ ca H (.int a) a 1 := .inl ⟨rfl, rfl⟩
theorem rOwn_of {ca : Nat → Addr} {H : Hp} {p : Addr} {x : V} {a b a' b' : Int} {sp : Sp} {E : XK} {Q : VK} (h : RatQ ca H p a b) (n : NumQ ca H x a' b') (k : sp [.ref p, x] H Q E) : rOwn (ca 2) sp E (.ref p) x H Q := by
  obtain ⟨dx, e⟩ := h.ins
  refine ⟨p, dx, _, rfl, e, ?_, k⟩
  rcases n with ⟨rfl, rfl⟩ | ⟨q, rfl, r⟩
  · exact .inl ⟨_, rfl⟩
  · obtain ⟨dy, e2⟩ := r.ins
    exact .inr ⟨q, dy, _, rfl, e2⟩
theorem rRefl_of {ca : Nat → Addr} {H : Hp} {p : Addr} {i a b : Int} {sp : Sp} {E : XK} {Q : VK} (h : RatQ ca H p a b) (k : sp [.ref p, .int i] H Q E) : rRefl (ca 2) sp E (.int i) (.ref p) H Q := by
  obtain ⟨dx, e⟩ := h.ins
  exact ⟨i, p, dx, _, rfl, rfl, e, k⟩
theorem rUna_of {ca : Nat → Addr} {H : Hp} {p : Addr} {a b : Int} {sp : Sp} {E : XK} {Q : VK} (h : RatQ ca H p a b) (k : sp [.ref p] H Q E) : rUna (ca 2) sp E (.ref p) H Q := by
  obtain ⟨dx, e⟩ := h.ins
  exact ⟨p, dx, _, rfl, e, k⟩
/-- sums of fractions, from the left -/
def sumQ : Int × Int → List (Int × Int) → Int × Int := List.foldl fun x y => (x.1 * y.2 + y.1 * x.2, x.2 * y.2)
theorem sumQ_size : ∀ (fs : List (Int × Int)) (z : Int × Int) (n : Nat), (∀ f ∈ fs, Sz 200 f.1 ∧ Sz 200 f.2) → Sz n z.1 → Sz n z.2 → Sz (n + 201 * fs.length) (sumQ z fs).1 ∧ Sz (n + 201 * fs.length) (sumQ z fs).2
  | [], z, n, _, h1, h2 => ⟨h1, h2⟩
  | f :: fs, z, n, hf, h1, h2 => by
    obtain ⟨f1, f2⟩ := hf f List.mem_cons_self
    have g1 : Sz (n + 201) (z.1 * f.2 + f.1 * z.2) := ((h1.mul f2).add' ((f1.mul h2).mono (by omega))).mono (by omega)
    have g2 : Sz (n + 201) (z.2 * f.2) := (h2.mul f2).mono (by omega)
    obtain ⟨r1, r2⟩ := sumQ_size fs (z.1 * f.2 + f.1 * z.2, z.2 * f.2) (n + 201) (fun g hg => hf g (List.mem_cons_of_mem _ hg)) g1 g2
    rw [List.length_cons]
    exact ⟨r1.mono (by omega), r2.mono (by omega)⟩
theorem sumQ_ne : ∀ (fs : List (Int × Int)) (z : Int × Int), (∀ f ∈ fs, f.2 ≠ 0) → z.2 ≠ 0 → (sumQ z fs).2 ≠ 0
  | [], _, _, h => h
  | f :: fs, z, hf, h => sumQ_ne fs (z.1 * f.2 + f.1 * z.2, z.2 * f.2) (fun g hg => hf g (List.mem_cons_of_mem _ hg)) (Int.mul_ne_zero h (hf f List.mem_cons_self))
theorem sumQ_app {fs : List (Int × Int)} {z f : Int × Int} : sumQ z (fs ++ [f]) = ((sumQ z fs).1 * f.2 + f.1 * (sumQ z fs).2, (sumQ z fs).2 * f.2) := by
  unfold sumQ
  rw [List.foldl_append]
  rfl
/-- a sum whose first part alone is in lowest terms -/
theorem nrm_addL {a b c d : Int} (hb : b ≠ 0) (hd : d ≠ 0) : nrm ((nrm a b).1 * d + c * (nrm a b).2) ((nrm a b).2 * d) = nrm (a * d + c * b) (b * d) := by
  have h1 := nrm_cross (a := a) (b := b)
  refine nrm_same (Int.mul_ne_zero (nrm_ne hb) hd) (Int.mul_ne_zero hb hd) ?_
  rw [Int.add_mul, Int.add_mul]
  congr 1
  · calc (nrm a b).1 * d * (b * d) = ((nrm a b).1 * b) * (d * d) := by ac_rfl
      _ = a * (nrm a b).2 * (d * d) := by rw [h1]
      _ = a * d * ((nrm a b).2 * d) := by ac_rfl
  · ac_rfl
theorem RatQ.low {ca : Nat → Addr} {H : Hp} {p : Addr} {a b : Int} (h : RatQ ca H p a b) : RatQ ca H p (nrm a b).1 (nrm a b).2 := h.to (nrm_ne h.ne) nrm_cross.symm
/-! ### what another object's change leaves -/
theorem Bag.lst {H : Hp} {L b : Addr} (h : Bag H L b) : ∃ xs, H b = Option.some (.lst xs) := by
  obtain ⟨ns, i, big, mix, cnt, h1, _⟩ := h
  exact ⟨_, h1⟩
theorem RatQ.put {ca : Nat → Addr} {H H' : Hp} {p c : Addr} {a b : Int} {xs : List V} (h : RatQ ca H p a b) (e : H c = some (.lst xs)) (k : Keep c H H') : RatQ ca H' p a b :=
  ⟨h.ne, h.at_.1, let ⟨dx, q⟩ := h.at_.2; ⟨dx, k _ _ q (ne_of q e fun z => nomatch z)⟩⟩
theorem NumQ.put {ca : Nat → Addr} {H H' : Hp} {c : Addr} {x : V} {a b : Int} {xs : List V} (h : NumQ ca H x a b) (e : H c = some (.lst xs)) (k : Keep c H H') : NumQ ca H' x a b := h.imp id fun ⟨p, q, r⟩ => ⟨p, q, r.put e k⟩
theorem tput {H H' : Hp} {p c : Addr} {ys xs : List V} (h : H p = some (.tup ys)) (e : H c = some (.lst xs)) (k : Keep c H H') : H' p = some (.tup ys) := k _ _ h (ne_of h e fun z => nomatch z)
/-- a number with its fraction -/
def Item (ca : Nat → Addr) (H : Hp) (z : V) : Prop := ∃ t x v a b, z = .ref t ∧ H t = some (.tup [x, .ref v]) ∧ H v = some (.tup [.int a, .int b]) ∧ NumQ ca H x a b ∧ Sz 200 a ∧ Sz 200 b
theorem Item.put {ca : Nat → Addr} {H H' : Hp} {c : Addr} {z : V} {xs : List V} (h : Item ca H z) (e : H c = some (.lst xs)) (k : Keep c H H') : Item ca H' z := by
  obtain ⟨t, x, v, a, b, rfl, h1, h2, n, s⟩ := h
  exact ⟨t, x, v, a, b, rfl, tput h1 e k, tput h2 e k, n.put e k, s⟩
theorem Item.same {ca : Nat → Addr} {H H' : Hp} {z : V} (h : Item ca H z) (s : Same H H') : Item ca H' z := by
  obtain ⟨t, x, v, a, b, rfl, h1, h2, n, z⟩ := h
  exact ⟨t, x, v, a, b, rfl, s _ _ h1, s _ _ h2, n.same s, z⟩
/-- the numbers of a list and their fractions, beside each other -/
def Nums (ca : Nat → Addr) (H : Hp) : List V → List (Int × Int) → Prop := Paired fun x f => NumQ ca H x f.1 f.2 ∧ Sz 200 f.1 ∧ Sz 200 f.2
theorem paired_get {α β : Type} {F : α → β → Prop} : ∀ {xs : List α} {fs : List β} {i : Nat} {x : α} {f : β}, Paired F xs fs → xs[i]? = some x → fs[i]? = some f → F x f
  | _, _, 0, _, _, .cons r _, h1, h2 => by
    simp at h1 h2
    subst h1; subst h2
    exact r
  | _, _, i + 1, _, _, .cons _ t, h1, h2 => paired_get (i := i) t (by simpa using h1) (by simpa using h2)
theorem paired_mem {α β : Type} {F : α → β → Prop} : ∀ {xs : List α} {fs : List β}, Paired F xs fs → ∀ f ∈ fs, ∃ x, F x f
  | _, _, .cons r t, f, h => by
    rcases List.mem_cons.mp h with rfl | h
    · exact ⟨_, r⟩
    · exact paired_mem t f h
theorem Nums.same {ca : Nat → Addr} {H H' : Hp} {xs : List V} {fs : List (Int × Int)} (h : Nums ca H xs fs) (s : Same H H') : Nums ca H' xs fs := Paired.mapP h fun _ _ n => ⟨n.1.same s, n.2⟩
theorem Nums.put {ca : Nat → Addr} {H H' : Hp} {c : Addr} {xs ys : List V} {fs : List (Int × Int)} (h : Nums ca H xs fs) (e : H c = some (.lst ys)) (k : Keep c H H') : Nums ca H' xs fs := Paired.mapP h fun _ _ n => ⟨n.1.put e k, n.2⟩
theorem Nums.ne {ca : Nat → Addr} {H : Hp} {xs : List V} {fs : List (Int × Int)} (h : Nums ca H xs fs) : ∀ f ∈ fs, f.2 ≠ 0 := fun f m => let ⟨_, n⟩ := paired_mem h f m; n.1.ne
theorem Nums.sz {ca : Nat → Addr} {H : Hp} {xs : List V} {fs : List (Int × Int)} (h : Nums ca H xs fs) : ∀ f ∈ fs, Sz 200 f.1 ∧ Sz 200 f.2 := fun f m => let ⟨_, n⟩ := paired_mem h f m; n.2
/-! ### lists of the same things -/
def DId : Eqv := fun x y H => DFlat x y H ∨ ∃ a, x = .ref a ∧ y = .ref a
theorem mon_id : Mon DId := fun _ _ _ _ _ d => d
theorem eqG_id {X : Cx} : EqG X 0 DId := EqG.or eqG_flat fun A pins s σ H x y u v sb I rx ry d => by
  obtain ⟨a, rfl, rfl⟩ := d
  cases rx
  cases ry
  exact SeqAt.EqAt.same (A := A) (s := s) (.ref a) X.prog X.w X.xe _ ⟨rfl, H, I, Ext.rfl'⟩
theorem op_eqId {X : Cx} (hr : Room 1 X.A) : OpR X (compareOp .Eq) (rEqG (DList DId)) := op_eqG (rcG_list mon_id eqG_id) hr
/-! ### a static method, called on its class -/
structure OwnS (P : Program) (w : World) (K : PySem.W.Frag) (mg : Str → Option Value) (base : Heap) (k : Nat) (C : Addr) (m : Str) (ps : List Str) (sp : Sp) : Prop where
  ex : ∃ f fd p mc, FnOk P w K mg base (L2N.CX P w) k f fd ps sp ∧ ClX.CRead K C mc ∧ PySem.W.findCls K (.ref C) mc m = some (.get (.builtin "staticmethod.__get__") (.ref p) .none (.ref C)) ∧ (∃ rest, PySem.W.recIn K p "staticmethod" = some (.ref f :: rest)) ∧
    PySem.W.keepIn K (.ref f) = true ∧ Binds K fd ps []
def tStatS (C : Addr) (sp : Sp) (E : L2.St → XK) (ta : TE) (t : TA) : TE := fun σ H Q => ta σ H fun x H1 => x = .ref C ∧ t σ H1 fun vs H2 => sp vs H2 Q (E σ)
theorem pe_owns {X : Cx} {k : Nat} {C : Addr} {m : Str} {ps : List Str} {sp : Sp} {E : L2.St → XK} {pos apos : Pos} {e o : Expr} {es : List Expr} {ta : TE} {t : TA} {pl : Sem Bool} (O : OwnS X.prog X.w X.K X.mg X.base k C m ps sp) (he : PE X o ta) (hr : Room k X.A)
    (hx : ∀ σ, PassesAt (L2N.CX X.prog X.w) X σ (E σ)) (ha : PA X (e :: es) t)
    (hst : starEach (e :: es) X.env = (false, eval e X.env) :: starEach es X.env := by rfl) (hpl : (backTo pos (starEach es X.env)).any (·.1) = false := by rfl)
    (ht : eval (.Call (.Attribute o m apos) (e :: es) [] pos) X.env = (do
      let ov ← eval o X.env
      standAt apos.atName
      let (f, first) ← holding [ov] (getMethod ov m pl)
      callWith pos f first (backTo pos (starEach (e :: es) X.env)) (backToKw pos (keywordEach [] X.env))) := by rfl) :
    PE X (.Call (.Attribute o m apos) (e :: es) [] pos) (tStatS C sp E ta t) := by
  obtain ⟨f, fd, q, mc, F, r, hc, ⟨rest, hp⟩, hk, hb⟩ := O.ex
  refine ⟨fun pins s σ H Q I h => ?_⟩
  refine PySem.W.methodCall_KW (pl := pl) (thn (he.run pins s σ H _ I h) fun u s1 ⟨x, H1, I1, rx, ex, q1⟩ => ?_) ht
  subst ex
  obtain rfl : u = Value.ref C := rx
  refine PySem.W.method_cls I1.kIn r.ga (PySem.W.cls_bind I1.kIn r.rd hc ?_)
  refine wpAny_call (PySem.W.sm_get (s := { s1 with toks := s1.toks + 1 }) I1.kIn hp (PySem.W.handed_on rfl ?_))
  have I2 := I1.tok (s1.toks + 1)
  refine PySem.W.callWith_K (first := []) (h₀ := X.base) I.ok.mod.kin hk (thn (ha.run pos pins _ σ H1 _ I2 q1) fun us s2 ⟨vs, H2, I3, rv, q2⟩ => ⟨I3.kIn, ?_⟩) hst hpl
  exact run_fnS F hr hb (hx σ) I3 rv q2
/-! ### an own error that is caught -/
theorem exm1 {K : PySem.W.Frag} {C : Addr} (h1 : PySem.W.subIn K (.ref C) (.type "BaseException") = some true) (h2 : PySem.W.isClsIn K C = true) (h3 : PySem.W.typeIn K (.ref C) = some (.type "type")) (h4 : PySem.W.subIn K (.ref C) (.ref C) = some true) :
    PySem.W.exmOne K (.ref C) (.ref C) = some true := by
  have h2' : (PySem.W.clsIn K C).isSome = true := h2
  unfold PySem.W.exmOne PySem.W.kitCls
  rw [if_pos (by rw [h1]; rfl)]
  simp only [h2', h3, h4]
  rfl
def tGuard (p : Prop) (t : TS) : TS := fun D σ H => p ∧ t D σ H
theorem pss_err {X : Cx} {st : List Stmt} {t : TS} {cls : Value} {d : Option Addr} {oe : Obj} {C : Addr} (hz : Zc cls d oe) (h : Zc (.ref C) none oe → PSs X st t) : PSs X st (tGuard (cls = .ref C ∧ d = none) t) :=
  ⟨fun pins s σ H D I q => (h (q.1.1 ▸ q.1.2 ▸ hz)).run pins s σ H D I q.2⟩
/-! ### the law's own promise, and the end -/
def sp_law (K : PySem.W.Frag) (_ : Nat → Addr) : Sp := fun vs H Q _ => ∃ (a : Addr) (ns : List Int), vs = [.ref a] ∧ SqL K H a (ns.map V.int) ∧ ∀ H' : Hp, Q (.bl true) H'
theorem walk {l : PySem.W.OpenLaw} {q : Program} {loose : List Str} {XP : (Str → Option Value) → Heap → Prop} {YP : World → Heap → Prop} {d : DefRec} {K : Params → PySem.W.Frag} (k : Nat) (hk : Room k callerA) (hn : l.most = some 63) (hdf : d.params.defaults = [])
    (hY : ∀ (w : World) (h : Heap), YP w h → (K w.params).In h)
    (F : ∀ (w : World) (mg : Str → Option Value) (fa : Addr) (h : Heap), (K w.params).In h → h.Ns mainGlobals mg → mg d.name = some (.ref fa) →
      ∃ fd : FuncData, (∀ (s : Shared) (u : Value), BindsTo s fd ⟨[u], []⟩ [("_law_script", u)]) ∧ ∀ base : Heap, (K w.params).In base → base.Ns mainGlobals mg → FnOk l.prog w (K w.params) mg base (L2N.CX l.prog w) k fa fd ["_law_script"] (sp_law (K w.params) fun _ => 0)) :
    PySem.W.WalkO q loose XP YP l.row.toRowW d [] (fun f vs => PySem.call f vs) :=
  L2.walk_of (n := 63) (k := k) (x := "_law_script") (CX := fun w => L2N.CX l.prog w) (sp := fun w => sp_law (K w.params) fun _ => 0) hn (by decide) hdf hk hY F (fun _ _ a ns _ _ hS => ⟨a, ns, rfl, hS, fun _ => rfl⟩)
    fun _ _ _ _ _ h => by
      obtain ⟨_, _, _, _, _, _, _, _, _, _, _, _, z⟩ := h
      exact z
theorem binds_all {K : PySem.W.Frag} {fd : FuncData} {ps : List Str} {ds : List Value} (v : Vals [] ds) (b : L2.Binds K fd ps ds) : L2.Binds K fd ps [] := by
  cases v
  exact b
end Lo

set_option Elab.async false
set_option linter.all false
set_option maxRecDepth 100000
set_option maxHeartbeats 4000000
namespace Lo
open PySem PySem.Spec PyProof.Rows L2
open TL (tl tl_append)
/-! ### further rules -/
/-- a statement that is never reached -/
def tDead : TS := fun _ _ _ => False
theorem ps_dead {X : Cx} {st : Stmt} : PS X st tDead := ⟨fun _ _ _ _ _ _ h => h.elim⟩
theorem pe_const {X : Cx} {x : Str} {i : Int} {p : Pos} (hm : ∃ t, X.mg x = some (.int i t)) (hg : Gl X x) (hdb : (x == ("__debug__" : Str)) = false := by decide) : PE X (.Name x p) (tC (.int i)) := by
  obtain ⟨t, h⟩ := hm
  exact pe_glob hg h ⟨t, rfl⟩ hdb
theorem op_mulS {X : Cx} : OpR X (binaryOp .Mult) (fun x y H Q => ∃ z n, x = .str z ∧ y = .int n ∧ MulOk z n ∧ Q (.str (Txt.mul z n)) H) := by
  intro pins s σ H x y v u Q I rx ry h
  obtain ⟨z, n, rfl, rfl, hok, q⟩ := h
  obtain ⟨t, rfl⟩ := rx
  obtain ⟨t2, rfl⟩ := ry
  exact SB.mul hok fun t' k => ⟨.str (Txt.mul z n), H, I.tok _, ⟨t', rfl⟩, q⟩
section
variable {X : Cx} {k i : Nat} {C : Addr} {ps : List Str} {sp : Sp} {E : L2.St → XK} {x m y : Str} {p pos apos : Pos} {e o : Expr} {es : List Expr} {ta : TE} {t : TA} {dvs : List V}
/-- C() -/
theorem pe_owni0 (O : OwnI X.prog X.w X.K X.mg X.base k x C ps dvs sp) (hr : Room (k + 1) X.A) (hg : Gl X x) (hx : ∀ σ, PassesAt (L2N.CX X.prog X.w) X σ (E σ)) (hdb : (x == ("__debug__" : Str)) = false := by decide) :
    PE X (.Call (.Name x p) [] [] pos) (tMakeS C sp dvs E tNil) := by
  obtain ⟨f, fd, ds, F, M, hm, hb, hd⟩ := O.ex
  refine ⟨fun pins s σ H Q I h => ?_⟩
  refine wpAny_Call_Name_kw (ld_glob I hg hm ?_ hdb)
  exact PySem.W.callWith_K0 I.kIn M.kp (run_makeS (us := []) (vs := []) M F hr hb hd (hx σ) I .nil h)
/-- cls(..), cls a name of the def that holds the class -/
def tMakeL (i : Nat) (C : Addr) (sp : Sp) (dvs : List V) (E : L2.St → XK) (t : TA) : TE := fun σ H Q => σ[i]? = some (some (.ref C)) ∧ tMakeS C sp dvs E t σ H Q
theorem pe_ownl (O : OwnI X.prog X.w X.K X.mg X.base k x C ps dvs sp) (hr : Room (k + 1) X.A) (hN : X.N[i]? = some y) (hv : Vis X.env.scope y) (hx : ∀ σ, PassesAt (L2N.CX X.prog X.w) X σ (E σ)) (ha : PA X (e :: es) t)
    (hdb : (y == ("__debug__" : Str)) = false := by decide) (hcd : (y == ("__classdict__" : Str)) = false := by decide)
    (he : starEach (e :: es) X.env = (false, eval e X.env) :: starEach es X.env := by rfl) (hpl : (backTo pos (starEach es X.env)).any (·.1) = false := by rfl) :
    PE X (.Call (.Name y p) (e :: es) [] pos) (tMakeL i C sp dvs E t) := by
  obtain ⟨f, fd, ds, F, M, hm, hb, hd⟩ := O.ex
  refine ⟨fun pins s σ H Q I h => ?_⟩
  obtain ⟨hs, ht⟩ := h
  refine wpAny_Call_Name_kw (thn ((pe_var (pos := p) hN hv hdb hcd).run pins s σ H (fun v H1 => v = .ref C ∧ H1 = H) I ⟨.ref C, hs, rfl, rfl⟩) fun u s1 ⟨v, H1, I1, r1, q1⟩ => ?_)
  obtain ⟨rfl, rfl⟩ := q1
  cases r1
  refine PySem.W.callWith_K (h₀ := X.base) I.ok.mod.kin M.kp (thn (ha.run pos pins s1 σ _ _ I1 ht) fun us s2 ⟨vs, H2, I2, r, q⟩ => ⟨I2.kIn, ?_⟩) he hpl
  exact run_makeS M F hr hb hd (hx σ) I2 r q
end
/-- a field, the written part by its own name (within a comprehension) -/
theorem pe_fldK {X : Cx} {K : PySem.W.Frag} {e : Expr} {ta : TE} {f : Str} {pos : Pos} (he : PE X e ta) (hb : attributeBase e f X.env (eval e X.env) = eval e X.env) (hK : X.K = K) : PE X (.Attribute e f pos) (tFld K ta f) := by
  subst hK
  exact pe_fld he hb
/-- a class method, called on its class -/
structure OwnC (P : Program) (w : World) (K : PySem.W.Frag) (mg : Str → Option Value) (base : Heap) (k : Nat) (C : Addr) (m : Str) (ps : List Str) (sp : Sp) : Prop where
  ex : ∃ f fd p mc, FnOk P w K mg base (L2N.CX P w) k f fd ps sp ∧ ClX.CRead K C mc ∧ ClX.CMet K C mc m p f ∧ Binds K fd ps []
theorem pe_ownc {X : Cx} {k : Nat} {C : Addr} {m : Str} {ps : List Str} {sp : Sp} {E : XK} {pos apos : Pos} {e o : Expr} {es : List Expr} {ta : TE} {t : TA} {pl : Sem Bool} (O : OwnC X.prog X.w X.K X.mg X.base k C m ps sp) (he : PE X o ta) (hr : Room k X.A)
    (hx : Passes (L2N.CX X.prog X.w) X E) (ha : PA X (e :: es) t)
    (hst : starEach (e :: es) X.env = (false, eval e X.env) :: starEach es X.env := by rfl) (hpl : (backTo pos (starEach es X.env)).any (·.1) = false := by rfl)
    (ht : eval (.Call (.Attribute o m apos) (e :: es) [] pos) X.env = (do
      let ov ← eval o X.env
      standAt apos.atName
      let (f, first) ← holding [ov] (getMethod ov m pl)
      callWith pos f first (backTo pos (starEach (e :: es) X.env)) (backToKw pos (keywordEach [] X.env))) := by rfl) :
    PE X (.Call (.Attribute o m apos) (e :: es) [] pos) (ClX.tCMeth C sp E ta t) := by
  obtain ⟨f, fd, q, mc, F, r, c, hb⟩ := O.ex
  exact ClX.pe_cmeth he r c ((F.raw hb .nil).imp fun vs H Q E h => by rw [List.append_nil]; exact h) hr hx ha hst hpl ht
/-! ### an instance of another class on the right -/
section
open PySem.W
variable {prog : Program} {w : World} {A : Around} {E : Value → Shared → Prop} {s : Shared} {x y C D f g : Addr} {K : Frag} {ox oy : Obj} {od od' : Option Obj} {nm : String} {Q : Option Value → Shared → Prop} {rc ro : Option Value}
theorem bin1_other (X : K.In s.heap) (I : InstAt s.heap x ox C od) (J : InstAt s.heap y oy D od') (hc : selfFirst K C = true) (hs : findIn K (.ref C) (PySem.dunder nm) = some (some (.ref f))) (hf : isFn K (.ref f) = true) (hr : findIn K (.ref C) (dunderR nm) = some rc) (hp : rc = none ∨ ∃ g : Addr, rc = some (.ref g))
    (hcD : selfFirst K D = true) (hsD : findIn K (.ref D) (PySem.dunder nm) = some (some (.ref g))) (hrD : findIn K (.ref D) (dunderR nm) = some ro) (hpD : ro = none ∨ ∃ g : Addr, ro = some (.ref g)) (hne : C ≠ D) (hsub : subIn K (.ref D) (.ref C) = some false)
    (h : wpAny (model prog w) A (call (.ref f) [.ref x, .ref y]) (PySem.W.CmpBack fun v => Q (some v)) E s) : wpAny (model prog w) A (binaryOp1 nm (.ref x) (.ref y)) Q E s := by
  have one := ksp_try X I hs hf h
  have L3 : Looks (model prog w) s.heap (fillsNumberSlot (.ref C) nm) true := slot_fills X hc hs
  have L4 : Looks (model prog w) s.heap (fillsNumberSlot (.ref D) nm) true := slot_fills X hcD hsD
  have L1 : Looks (model prog w) s.heap (typeOf (.ref x)) (.ref C) := I.type
  have L2 : Looks (model prog w) s.heap (typeOf (.ref y)) (.ref D) := J.type
  have L5 : Looks (model prog w) s.heap (isSubtype (.ref D) (.ref C)) false := looks_subIn X hsub
  have L6 : Looks (model prog w) s.heap (numberSlotInPython (.ref C) nm) true := ksp_inPy X hs hr hp
  have L7 : Looks (model prog w) s.heap (numberSlotInPython (.ref D) nm) true := ksp_inPy X hsD hrD hpD
  have hne : (Value.ref C == Value.ref D) = false := Bool.eq_false_iff.mpr fun q => hne (Value.ref.inj (beq_iff_eq.mp q))
  obtain ⟨hh, gg, d, tt, os⟩ := s
  unfold binaryOp1
  refine wpAny_bind (L1.at (wpAny_bind (L2.at (wpAny_bind (L3.at ?_)))))
  simp only [hne, Bool.false_eq_true, if_false]
  ksp_lk
  refine wpAny_mono one (fun r s' hr => ?_) fun _ _ e => e
  obtain ⟨v, rfl, hq⟩ := hr
  ksp_lk
  exact hq
end
section
variable {X : Cx} {k : Nat} {C D : Addr} {ps : List Str} {sp : Sp} {E : XK}
/-- an instance of C on the left; an int, or an instance of C or of D on the right -/
def rOwnN (C D : Addr) (sp : Sp) (E : XK) : R2 := fun x y H Q => ∃ a dx fs, x = .ref a ∧ H a = some (.ins C dx fs) ∧ ((∃ i, y = .int i) ∨ (∃ b dy gs, y = .ref b ∧ H b = some (.ins C dy gs)) ∨ ∃ b dy gs, y = .ref b ∧ H b = some (.ins D dy gs)) ∧ sp [x, y] H Q E
theorem op_ownN (o : AOp) (A : Arith X.K C) (B : Arith X.K D) (hne : C ≠ D) (hsub : PySem.W.subIn X.K (.ref D) (.ref C) = some false) (O : OwnM X.prog X.w X.K X.mg X.base k C o.m ps sp) (hr : Room k X.A) (hx : Passes (L2N.CX X.prog X.w) X E) :
    OpR X (binaryOp o.op) (rOwnN C D sp E) := by
  intro pins s σ H x y v u Q I rx ry h
  obtain ⟨a, dx, fs, ex, ha, hy, hsp⟩ := h
  rcases hy with h1 | h1 | ⟨b, dy, gs, ey, hb'⟩
  · exact op_own o A O hr hx pins s σ H x y v u Q I rx ry ⟨a, dx, fs, ex, ha, .inl h1, hsp⟩
  · exact op_own o A O hr hx pins s σ H x y v u Q I rx ry ⟨a, dx, fs, ex, ha, .inr h1, hsp⟩
  · subst ex
    subst ey
    obtain rfl : v = Value.ref a := rx
    obtain rfl : u = Value.ref b := ry
    obtain ⟨f, fd, Fo, hm, hb⟩ := O.ex
    obtain ⟨_, od, J⟩ := inst_at I ha
    obtain ⟨_, od2, J2⟩ := inst_at I hb'
    have h1 : PySem.W.findIn X.K (.ref C) (PySem.dunder o.op.info.2) = some (some (.ref f)) := by rw [o.em]; exact hm.at_
    have refl_of : ∀ {c : Addr}, Arith X.K c → ∃ rc, PySem.W.findIn X.K (.ref c) (dunderR o.op.info.2) = some rc ∧ refOr rc = true := by
      intro c A
      rw [o.er]
      obtain ⟨a, b, c, q1, q2, q3⟩ := A.refl
      cases o
      · exact ⟨_, q1⟩
      · exact ⟨_, q2⟩
      · exact ⟨_, q3⟩
    obtain ⟨rc, h2, hrc⟩ := refl_of A
    obtain ⟨rd, h3, hrd⟩ := refl_of B
    obtain ⟨g, h4⟩ : ∃ g : Addr, PySem.W.findIn X.K (.ref D) (PySem.dunder o.op.info.2) = some (some (.ref g)) := by
      rw [o.em]
      obtain ⟨a, b, c, q1, q2, q3⟩ := B.has
      cases o
      · exact ⟨_, q1⟩
      · exact ⟨_, q2⟩
      · exact ⟨_, q3⟩
    have run := run_fn (us := [.ref a, .ref b]) (vs := [.ref a, .ref b]) (dvs := []) Fo hr hb .nil hx I (.cons rfl (.cons rfl .nil)) hsp
    have run2 := wpAny_mono run (fun u s' q => back_of (R := fun v s' => ∃ z, some v = some z ∧ EP X pins σ Q z s') q fun v s' q => ⟨v, rfl, q⟩) fun _ _ e => e
    exact bin_of1 (bin1_other I.kIn J J2 A.sf h1 hm.fn h2 (refOr_of hrc) B.sf h4 h3 (refOr_of hrd) hne hsub run2)
end
/-! ### name = {..} of a comprehension, the name a local -/
theorem ps_setDc {X : Cx} {slot : Nat} {nm : Str} {np : Pos} {ke ve target src : Expr} {tests : List Expr} {sc : Scope} {mine : List (Str × Nat)} {pc ps : Pos} {ti : TI} {tg : TG} {tt : TT} {tk tv : TE} (calm : X.calm = true) (nodup : X.N.Nodup) (at_ : X.N[slot]? = some nm)
    (loc : X.env.scope.names.lookup nm = some .local) (sw : swapsWith (.DictComp ke ve [⟨target, src, tests, 0⟩] sc pc) (some (.Name nm np)) ps.line X.env = pure true) (over : PI X target src ti) (blk : BlkOk X.N X.env.scope sc mine)
    (pg : ∀ (s1 : Shared) (H1 : Hp) (c1 : Addr) (l1 : List (Str × Addr)) (f1 : List Addr), PG (X.blk s1 H1 sc (compEnvC sc l1 c1 X.env) f1) target tg)
    (pt : ∀ (s1 : Shared) (H1 : Hp) (c1 : Addr) (l1 : List (Str × Addr)) (f1 : List Addr), PTs (X.blk s1 H1 sc (compEnvC sc l1 c1 X.env) f1) tests tt)
    (pk : ∀ (s1 : Shared) (H1 : Hp) (c1 : Addr) (l1 : List (Str × Addr)) (f1 : List Addr), PE (X.blk s1 H1 sc (compEnvC sc l1 c1 X.env) f1) ke tk)
    (pv : ∀ (s1 : Shared) (H1 : Hp) (c1 : Addr) (l1 : List (Str × Addr)) (f1 : List Addr), PE (X.blk s1 H1 sc (compEnvC sc l1 c1 X.env) f1) ve tv) (fold : ∀ x, foldedSetIterable src X.env x = pure x := by intro _; rfl) :
    PS X (.Assign [.Name nm np] (.DictComp ke ve [⟨target, src, tests, 0⟩] sc pc) ps) (tAsg (tDc ti tg tt tk tv (mine.map (·.2))) (gName slot)) := by
  refine ⟨fun pins s σ H D I want => ?_⟩
  rw [exec_Assign_Name_used _ _ _ _ sw]
  refine wpAny_bind (wpAny_standAt (wpAny_bind ?_))
  show wpAny _ X.A (do let _ ← comprehension (.DictComp ke ve [⟨target, src, tests, 0⟩] sc pc) sc X.env (firstIterPos [⟨target, src, tests, 0⟩] pc) newDict false (eval src X.env) (some (assign (.Name nm np) X.env))) _ _ s
  have want : tDc ti tg tt tk tv (mine.map (·.2)) σ H (fun x H1 => gName slot x σ H1 D.nx) := want
  refine wpAny_bind (thn (dc_core (Qf := fun _ s' => SP X pins D .next s') calm nodup I over blk pg pt pk pv fold want fun new C s' m H' I' q ns fp => ?_) fun _ s' hq => wpAny_pure (wpAny_pure hq))
  show wpAny _ _ (assign (.Name nm np) X.env (.ref new)) _ _ _
  refine wpAny_assign_Name (store_ok2 (v := V.ref new) I' nodup at_ (.inl loc) rfl (fun s2 I2 ⟨a, sb, ha⟩ => ?_) (.inr loc))
  obtain ⟨g0, g1, g2, g3, g4, g5⟩ := fp
  have apart : C ≠ a := ha.elim (fun z => z ▸ g1) fun z e => g4 nm a z e.symm
  exact ⟨m, ns.sameBut sb apart, fun h3 sb3 => ⟨_, H', I2.turned (t' := s2.toks) (fun b o hb e => (sb3.2 b hb).trans e) g0 g1 g3 g4 g5, q⟩⟩
theorem sw_trueD {ke ve : Expr} {gs : List Comprehension} {sc : Scope} {pc np : Pos} {nm : Str} {l : Nat} {env : Env} (kind : env.scope.kind = .function) (loc : env.scope.names.lookup nm = some .local) (line : (np.line == pc.line) = true)
    (other : (sc.names.any fun (n, k) => n == nm && (k == .local || k == .cell)) = false) : swapsWith (.DictComp ke ve gs sc pc) (some (.Name nm np)) l env = pure true := by
  have one : env.kindOf nm = some .local := loc
  have two : env.blockKind = .function := by unfold Env.blockKind; rw [kind]; rfl
  unfold swapsWith
  simp only [two, one, other, Expr.pos, line]
  rfl
/-! ### words of letters -/
def Lets (z : Str) : Prop := ∀ c ∈ tl z, 97 ≤ c ∧ c ≤ 122
structure NameOk (z : Str) : Prop where
  le : z.length ≤ 12
  ne : 0 < z.length
  ls : Lets z
theorem lets_app {x y : Str} (h : Lets x) (k : Lets y) : Lets (x ++ y) := fun c m => by
  rw [tl_append] at m
  rcases List.mem_append.mp m with m | m
  · exact h c m
  · exact k c m
theorem len_app {x y : Str} : (x ++ y).length = x.length + y.length := by
  show (x.cps ++ y.cps).size = _
  rw [Array.size_append]
  rfl
theorem lets_cut {z : Str} {lo hi : Option Int} (h : Lets z) : Lets (cutS z lo hi) := fun c m => h c (by
  have m : c ∈ (z.cps.toList.drop (HT.sIx z.length 0 lo)).take (HT.sIx z.length z.length hi - HT.sIx z.length 0 lo) := by
    have e : tl (cutS z lo hi) = (z.cps.toList.drop (HT.sIx z.length 0 lo)).take (HT.sIx z.length z.length hi - HT.sIx z.length 0 lo) := by
      unfold cutS tl
      rfl
    rw [e] at m
    exact m
  exact List.mem_of_mem_drop (List.mem_of_mem_take m))
theorem len_cuts {z : Str} {w : Int} : (cutS z none (some w)).length + (cutS z (some w) none).length = z.length := by
  unfold cutS Str.length
  have e1 : HT.sIx z.cps.size 0 none = 0 := rfl
  have e2 : HT.sIx z.cps.size z.cps.size none = z.cps.size := rfl
  have e3 : HT.sIx z.cps.size z.cps.size (some w) = HT.sIx z.cps.size 0 (some w) := rfl
  have e4 := HT.sIx_le z.cps.size 0 (Nat.zero_le _) (some w)
  simp only [Str.length, e1, e2, e3, List.size_toArray, List.length_take, List.length_drop, Array.length_toList]
  omega
theorem lets_one {c : Nat} (h : 97 ≤ c ∧ c ≤ 122) : Lets ⟨#[c]⟩ := fun d m => by
  have e : d = c := by simpa [tl] using m
  subst e
  exact h
theorem len_one {c : Nat} : (⟨#[c]⟩ : Str).length = 1 := rfl
theorem lets_nil : Lets Str.empty := fun c m => by simp [tl, Str.empty] at m
theorem mul_01 {z : Str} {n : Int} (h : n = 0 ∨ n = 1) : MulOk z n ∧ (Txt.mul z n = Str.empty ∨ Txt.mul z n = z) := by
  rcases h with rfl | rfl
  · exact ⟨⟨by decide, fun z => absurd (by decide) z, fun z => absurd (by decide) z⟩, .inl rfl⟩
  · exact ⟨⟨by decide, fun _ z => by simp at z, fun _ z => by simp at z⟩, .inr rfl⟩
theorem uni_alpha : ∀ c : Fin 26, Unicode.isAlpha (97 + c) = true ∧ Unicode.isLower (97 + c) = true ∧ Unicode.isUpper (97 + c) = false ∧ Unicode.isTitle (97 + c) = false := by decide +kernel
theorem uni_of {c : Nat} (h : 97 ≤ c ∧ c ≤ 122) : Unicode.isAlpha c = true ∧ Unicode.isLower c = true ∧ Unicode.isUpper c = false ∧ Unicode.isTitle c = false := by
  have := uni_alpha ⟨c - 97, by omega⟩
  have e : 97 + (c - 97) = c := by omega
  simp only [e] at this
  exact this
def nmB (z : Str) : Bool := decide (z.length ≤ 12) && (Txt.isascii z && (Txt.isalpha z && Txt.islower z))
theorem NameOk.asc {z : Str} (h : NameOk z) : Txt.isascii z = true := by
  unfold Txt.isascii
  rw [← Array.all_toList, List.all_eq_true]
  intro c m
  have := h.ls c m
  exact decide_eq_true (by omega)
theorem NameOk.alp {z : Str} (h : NameOk z) : Txt.isalpha z = true := by
  unfold Txt.isalpha
  rw [Bool.and_eq_true]
  refine ⟨decide_eq_true h.ne, ?_⟩
  rw [← Array.all_toList, List.all_eq_true]
  exact fun c m => (uni_of (h.ls c m)).1
theorem NameOk.low {z : Str} (h : NameOk z) : Txt.islower z = true := by
  unfold Txt.islower
  rw [Bool.and_eq_true, ← Array.any_toList, List.any_eq_true, Bool.not_eq_true', ← Array.any_toList, List.any_eq_false]
  have n := h.ne
  refine ⟨?_, fun c m => ?_⟩
  · have m : z.cps[0]'n ∈ z.cps.toList := by simpa using Array.getElem_mem n
    exact ⟨z.cps[0]'n, m, (uni_of (h.ls _ m)).2.1⟩
  · have u := uni_of (h.ls c m)
    rw [u.2.2.1, u.2.2.2]
    decide
theorem NameOk.nm {z : Str} (h : NameOk z) : nmB z = true := by
  unfold nmB
  rw [h.asc, h.alp, h.low, decide_eq_true h.le]
  rfl
/-! ### sorted lists of words -/
theorem tl_inj {x y : Str} (h : tl x = tl y) : x = y := by
  obtain ⟨⟨a⟩⟩ := x
  obtain ⟨⟨b⟩⟩ := y
  cases (show a = b from h)
  rfl
theorem rising_pw : ∀ (p : Str) (l : List Str), risingS p l = true → (p :: l).Pairwise fun a b => ¬ tl b < tl a
  | p, [], _ => by simp
  | p, x :: r, h => by
    have h : (!ltCps x.cps.toList p.cps.toList && risingS x r) = true := h
    rw [Bool.and_eq_true, Bool.not_eq_true', ltCps_eq] at h
    have h1 : ¬ tl x < tl p := of_decide_eq_false h.1
    have ih := rising_pw x r h.2
    refine List.pairwise_cons.mpr ⟨fun y m => ?_, ih⟩
    rcases List.mem_cons.mp m with rfl | m
    · exact h1
    · have h2 := (List.pairwise_cons.mp ih).1 y m
      exact List.not_lt.mpr (List.le_trans (List.not_lt.mp h1) (List.not_lt.mp h2))
theorem sorted_pw {l : List Str} (h : sortedS l = true) : l.Pairwise fun a b => ¬ tl b < tl a := by
  cases l with
  | nil => exact .nil
  | cons x r => exact rising_pw x r h
theorem sorted_uniq {l m : List Str} (h : sortedS l = true) (k : sortedS m = true) (p : l.Perm m) : l = m :=
  List.Perm.eq_of_pairwise (fun a b _ _ h1 h2 => tl_inj (List.le_antisymm (List.not_lt.mp h1) (List.not_lt.mp h2))) (sorted_pw h) (sorted_pw k) p
theorem nodup_len {α : Type} [DecidableEq α] : ∀ {l m : List α}, l.Nodup → (∀ x ∈ l, x ∈ m) → l.length ≤ m.length
  | [], m, _, _ => Nat.zero_le _
  | x :: l, m, h, s => by
    obtain ⟨h1, h2⟩ := List.nodup_cons.mp h
    have hx := s x List.mem_cons_self
    have ih := nodup_len (l := l) (m := m.erase x) h2 fun y hy => (List.mem_erase_of_ne (fun e => h1 (by rw [← e]; exact hy))).mpr (s y (List.mem_cons_of_mem _ hy))
    rw [List.length_erase_of_mem hx] at ih
    have : 0 < m.length := List.length_pos_of_mem hx
    rw [List.length_cons]
    omega
theorem nodup_perm {α : Type} [DecidableEq α] {l m : List α} (h : l.Nodup) (k : m.Nodup) (s : ∀ x, x ∈ l ↔ x ∈ m) : l.Perm m := by
  rw [List.perm_iff_count]
  intro a
  rw [h.count, k.count]
  simp only [s a]
/-! ### tables by names -/
/-- the names that may stand in tables -/
structure Uni (N : List Str) : Prop where
  len : N.length ≤ 60
  ok : ∀ z ∈ N, NameOk z
structure KOk (N : List Str) (kvs : List (Key × V)) : Prop where
  nd : (kvs.map (·.1)).Nodup
  mem : ∀ kv ∈ kvs, ∃ z ∈ N, kv.1 = .inr z
theorem KOk.nil {N : List Str} : KOk N [] := ⟨.nil, fun _ h => nomatch h⟩
theorem KOk.len {N : List Str} {kvs : List (Key × V)} (h : KOk N kvs) : kvs.length ≤ N.length := by
  have e := nodup_len (m := N.map (Sum.inr : Str → Key)) h.nd fun k hk => by
    obtain ⟨kv, m, rfl⟩ := List.mem_map.mp hk
    obtain ⟨z, hz, e⟩ := h.mem kv m
    rw [e]
    exact List.mem_map.mpr ⟨z, hz, rfl⟩
  rw [List.length_map, List.length_map] at e
  exact e
theorem valV_mem {kvs : List (Key × V)} {k : Key} {v : V} (h : valV kvs k = some v) : (k, v) ∈ kvs := by
  unfold valV at h
  obtain ⟨p, h1, rfl⟩ := Option.map_eq_some_iff.mp h
  have e : decide (p.1 = k) = true := List.find?_some (p := fun kv : Key × V => decide (kv.1 = k)) h1
  have e := of_decide_eq_true e
  have m := List.mem_of_find?_eq_some h1
  obtain ⟨a, b⟩ := p
  cases e
  exact m
theorem valV_none {kvs : List (Key × V)} {k : Key} : valV kvs k = none ↔ k ∉ kvs.map (·.1) := by
  unfold valV
  rw [Option.map_eq_none_iff, List.find?_eq_none]
  constructor
  · intro h m
    obtain ⟨p, hp, e⟩ := List.mem_map.mp m
    exact h p hp (decide_eq_true e)
  · intro h p hp e
    exact h (List.mem_map.mpr ⟨p, hp, of_decide_eq_true e⟩)
theorem valV_of : ∀ {kvs : List (Key × V)} {k : Key} {v : V}, (kvs.map (·.1)).Nodup → (k, v) ∈ kvs → valV kvs k = some v
  | p :: r, k, v, h, m => by
    rw [List.map_cons] at h
    obtain ⟨h1, h2⟩ := List.nodup_cons.mp h
    rcases List.mem_cons.mp m with e | m
    · subst e
      exact valV_pos rfl
    · rw [valV_neg fun e => h1 (by rw [e]; exact List.mem_map.mpr ⟨_, m, rfl⟩)]
      exact valV_of h2 m
theorem KOk.put {N : List Str} {kvs : List (Key × V)} {z : Str} (h : KOk N kvs) (hz : z ∈ N) (v : V) : KOk N (putK kvs (.inr z) v) := by
  cases e : valV kvs (.inr z) with
  | none =>
    rw [putK_new v e]
    refine ⟨?_, fun kv m => ?_⟩
    · rw [List.map_append, List.nodup_append]
      refine ⟨h.nd, by simp, fun a ha b hb => ?_⟩
      have eb : b = .inr z := by simpa using hb
      rintro rfl
      rw [eb] at ha
      exact valV_none.mp e ha
    · rcases List.mem_append.mp m with m | m
      · exact h.mem kv m
      · cases List.mem_singleton.mp m
        exact ⟨z, hz, rfl⟩
  | some u =>
    have a : (kvs.any fun kv => decide (kv.1 = .inr z)) = true := by rw [valV_any, e]; rfl
    unfold putK
    rw [if_pos a]
    have hk : (kvs.map fun kv => if kv.1 = .inr z then (kv.1, v) else kv).map (·.1) = kvs.map (·.1) := by
      rw [List.map_map]
      refine List.map_congr_left fun kv _ => ?_
      show (if kv.1 = .inr z then (kv.1, v) else kv).1 = kv.1
      split <;> rfl
    refine ⟨by rw [hk]; exact h.nd, fun kv m => ?_⟩
    obtain ⟨kv', m', rfl⟩ := List.mem_map.mp m
    obtain ⟨y, hy, e'⟩ := h.mem kv' m'
    refine ⟨y, hy, ?_⟩
    split
    · exact e'
    · exact e'
theorem KOk.at_ {N : List Str} {kvs : List (Key × V)} {k : Key} {v : V} {i : Nat} (h : KOk N kvs) (e : kvs[i]? = some (k, v)) : ∃ z ∈ N, k = .inr z ∧ valV kvs (.inr z) = some v := by
  have m := List.mem_of_getElem? e
  obtain ⟨z, hz, ez⟩ := h.mem _ m
  have ez : k = .inr z := ez
  subst ez
  exact ⟨z, hz, rfl, valV_of h.nd m⟩
/-- what stands at the names -/
structure Tab (N : List Str) (R : Str → V → Prop) (Z : Str → Prop) (kvs : List (Key × V)) : Prop where
  k : KOk N kvs
  r : ∀ z v, valV kvs (.inr z) = some v → R z v
  z : ∀ z, valV kvs (.inr z) = none → Z z
theorem Tab.mono {N : List Str} {R R' : Str → V → Prop} {Z Z' : Str → Prop} {kvs : List (Key × V)} (h : Tab N R Z kvs) (a : ∀ z v, R z v → R' z v) (b : ∀ z, Z z → Z' z) : Tab N R' Z' kvs := ⟨h.k, fun z v e => a z v (h.r z v e), fun z e => b z (h.z z e)⟩
theorem Tab.off {N : List Str} {R : Str → V → Prop} {Z : Str → Prop} {kvs : List (Key × V)} (h : Tab N R Z kvs) {z : Str} (n : z ∉ N) : Z z := h.z z (by
  rw [valV_none]
  intro m
  obtain ⟨kv, m, e⟩ := List.mem_map.mp m
  obtain ⟨y, hy, e'⟩ := h.k.mem kv m
  rw [e] at e'
  cases e'
  exact n hy)
/-- the first i names of kvs are done: the new table holds what R says, or nothing where Z holds; the others are not in it -/
structure Part (N : List Str) (R : Str → V → Prop) (Z : Str → Prop) (kvs : List (Key × V)) (i : Nat) (new : List (Key × V)) : Prop where
  k : KOk N new
  r : ∀ z v, valV new (.inr z) = some v → R z v ∧ (.inr z : Key) ∈ (kvs.take i).map (·.1)
  z : ∀ z, valV new (.inr z) = none → (.inr z : Key) ∈ (kvs.take i).map (·.1) → Z z
theorem Part.start {N : List Str} {R : Str → V → Prop} {Z : Str → Prop} {kvs : List (Key × V)} : Part N R Z kvs 0 [] := ⟨.nil, fun z v e => (by rw [valV_nil] at e; cases e), fun z _ m => (by simp at m)⟩
theorem take_mem {kvs : List (Key × V)} {k y : Key} {v : V} {i : Nat} (e : kvs[i]? = some (k, v)) : y ∈ (kvs.take (i + 1)).map (·.1) ↔ y ∈ (kvs.take i).map (·.1) ∨ y = k := by
  rw [List.take_add_one, e, List.map_append, List.mem_append]
  simp
theorem Part.mono {N : List Str} {R R' : Str → V → Prop} {Z Z' : Str → Prop} {kvs new : List (Key × V)} {i : Nat} (h : Part N R Z kvs i new) (a : ∀ z v, R z v → R' z v) (b : ∀ z, Z z → Z' z) : Part N R' Z' kvs i new :=
  ⟨h.k, fun z v e => ⟨a z v (h.r z v e).1, (h.r z v e).2⟩, fun z e m => b z (h.z z e m)⟩
theorem Part.put {N : List Str} {R : Str → V → Prop} {Z : Str → Prop} {kvs new : List (Key × V)} {i : Nat} {z : Str} {v u : V} (h : Part N R Z kvs i new) (e : kvs[i]? = some (.inr z, u)) (hz : z ∈ N) (r : R z v) : Part N R Z kvs (i + 1) (putK new (.inr z) v) := by
  refine ⟨h.k.put hz v, fun y w q => ?_, fun y q m => ?_⟩
  · rw [valV_put] at q
    rw [take_mem e]
    by_cases c : (Sum.inr y : Key) = Sum.inr z
    · rw [if_pos c] at q
      cases q
      cases c
      exact ⟨r, .inr rfl⟩
    · rw [if_neg c] at q
      obtain ⟨a, b⟩ := h.r y w q
      exact ⟨a, .inl b⟩
  · rw [valV_put] at q
    by_cases c : (Sum.inr y : Key) = Sum.inr z
    · rw [if_pos c] at q
      cases q
    · rw [if_neg c] at q
      rcases (take_mem e).mp m with m | m
      · exact h.z y q m
      · exact absurd m c
theorem Part.skip {N : List Str} {R : Str → V → Prop} {Z : Str → Prop} {kvs new : List (Key × V)} {i : Nat} {z : Str} {u : V} (h : Part N R Z kvs i new) (e : kvs[i]? = some (.inr z, u)) (n : Z z) : Part N R Z kvs (i + 1) new := by
  refine ⟨h.k, fun y w q => ?_, fun y q m => ?_⟩
  · obtain ⟨a, b⟩ := h.r y w q
    exact ⟨a, (take_mem e).mpr (.inl b)⟩
  · rcases (take_mem e).mp m with m | m
    · exact h.z y q m
    · cases m
      exact n
theorem Part.done {N : List Str} {R : Str → V → Prop} {Z : Str → Prop} {kvs new : List (Key × V)} (h : Part N R Z kvs kvs.length new) (o : ∀ z, valV kvs (.inr z) = none → Z z) : Tab N R Z new := by
  refine ⟨h.k, fun z v e => (h.r z v e).1, fun z e => ?_⟩
  cases q : valV kvs (.inr z) with
  | none => exact o z q
  | some u =>
    refine h.z z e ?_
    rw [List.take_length]
    exact List.mem_map.mpr ⟨_, valV_mem q, rfl⟩
/-! ### locks -/
theorem same_lock {H H2 : Hp} {d : Addr} {od : Obj} {u : HO} (h : H d = some u) (s : Same (upd H d (.frz od u)) H2) : Same H (upd H2 d u) := fun a o e => by
  by_cases c : a = d
  · subst c
    rw [h] at e
    cases e
    exact upd_same
  · rw [upd_ne c]
    exact s a o (by rw [upd_ne c]; exact e)
/-- over what is locked already, or with a lock of its own -/
structure LkW (p q : Prop) : Prop where
  h : p ∨ q
def tLk (t : TS) : TS := fun D σ H => LkW (tLock t D σ H) (t D σ H)
def tLkE (t : TE) : TE := fun σ H Q => LkW (tLockE t σ H Q) (t σ H Q)
theorem ps_lk {X : Cx} {st : Stmt} {t : TS} (h : PS X st t) : PS X st (tLk t) := ⟨fun pins s σ H D I q => q.h.elim (fun q => (ps_lock h).run pins s σ H D I q) fun q => h.run pins s σ H D I q⟩
theorem pe_lk {X : Cx} {e : Expr} {t : TE} (h : PE X e t) : PE X e (tLkE t) := ⟨fun pins s σ H Q I q => q.h.elim (fun q => (pe_lock h).run pins s σ H Q I q) fun q => h.run pins s σ H Q I q⟩
/-- a dict comprehension over what Walk tells of -/
theorem dc_it {J : It} {n : Nat} {G : Hp → Prop} {Y : Nat → Hp → V → Hp → Prop} (w : Walk J n G Y) {g : TG} {tt : TT} {tk tv : TE} {vs : List Nat} {σ : L2.St} {H1 : Hp} {D : Addr} {Qd : Hp → Prop} (Pv : Nat → Hp → Prop) (h0 : Pv 0 (upd H1 D (.dK []))) (hG : ∀ i H, i ≤ n → Pv i H → G H)
    (hs : ∀ i x H H', i < n → Pv i H → Y i H x H' → g x (wipe σ vs) H' fun σ2 H2 => wipe σ2 vs = wipe σ vs ∧ tt σ2 H2 fun b H3 =>
      if b = true then tk σ2 H3 fun y H4 => tv σ2 H4 fun z H5 => ∃ kvs k, y = kV k ∧ H5 D = some (.dK kvs) ∧ kvs.length < sizeLine ∧ Pv (i + 1) (upd H5 D (.dK (putK kvs k z))) else Pv (i + 1) H3) (hd : ∀ H, Pv n H → Qd H) :
    ∃ W : Nat → Nat → Hp → Prop, (∃ m, W 0 m (upd H1 D (.dK []))) ∧ ∀ i m H, W i m H →
      (J.stop i H ∧ Qd H) ∨ (J.go i H ∧ ∃ Nx : Hp → Prop, (∀ H', Nx H' → ∃ m', m' < m ∧ W (i + 1) m' H') ∧ ∀ x H', J.yld i H x H' → g x (wipe σ vs) H' fun σ2 H2 => wipe σ2 vs = wipe σ vs ∧ tt σ2 H2 fun b H3 =>
        if b = true then tk σ2 H3 fun y H4 => tv σ2 H4 fun z H5 => ∃ kvs k, y = kV k ∧ H5 D = some (.dK kvs) ∧ kvs.length < sizeLine ∧ Nx (upd H5 D (.dK (putK kvs k z))) else Nx H3) := by
  refine ⟨fun i m H => m = n - i ∧ i ≤ n ∧ Pv i H, ⟨n, by simp, Nat.zero_le _, h0⟩, ?_⟩
  rintro i m H ⟨rfl, hi, p⟩
  have q := hG i H hi p
  by_cases hlt : i < n
  · refine .inr ⟨w.goes i H hlt q, Pv (i + 1), fun H' p' => ⟨n - (i + 1), by omega, rfl, hlt, p'⟩, fun x H' y => hs i x H H' hlt p (w.yields i H x H' hlt q y)⟩
  · have e : i = n := by omega
    subst e
    exact .inl ⟨w.stops H q, hd H p⟩
/-- the same over the keys of a locked dict with names -/
theorem dc_names {d : Addr} {od : Obj} {N : List Str} {kvs : List (Key × V)} (hk : KOk N kvs) {g : TG} {tt : TT} {tk tv : TE} {vs : List Nat} {σ : L2.St} {H1 : Hp} {D : Addr} {Qd : Hp → Prop} (Pv : Nat → Hp → Prop) (h0 : Pv 0 (upd H1 D (.dK [])))
    (hG : ∀ i H, i ≤ kvs.length → Pv i H → H d = some (.frz od (.dK kvs)))
    (hs : ∀ i z v H, kvs[i]? = some (.inr z, v) → z ∈ N → valV kvs (.inr z) = some v → Pv i H → g (.str z) (wipe σ vs) H fun σ2 H2 => wipe σ2 vs = wipe σ vs ∧ tt σ2 H2 fun b H3 =>
      if b = true then tk σ2 H3 fun y H4 => tv σ2 H4 fun z H5 => ∃ kvs k, y = kV k ∧ H5 D = some (.dK kvs) ∧ kvs.length < sizeLine ∧ Pv (i + 1) (upd H5 D (.dK (putK kvs k z))) else Pv (i + 1) H3) (hd : ∀ H, Pv kvs.length H → Qd H) :
    ∃ W : Nat → Nat → Hp → Prop, (∃ m, W 0 m (upd H1 D (.dK []))) ∧ ∀ i m H, W i m H →
      ((Itk d od kvs).stop i H ∧ Qd H) ∨ ((Itk d od kvs).go i H ∧ ∃ Nx : Hp → Prop, (∀ H', Nx H' → ∃ m', m' < m ∧ W (i + 1) m' H') ∧ ∀ x H', (Itk d od kvs).yld i H x H' → g x (wipe σ vs) H' fun σ2 H2 => wipe σ2 vs = wipe σ vs ∧ tt σ2 H2 fun b H3 =>
        if b = true then tk σ2 H3 fun y H4 => tv σ2 H4 fun z H5 => ∃ kvs k, y = kV k ∧ H5 D = some (.dK kvs) ∧ kvs.length < sizeLine ∧ Nx (upd H5 D (.dK (putK kvs k z))) else Nx H3) :=
  dc_it walk_keys Pv h0 hG (fun i x H H' hi p y => by
    obtain ⟨e, k, v, hkv, ex⟩ := y
    obtain ⟨z, hz, ek, hv⟩ := hk.at_ hkv
    subst e; subst ex; subst ek
    exact hs i z v _ hkv hz hv p) hd
/-- a list comprehension over the keys of a locked dict with names -/
theorem lc_names {d : Addr} {od : Obj} {N : List Str} {kvs : List (Key × V)} (hk : KOk N kvs) {g : TG} {tt : TT} {te : TE} {vs : List Nat} {σ : L2.St} {H1 : Hp} {D : Addr} {Qd : Hp → Prop} (Pv : Nat → Hp → Prop) (h0 : Pv 0 (upd H1 D (.lst [])))
    (hG : ∀ i H, i ≤ kvs.length → Pv i H → H d = some (.frz od (.dK kvs)))
    (hs : ∀ i z v H, kvs[i]? = some (.inr z, v) → z ∈ N → valV kvs (.inr z) = some v → Pv i H → g (.str z) (wipe σ vs) H fun σ2 H2 => wipe σ2 vs = wipe σ vs ∧ tt σ2 H2 fun b H3 =>
      if b = true then te σ2 H3 fun y H4 => ∃ acc, H4 D = some (.lst acc) ∧ acc.length < sizeLine ∧ Pv (i + 1) (upd H4 D (.lst (acc ++ [y]))) else Pv (i + 1) H3) (hd : ∀ H, Pv kvs.length H → Qd H) :
    ∃ W : Nat → Nat → Hp → Prop, (∃ m, W 0 m (upd H1 D (.lst []))) ∧ ∀ i m H, W i m H →
      ((Itk d od kvs).stop i H ∧ Qd H) ∨ ((Itk d od kvs).go i H ∧ ∃ Nx : Hp → Prop, (∀ H', Nx H' → ∃ m', m' < m ∧ W (i + 1) m' H') ∧ ∀ x H', (Itk d od kvs).yld i H x H' → g x (wipe σ vs) H' fun σ2 H2 => wipe σ2 vs = wipe σ vs ∧ tt σ2 H2 fun b H3 =>
        if b = true then te σ2 H3 fun y H4 => ∃ acc, H4 D = some (.lst acc) ∧ acc.length < sizeLine ∧ Nx (upd H4 D (.lst (acc ++ [y]))) else Nx H3) :=
  lc_it walk_keys Pv h0 hG (fun i x H H' hi p y => by
    obtain ⟨e, k, v, hkv, ex⟩ := y
    obtain ⟨z, hz, ek, hv⟩ := hk.at_ hkv
    subst e; subst ex; subst ek
    exact hs i z v _ hkv hz hv p) hd
/-- a for over the keys of a locked dict with names -/
theorem for_names {d : Addr} {od : Obj} {N : List Str} {kvs : List (Key × V)} (hk : KOk N kvs) {g : TG} {tb : TS} {D : Ends} {σ : L2.St} {H : Hp} (Pv : Nat → L2.St → Hp → Prop) (h0 : Pv 0 σ H) (hG : ∀ i σ H, i ≤ kvs.length → Pv i σ H → H d = some (.frz od (.dK kvs)))
    (hs : ∀ i z v σ H, kvs[i]? = some (.inr z, v) → z ∈ N → valV kvs (.inr z) = some v → Pv i σ H → g (.str z) σ H fun σ2 H2 => tb { D with nx := Pv (i + 1), ct := Pv (i + 1), bk := D.nx } σ2 H2) (hd : ∀ σ H, Pv kvs.length σ H → D.nx σ H) :
    ∃ W : Nat → Nat → L2.St → Hp → Prop, (∃ m, W 0 m σ H) ∧ ∀ i m σ H, W i m σ H →
      ((Itk d od kvs).stop i H ∧ D.nx σ H) ∨ ((Itk d od kvs).go i H ∧ ∃ N : L2.St → Hp → Prop, (∀ σ' H', N σ' H' → ∃ m', m' < m ∧ W (i + 1) m' σ' H') ∧ ∀ x H', (Itk d od kvs).yld i H x H' → g x σ H' fun σ2 H2 => tb { D with nx := N, ct := N, bk := D.nx } σ2 H2) :=
  for_it walk_keys Pv h0 hG (fun i x σ H H' hi p y => by
    obtain ⟨e, k, v, hkv, ex⟩ := y
    obtain ⟨z, hz, ek, hv⟩ := hk.at_ hkv
    subst e; subst ex; subst ek
    exact hs i z v σ _ hkv hz hv p) hd
/-! ### forms -/
abbrev Fm := Str → Int × Int
def RedF (f : Fm) : Prop := ∀ z, Red (f z).1 (f z).2
def SzF (n : Nat) (f : Fm) : Prop := ∀ z, Sz n (f z).1 ∧ Sz n (f z).2
theorem SzF.mono {n m : Nat} {f : Fm} (h : SzF n f) (l : n ≤ m := by decide) : SzF m f := fun z => ⟨(h z).1.mono l, (h z).2.mono l⟩
def ShR (ca : Nat → Addr) (f : Fm) (H : Hp) : Str → V → Prop := fun z v => ∃ q, v = .ref q ∧ RatAt ca H q (f z).1 (f z).2 ∧ (f z).1 ≠ 0
def ShZ (f : Fm) : Str → Prop := fun z => f z = (0, 1)
/-- the dict of a form's shares -/
def FormSh (ca : Nat → Addr) (H : Hp) (d : Addr) (N : List Str) (f : Fm) : Prop := ∃ kvs, H d = some (.dK kvs) ∧ Tab N (ShR ca f H) (ShZ f) kvs
def FormAt (ca : Nat → Addr) (H : Hp) (p : Addr) (N : List Str) (f : Fm) : Prop := ∃ dx d, H p = some (.ins (ca 3) dx [("_shares", .ref d)]) ∧ FormSh ca H d N f
theorem ShR.same {ca : Nat → Addr} {f : Fm} {H H' : Hp} (s : Same H H') {z : Str} {v : V} (h : ShR ca f H z v) : ShR ca f H' z v := by
  obtain ⟨q, e, r, n⟩ := h
  exact ⟨q, e, r.same s, n⟩
theorem RatAt.keep {ca : Nat → Addr} {H H' : Hp} {p c : Addr} {a b : Int} {u : HO} (h : RatAt ca H p a b) (e : H c = some u) (n : ∀ C dx fs, u ≠ .ins C dx fs) (k : Keep c H H') : RatAt ca H' p a b :=
  ⟨h.1, let ⟨dx, q⟩ := h.2; ⟨dx, k _ _ q (ne_of q e fun z => n _ _ _ z.symm)⟩⟩
theorem ShR.keep {ca : Nat → Addr} {f : Fm} {H H' : Hp} {c : Addr} {u : HO} (e : H c = some u) (n : ∀ C dx fs, u ≠ .ins C dx fs) (k : Keep c H H') {z : Str} {v : V} (h : ShR ca f H z v) : ShR ca f H' z v := by
  obtain ⟨q, e1, r, m⟩ := h
  exact ⟨q, e1, r.keep e n k, m⟩
theorem FormSh.same {ca : Nat → Addr} {H H' : Hp} {d : Addr} {N : List Str} {f : Fm} (h : FormSh ca H d N f) (s : Same H H') : FormSh ca H' d N f := by
  obtain ⟨kvs, e, t⟩ := h
  exact ⟨kvs, s _ _ e, t.mono (fun _ _ => ShR.same s) fun _ z => z⟩
theorem FormAt.same {ca : Nat → Addr} {H H' : Hp} {p : Addr} {N : List Str} {f : Fm} (h : FormAt ca H p N f) (s : Same H H') : FormAt ca H' p N f := by
  obtain ⟨dx, d, e, t⟩ := h
  exact ⟨dx, d, s _ _ e, t.same s⟩
theorem FormAt.put {ca : Nat → Addr} {H H' : Hp} {p c : Addr} {N : List Str} {f : Fm} {xs : List V} (h : FormAt ca H p N f) (e : H c = some (.lst xs)) (k : Keep c H H') : FormAt ca H' p N f := by
  obtain ⟨dx, d, e1, kvs, e2, t⟩ := h
  exact ⟨dx, d, k _ _ e1 (ne_of e1 e fun z => nomatch z), kvs, k _ _ e2 (ne_of e2 e fun z => nomatch z), t.mono (fun _ _ => ShR.keep e (fun _ _ _ z => nomatch z) k) fun _ z => z⟩
theorem red01 : Red 0 1 := ⟨by decide, by decide⟩
theorem FormSh.red {ca : Nat → Addr} {H : Hp} {d : Addr} {N : List Str} {f : Fm} (h : FormSh ca H d N f) : RedF f := fun z => by
  obtain ⟨kvs, _, t⟩ := h
  cases e : valV kvs (.inr z) with
  | none =>
    rw [show f z = (0, 1) from t.z z e]
    exact red01
  | some v =>
    obtain ⟨q, _, r, _⟩ := t.r z v e
    exact r.1
theorem FormAt.red {ca : Nat → Addr} {H : Hp} {p : Addr} {N : List Str} {f : Fm} (h : FormAt ca H p N f) : RedF f := by
  obtain ⟨_, _, _, t⟩ := h
  exact t.red
theorem FormAt.off {ca : Nat → Addr} {H : Hp} {p : Addr} {N : List Str} {f : Fm} (h : FormAt ca H p N f) {z : Str} (n : z ∉ N) : f z = (0, 1) := by
  obtain ⟨_, _, _, kvs, _, t⟩ := h
  exact t.off n
theorem RatAt.q {ca : Nat → Addr} {H : Hp} {p : Addr} {a b : Int} (h : RatAt ca H p a b) : RatQ ca H p a b := ⟨by have := h.1.pos; omega, by rw [nrm_id h.1]; exact h⟩
/-- sums, and products with c / d -/
def addP (x y : Int × Int) : Int × Int := nrm (x.1 * y.2 + y.1 * x.2) (x.2 * y.2)
def mulP (x y : Int × Int) : Int × Int := nrm (x.1 * y.1) (x.2 * y.2)
/-- numbers handed to a form -/
def NumR (ca : Nat → Addr) (f : Fm) (H : Hp) : Str → V → Prop := fun z v => NumV ca H v (f z).1 (f z).2
theorem NumR.same {ca : Nat → Addr} {f : Fm} {H H' : Hp} (s : Same H H') {z : Str} {v : V} (h : NumR ca f H z v) : NumR ca f H' z v := NumV.same h s
theorem dget {H : Hp} {d : Addr} {kvs : List (Key × V)} {z : Str} {v : V} (e : Rd H d (.dK kvs)) (h : valV kvs (.inr z) = some v) : DGet H d (.str z) (some v) := .inl ⟨kvs, .inr z, e, rfl, h.symm⟩
/-- what a form's dict is, while it is built over the keys of kvs -/
def Build (ca : Nat → Addr) (N : List Str) (f : Fm) (Z : Str → Prop) (R : Str → V → Hp → Prop) (H0 : Hp) (D : Addr) (kvs : List (Key × V)) (i : Nat) (H : Hp) : Prop :=
  Same H0 H ∧ ∃ new, H D = some (.dK new) ∧ Part N (fun z v => R z v H) Z kvs i new
theorem NumV.keep {ca : Nat → Addr} {H H' : Hp} {x : V} {c : Addr} {a b : Int} {u : HO} (h : NumV ca H x a b) (e : H c = some u) (n : ∀ C dx fs, u ≠ .ins C dx fs) (k : Keep c H H') : NumV ca H' x a b := h.imp id fun ⟨p, q, r⟩ => ⟨p, q, r.keep e n k⟩
theorem nd {kvs : List (Key × V)} : ∀ C dx fs, HO.dK kvs ≠ .ins C dx fs := fun _ _ _ z => nomatch z
theorem nf {o : Obj} {u : HO} : ∀ C dx fs, HO.frz o u ≠ .ins C dx fs := fun _ _ _ z => nomatch z
theorem KOk.line {N : List Str} {kvs : List (Key × V)} (h : KOk N kvs) (u : Uni N) : kvs.length < sizeLine := by
  have := h.len
  have := u.len
  rw [sizeLine_eq]
  omega
theorem Red.zero {t b : Int} (h : Red t b) (e : t = 0) : b = 1 := by
  subst e
  have c := h.cop
  have p := h.pos
  simp only [Int.natAbs_zero, Nat.gcd_zero_left] at c
  omega
theorem RatAt.keepN {ca : Nat → Addr} {H H' : Hp} {p c C dx : Addr} {a b : Int} (h : RatAt ca H p a b) (e : H c = some (.ins C dx [])) (k : Keep c H H') : RatAt ca H' p a b :=
  ⟨h.1, let ⟨dy, q⟩ := h.2; ⟨dy, k _ _ q (ne_of q e fun z => by injection z with _ _ h; cases h)⟩⟩
theorem ShR.keepN {ca : Nat → Addr} {f : Fm} {H H' : Hp} {c C dx : Addr} (e : H c = some (.ins C dx [])) (k : Keep c H H') {z : Str} {v : V} (h : ShR ca f H z v) : ShR ca f H' z v := by
  obtain ⟨q, e1, r, m⟩ := h
  exact ⟨q, e1, r.keepN e k, m⟩
theorem KOk.names {N : List Str} {kvs : List (Key × V)} (h : KOk N kvs) : ∃ ks : List Str, kvs.map (·.1) = ks.map Sum.inr ∧ ks.Nodup ∧ (∀ z, z ∈ ks ↔ ∃ v, valV kvs (.inr z) = some v) ∧ ks.length = kvs.length := by
  have all : ∀ l : List (Key × V), (∀ kv ∈ l, ∃ z ∈ N, kv.1 = .inr z) → ∃ ks : List Str, l.map (·.1) = ks.map Sum.inr := by
    intro l
    induction l with
    | nil => exact fun _ => ⟨[], rfl⟩
    | cons a l ih =>
      intro hm
      obtain ⟨z, _, e⟩ := hm a List.mem_cons_self
      obtain ⟨ks, e2⟩ := ih fun kv m => hm kv (List.mem_cons_of_mem _ m)
      exact ⟨z :: ks, by rw [List.map_cons, List.map_cons, e, e2]⟩
  obtain ⟨ks, e⟩ := all kvs h.mem
  have n := h.nd
  rw [e] at n
  refine ⟨ks, e, ?_, fun z => ?_, by have := congrArg List.length e; rw [List.length_map, List.length_map] at this; exact this.symm⟩
  · exact List.Pairwise.of_map Sum.inr (fun a b hab e => hab (by rw [e])) n
  · have m : z ∈ ks ↔ (Sum.inr z : Key) ∈ kvs.map (·.1) := by
      rw [e, List.mem_map]
      exact ⟨fun m => ⟨z, m, rfl⟩, fun ⟨y, m, q⟩ => by cases q; exact m⟩
    rw [m]
    cases q : valV kvs (.inr z) with
    | none => exact ⟨fun m => absurd m (valV_none.mp q), fun ⟨v, r⟩ => nomatch r⟩
    | some v => exact ⟨fun _ => ⟨v, rfl⟩, fun _ => List.mem_map.mpr ⟨_, valV_mem q, rfl⟩⟩
theorem Tab.put {N : List Str} {R : Str → V → Prop} {Z : Str → Prop} {kvs : List (Key × V)} {z : Str} {v : V} (h : Tab N R Z kvs) (hz : z ∈ N) (r : R z v) : Tab N R Z (putK kvs (.inr z) v) := by
  refine ⟨h.k.put hz v, fun y w q => ?_, fun y q => ?_⟩
  · rw [valV_put] at q
    by_cases c : (Sum.inr y : Key) = Sum.inr z
    · rw [if_pos c] at q
      cases q
      cases c
      exact r
    · rw [if_neg c] at q
      exact h.r y w q
  · rw [valV_put] at q
    by_cases c : (Sum.inr y : Key) = Sum.inr z
    · rw [if_pos c] at q
      cases q
    · rw [if_neg c] at q
      exact h.z y q
/-- .. where at z something else is told from then on -/
theorem Tab.set {N : List Str} {R R' : Str → V → Prop} {Z Z' : Str → Prop} {kvs : List (Key × V)} {z : Str} {v : V} (h : Tab N R Z kvs) (hz : z ∈ N) (r : R' z v) (a : ∀ y u, y ≠ z → R y u → R' y u) (b : ∀ y, y ≠ z → Z y → Z' y) : Tab N R' Z' (putK kvs (.inr z) v) := by
  refine ⟨h.k.put hz v, fun y w q => ?_, fun y q => ?_⟩
  · rw [valV_put] at q
    by_cases c : (Sum.inr y : Key) = Sum.inr z
    · rw [if_pos c] at q
      cases q
      cases c
      exact r
    · rw [if_neg c] at q
      exact a y w (fun e => c (by rw [e])) (h.r y w q)
  · rw [valV_put] at q
    by_cases c : (Sum.inr y : Key) = Sum.inr z
    · rw [if_pos c] at q
      cases q
    · rw [if_neg c] at q
      exact b y (fun e => c (by rw [e])) (h.z y q)
theorem Tab.nil {N : List Str} {R : Str → V → Prop} {Z : Str → Prop} (h : ∀ z, Z z) : Tab N R Z [] := ⟨.nil, fun z v e => (by rw [valV_nil] at e; cases e), fun z _ => h z⟩
theorem FormSh.mem {ca : Nat → Addr} {H : Hp} {N : List Str} {f : Fm} {kvs : List (Key × V)} (t : Tab N (ShR ca f H) (ShZ f) kvs) (z : Str) : (∃ v, valV kvs (.inr z) = some v) ↔ (f z).1 ≠ 0 := by
  cases q : valV kvs (.inr z) with
  | none => exact ⟨fun ⟨v, r⟩ => (nomatch r), fun n => absurd (by rw [show f z = (0, 1) from t.z z q]) n⟩
  | some v =>
    obtain ⟨_, _, _, n⟩ := t.r z v q
    exact ⟨fun _ => n, fun _ => ⟨v, rfl⟩⟩
/-- the form of one name -/
def oneF (z : Str) : Fm := fun y => if y = z then (1, 1) else (0, 1)
theorem addP_zero {x : Int × Int} (h : Red x.1 x.2) : addP x (0, 1) = x := by
  unfold addP
  rw [Int.mul_one, Int.zero_mul, Int.add_zero, Int.mul_one, nrm_id h]
theorem oneF_self {z : Str} : oneF z z = (1, 1) := if_pos rfl
theorem oneF_ne {z y : Str} (h : y ≠ z) : oneF z y = (0, 1) := if_neg h
theorem FormAt.ins {ca : Nat → Addr} {H : Hp} {p : Addr} {N : List Str} {f : Fm} (h : FormAt ca H p N f) : ∃ dx d, H p = some (.ins (ca 3) dx [("_shares", .ref d)]) := let ⟨dx, d, e, _⟩ := h; ⟨dx, d, e⟩
/-- a form and a form beside an operator of theirs -/
theorem fOwn2_of {ca : Nat → Addr} {H : Hp} {p q : Addr} {N N' : List Str} {f g : Fm} {sp : Sp} {E : XK} {Q : VK} (h : FormAt ca H p N f) (h2 : FormAt ca H q N' g) (k : sp [.ref p, .ref q] H Q E) : rOwn (ca 3) sp E (.ref p) (.ref q) H Q := by
  obtain ⟨dx, d, e⟩ := h.ins
  obtain ⟨dy, d2, e2⟩ := h2.ins
  exact ⟨p, dx, _, rfl, e, .inr ⟨q, dy, _, rfl, e2⟩, k⟩
/-- a form and an int -/
theorem fOwn_of {ca : Nat → Addr} {H : Hp} {p : Addr} {x : V} {N : List Str} {f : Fm} {sp : Sp} {E : XK} {Q : VK} (h : FormAt ca H p N f) (hx : ∃ i, x = .int i) (k : sp [.ref p, x] H Q E) : rOwn (ca 3) sp E (.ref p) x H Q := by
  obtain ⟨dx, d, e⟩ := h.ins
  exact ⟨p, dx, _, rfl, e, .inl hx, k⟩
theorem fRefl_of {ca : Nat → Addr} {H : Hp} {p : Addr} {i : Int} {N : List Str} {f : Fm} {sp : Sp} {E : XK} {Q : VK} (h : FormAt ca H p N f) (k : sp [.ref p, .int i] H Q E) : rRefl (ca 3) sp E (.int i) (.ref p) H Q := by
  obtain ⟨dx, d, e⟩ := h.ins
  exact ⟨i, p, dx, _, rfl, rfl, e, k⟩
theorem fUna_of {ca : Nat → Addr} {H : Hp} {p : Addr} {N : List Str} {f : Fm} {sp : Sp} {E : XK} {Q : VK} (h : FormAt ca H p N f) (k : sp [.ref p] H Q E) : rUna (ca 3) sp E (.ref p) H Q := by
  obtain ⟨dx, d, e⟩ := h.ins
  exact ⟨p, dx, _, rfl, e, k⟩
theorem nrm_0 {d : Int} (h : d ≠ 0) : nrm 0 d = (0, 1) := by
  rw [nrm_same h (show (1 : Int) ≠ 0 by decide) (show (0 : Int) * 1 = 0 * d by rw [Int.zero_mul, Int.zero_mul]), nrm_id red01]
theorem mulP_0 {c d : Int} (h : d ≠ 0) : mulP (0, 1) (c, d) = (0, 1) := by
  unfold mulP
  rw [Int.zero_mul, Int.one_mul, nrm_0 h]
theorem RatQ.keep {ca : Nat → Addr} {H H' : Hp} {p c : Addr} {a b : Int} {u : HO} (h : RatQ ca H p a b) (e : H c = some u) (n : ∀ C dx fs, u ≠ .ins C dx fs) (k : Keep c H H') : RatQ ca H' p a b := ⟨h.ne, h.at_.keep e n k⟩
theorem NumQ.keep {ca : Nat → Addr} {H H' : Hp} {x : V} {c : Addr} {a b : Int} {u : HO} (h : NumQ ca H x a b) (e : H c = some u) (n : ∀ C dx fs, u ≠ .ins C dx fs) (k : Keep c H H') : NumQ ca H' x a b := h.imp id fun ⟨p, q, r⟩ => ⟨p, q, r.keep e n k⟩
theorem NumQ.own {ca : Nat → Addr} {H : Hp} {x : V} {a b : Int} (h : NumQ ca H x a b) : (∃ i, x = .int i) ∨ (∃ b dy gs, x = .ref b ∧ H b = some (.ins (ca 3) dy gs)) ∨ ∃ b dy gs, x = .ref b ∧ H b = some (.ins (ca 2) dy gs) := by
  rcases h with ⟨e, _⟩ | ⟨p, e, r⟩
  · exact .inl ⟨_, e⟩
  · obtain ⟨dx, q⟩ := r.ins
    exact .inr (.inr ⟨p, dx, _, e, q⟩)
theorem fOwnN_of {ca : Nat → Addr} {H : Hp} {p : Addr} {x : V} {N : List Str} {f : Fm} {a b : Int} {sp : Sp} {E : XK} {Q : VK} (h : FormAt ca H p N f) (hx : NumQ ca H x a b) (k : sp [.ref p, x] H Q E) : rOwnN (ca 3) (ca 2) sp E (.ref p) x H Q := by
  obtain ⟨dx, d, e⟩ := h.ins
  exact ⟨p, dx, _, rfl, e, hx.own, k⟩
theorem mulP_neg {y : Int × Int} (h : Red y.1 y.2) : mulP y (-1, 1) = (-y.1, y.2) := by
  have n : y.2 ≠ 0 := by have := h.pos; omega
  unfold mulP
  show nrm (y.1 * -1) (y.2 * 1) = _
  rw [Int.mul_one, Int.mul_neg, Int.mul_one, nrm_neg n, nrm_id h]
theorem sub_0 {x y : Int × Int} (h : Red x.1 x.2) (k : Red y.1 y.2) : (addP x (mulP y (-1, 1))).1 = 0 ↔ x = y := by
  have n1 : x.2 ≠ 0 := by have := h.pos; omega
  have n2 : y.2 ≠ 0 := by have := k.pos; omega
  rw [mulP_neg k]
  unfold addP
  rw [nrm_zero (Int.mul_ne_zero n1 n2)]
  show x.1 * y.2 + -y.1 * x.2 = 0 ↔ x = y
  rw [Int.neg_mul]
  constructor
  · intro e
    obtain ⟨a, b⟩ := h.uniq k (show x.1 * y.2 = y.1 * x.2 by omega)
    exact Prod.ext a b
  · rintro rfl
    omega
/-! ### drawn words -/
theorem joinL_nil : ∀ ps : List (List Nat), TL.joinL [] ps = ps.flatten
  | [] => rfl
  | [p] => by simp [TL.joinL]
  | p :: q :: r => by
    show p ++ ([] ++ TL.joinL [] (q :: r)) = _
    rw [List.nil_append, joinL_nil (q :: r), List.flatten_cons (l := p)]
def Sign (z : Str) : Prop := ∃ c, (97 ≤ c ∧ c ≤ 122) ∧ z = ⟨#[c]⟩
theorem Sign.lets {z : Str} (h : Sign z) : Lets z := by
  obtain ⟨c, hc, rfl⟩ := h
  exact lets_one hc
theorem Sign.len {z : Str} (h : Sign z) : z.length = 1 := by
  obtain ⟨c, hc, rfl⟩ := h
  rfl
theorem tl_len {z : Str} : (tl z).length = z.length := by
  unfold tl Str.length
  rw [Array.length_toList]
theorem join_signs {zs : List Str} (h : ∀ z ∈ zs, Sign z) : Lets (Txt.join Str.empty zs) ∧ (Txt.join Str.empty zs).length = zs.length := by
  have e : tl (Txt.join Str.empty zs) = (zs.map tl).flatten := by
    rw [TL.join_eq, TL.tl_join]
    exact joinL_nil _
  constructor
  · intro c m
    rw [e] at m
    obtain ⟨l, hl, hc⟩ := List.mem_flatten.mp m
    obtain ⟨z, hz, rfl⟩ := List.mem_map.mp hl
    exact (h z hz).lets c hc
  · rw [← tl_len, e]
    clear e
    induction zs with
    | nil => rfl
    | cons z zs ih =>
      rw [List.map_cons, List.flatten_cons, List.length_append, ih fun y m => h y (List.mem_cons_of_mem _ m), tl_len, (h z List.mem_cons_self).len, List.length_cons]
      omega
theorem abc_all : (Str.ofString "abcdefghijklmnopqrstuvwxyz").length = 26 ∧ ∀ d : Fin 26, (Str.ofString "abcdefghijklmnopqrstuvwxyz").cps[d.val]? = some (97 + d.val) := by decide +kernel
/-- one of the letters -/
theorem abc_at {d : Int} (h0 : 0 ≤ d) (h1 : d < 26) : (Str.ofString "abcdefghijklmnopqrstuvwxyz").cps[d.toNat]? = some (97 + d.toNat) := abc_all.2 ⟨d.toNat, by omega⟩
theorem sign_abc {d : Int} (h1 : d < 26) : Sign ⟨#[97 + d.toNat]⟩ := ⟨_, by omega, rfl⟩
theorem rIxS_abc {d : Int} {H : Hp} {Q : VK} (h0 : 0 ≤ d) (h1 : d < 26) (k : Q (.str ⟨#[97 + d.toNat]⟩) H) : rIxS (.str (Str.ofString "abcdefghijklmnopqrstuvwxyz")) (.int d) H Q := by
  obtain ⟨n, rfl⟩ := Int.eq_ofNat_of_zero_le h0
  have e : (Str.ofString "abcdefghijklmnopqrstuvwxyz").cps.toList[n]? = some (97 + n) := by
    rw [Array.getElem?_toList]
    exact abc_at h0 h1
  exact ⟨_, _, _, rfl, rfl, line_le (by rw [abc_all.1]; decide), atI_nat e, k⟩
theorem keep_new {b D : Addr} {H H' : Hp} {o : HO} (k : Keep b H H') (n : H D = none) : Keep b H (upd H' D o) := fun a u e m => by
  rw [upd_ne (ne_of_none e n)]
  exact k a u e m
theorem size_line {n : Nat} (h : n < 10000) : n < sizeLine := Nat.lt_of_lt_of_le h (line_le (by decide))
theorem size_le {n : Nat} (h : n < 10000) : n ≤ sizeLine := Nat.le_of_lt (size_line h)
theorem strs_snoc {acc : List Str} {z : Str} : acc.map V.str ++ [V.str z] = (acc ++ [z]).map V.str := by simp
theorem keep_free {b p : Addr} {H H' : Hp} (k : Keep b H H') (n : H' p = none) (m : p ≠ b) : H p = none := by
  cases e : H p with
  | none => rfl
  | some o =>
    rw [k p o e m] at n
    cases n
theorem keep_put {b p : Addr} {H H1 H2 : Hp} (k : Keep b H H1) (k2 : Keep p H1 H2) (n : H p = none) : Keep b H H2 := fun a o e m => k2 a o (k a o e m) (ne_of_none e n)
/-- a text once or not at all -/
theorem op_mulS1 {X : Cx} : OpR X (binaryOp .Mult) (fun x y H Q => ∃ z n, x = .str z ∧ y = .int n ∧ (n = 0 ∨ n = 1) ∧ ∀ w, (w = Str.empty ∨ w = z) → Q (.str w) H) := by
  intro pins s σ H x y v u Q I rx ry h
  obtain ⟨z, n, rfl, rfl, hn, q⟩ := h
  obtain ⟨m1, m2⟩ := mul_01 (z := z) hn
  exact op_mulS pins s σ H _ _ v u Q I rx ry ⟨z, n, rfl, rfl, m1, q _ m2⟩
/-! ### the law's tables -/
def TupF (f : Fm) (H : Hp) : Str → V → Prop := fun z v => ∃ t, v = .ref t ∧ H t = some (.tup [.int (f z).1, .int (f z).2])
/-- a dict with a pair for each name -/
def TabAt (H : Hp) (d : Addr) (N : List Str) (f : Fm) : Prop := ∃ kvs, H d = some (.dK kvs) ∧ Tab N (TupF f H) (ShZ f) kvs
theorem TupF.same {f : Fm} {H H' : Hp} (s : Same H H') {z : Str} {v : V} (h : TupF f H z v) : TupF f H' z v := let ⟨t, e, q⟩ := h; ⟨t, e, s _ _ q⟩
theorem TupF.keep {f : Fm} {H H' : Hp} {c : Addr} {u : HO} (e : H c = some u) (n : ∀ xs, u ≠ .tup xs) (k : Keep c H H') {z : Str} {v : V} (h : TupF f H z v) : TupF f H' z v := let ⟨t, e1, q⟩ := h; ⟨t, e1, k _ _ q (ne_of q e fun z => n _ z.symm)⟩
theorem TabAt.same {H H' : Hp} {d : Addr} {N : List Str} {f : Fm} (h : TabAt H d N f) (s : Same H H') : TabAt H' d N f := let ⟨kvs, e, t⟩ := h; ⟨kvs, s _ _ e, t.mono (fun _ _ => TupF.same s) fun _ z => z⟩
theorem TabAt.put {H H' : Hp} {d c : Addr} {N : List Str} {f : Fm} {xs : List V} (h : TabAt H d N f) (e : H c = some (.lst xs)) (k : Keep c H H') : TabAt H' d N f :=
  let ⟨kvs, e1, t⟩ := h; ⟨kvs, k _ _ e1 (ne_of e1 e fun z => nomatch z), t.mono (fun _ _ => TupF.keep e (fun _ z => nomatch z) k) fun _ z => z⟩
theorem TabAt.off {H : Hp} {d : Addr} {N : List Str} {f : Fm} (h : TabAt H d N f) {z : Str} (n : z ∉ N) : f z = (0, 1) := let ⟨_, _, t⟩ := h; t.off n
theorem ndt {kvs : List (Key × V)} : ∀ xs, HO.dK kvs ≠ .tup xs := fun _ z => nomatch z
theorem nft {o : Obj} {u : HO} : ∀ xs, HO.frz o u ≠ .tup xs := fun _ z => nomatch z
def setF (f : Fm) (z : Str) (x : Int × Int) : Fm := fun y => if y = z then x else f y
theorem setF_self {f : Fm} {z : Str} {x : Int × Int} : setF f z x z = x := if_pos rfl
theorem setF_ne {f : Fm} {z y : Str} {x : Int × Int} (h : y ≠ z) : setF f z x y = f y := if_neg h
theorem setF_red {f : Fm} {z : Str} {x : Int × Int} (h : RedF f) (k : Red x.1 x.2) : RedF (setF f z x) := fun y => by
  unfold setF
  split
  · exact k
  · exact h y
theorem setF_sz {n : Nat} {f : Fm} {z : Str} {x : Int × Int} (h : SzF n f) (k : Sz n x.1 ∧ Sz n x.2) : SzF n (setF f z x) := fun y => by
  unfold setF
  split
  · exact k
  · exact h y
theorem zeroF_sz {n : Nat} (l : 1 ≤ n := by decide) : SzF n fun _ => (0, 1) := fun _ => ⟨Sz.zero.mono l, Sz.one.mono l⟩
theorem Tab.setT {N : List Str} {f : Fm} {H : Hp} {d p : Addr} {kvs : List (Key × V)} {y : Str} {x : Int × Int} (t : Tab N (TupF f H) (ShZ f) kvs) (hd : H d = some (.dK kvs)) (hy : y ∈ N) (hp : H p = some (.tup [.int x.1, .int x.2])) :
    TabAt (upd H d (.dK (putK kvs (.inr y) (.ref p)))) d N (setF f y x) := by
  refine ⟨_, upd_same, t.set hy ?_ (fun z u c r => ?_) fun z c n => ?_⟩
  · refine ⟨p, rfl, ?_⟩
    rw [setF_self, upd_ne (ne_of hp hd fun z => nomatch z)]
    exact hp
  · obtain ⟨q, e, h⟩ := TupF.keep hd ndt keep_upd r
    exact ⟨q, e, by rw [setF_ne c]; exact h⟩
  · show setF f y x z = (0, 1)
    rw [setF_ne c]
    exact n
theorem Part.again {N : List Str} {R : Str → V → Prop} {Z : Str → Prop} {kvs new : List (Key × V)} {i : Nat} {z : Str} {v : V} (h : Part N R Z kvs i new) (m : (Sum.inr z : Key) ∈ (kvs.take i).map (·.1)) (hz : z ∈ N) (r : R z v) : Part N R Z kvs i (putK new (.inr z) v) := by
  refine ⟨h.k.put hz v, fun y w q => ?_, fun y q m => ?_⟩
  · rw [valV_put] at q
    by_cases c : (Sum.inr y : Key) = Sum.inr z
    · rw [if_pos c] at q
      cases q
      cases c
      exact ⟨r, m⟩
    · rw [if_neg c] at q
      exact h.r y w q
  · rw [valV_put] at q
    by_cases c : (Sum.inr y : Key) = Sum.inr z
    · rw [if_pos c] at q
      cases q
    · rw [if_neg c] at q
      exact h.z y q m
theorem keep_lock {H H2 : Hp} {b d : Addr} {od : Obj} {u : HO} (h : H d = some u) (s : Keep b (upd H d (.frz od u)) H2) : Keep b H (upd H2 d u) := fun a o e n => by
  by_cases c : a = d
  · subst c
    rw [h] at e
    cases e
    exact upd_same
  · rw [upd_ne c]
    exact s a o (by rw [upd_ne c]; exact e) n
theorem same_updL {H H1 : Hp} {d : Addr} {o : HO} (s : Same H H1) : Same (upd H d o) (upd H1 d o) := fun a u e => by
  by_cases c : a = d
  · subst c
    rw [upd_same] at e ⊢
    exact e
  · rw [upd_ne c] at e ⊢
    exact s a u e
theorem Bag.ned {H : Hp} {L b d : Addr} {kvs : List (Key × V)} (h : Bag H L b) (e : H d = Option.some (.dK kvs)) : d ≠ b ∧ d ≠ L := by
  obtain ⟨ns, i, big, mix, cnt, h1, h2, h3⟩ := h
  exact ⟨ne_of e h1 fun z => (nomatch z), ne_of e h2 fun z => nomatch z⟩
/-! ### lists of words compared -/
theorem strs_lay : ∀ {zs : List Str}, (∀ z ∈ zs, Lets z) → PyData.canLayAll0 (zs.map PyData.str) = true ∧ PyData.depthAll (zs.map PyData.str) = 0
  | [], _ => ⟨rfl, rfl⟩
  | z :: zs, h => by
    obtain ⟨a, b⟩ := strs_lay (zs := zs) fun y m => h y (List.mem_cons_of_mem _ m)
    have hz := h z List.mem_cons_self
    constructor
    · show (PyData.strOk z && PyData.canLayAll0 (zs.map PyData.str)) = true
      rw [a, Bool.and_true]
      show z.cps.all (· < 0x110000) = true
      rw [← Array.all_toList, List.all_eq_true]
      intro c m
      have := hz c m
      exact decide_eq_true (by omega)
    · show max 0 (PyData.depthAll (zs.map PyData.str)) = 0
      rw [b]
      rfl
theorem strs_dp {K : PySem.W.Frag} {H : Hp} : ∀ {zs : List Str}, DpAll K H (zs.map V.str) (zs.map PyData.str)
  | [] => .nil
  | z :: zs => .cons (.str z) strs_dp
theorem neS {K : PySem.W.Frag} {H : Hp} {p q : Addr} {zs : List Str} {Q : VK} (hp : H p = some (.lst (zs.map V.str))) (hq : H q = some (.lst (zs.map V.str))) (h : ∀ z ∈ zs, Lets z) (k : Q (.bl false) H) : rNeD K (.ref p) (.ref q) H Q := by
  obtain ⟨a, b⟩ := strs_lay h
  have c : (PyData.list (zs.map .str)).canLay0 = true := a
  have s : SeqAt.shaped (PyData.list (zs.map .str)) = true := by
    unfold SeqAt.shaped
    rw [c, Bool.true_and]
    refine decide_eq_true ?_
    show PyData.depthAll (zs.map .str) + 1 ≤ 64
    rw [b]
    decide
  refine ⟨_, _, .lst (SqL.of hp) strs_dp, .lst (SqL.of hq) strs_dp, s, s, ?_⟩
  rw [SeqAt.eqv_refl _ c]
  exact k
theorem eqS {K : PySem.W.Frag} {H : Hp} {p q : Addr} {zs : List Str} {Q : VK} (hp : H p = some (.lst (zs.map V.str))) (hq : H q = some (.lst (zs.map V.str))) (h : ∀ z ∈ zs, Lets z) (k : Q (.bl true) H) : rEqD K (.ref p) (.ref q) H Q := by
  obtain ⟨a, b⟩ := strs_lay h
  have c : (PyData.list (zs.map .str)).canLay0 = true := a
  have s : SeqAt.shaped (PyData.list (zs.map .str)) = true := by
    unfold SeqAt.shaped
    rw [c, Bool.true_and]
    refine decide_eq_true ?_
    show PyData.depthAll (zs.map .str) + 1 ≤ 64
    rw [b]
    decide
  refine ⟨_, _, .lst (SqL.of hp) strs_dp, .lst (SqL.of hq) strs_dp, s, s, ?_⟩
  rw [SeqAt.eqv_refl _ c]
  exact k
theorem pw_uniq {l m : List Str} (h : l.Pairwise fun a b => ¬ tl b < tl a) (k : m.Pairwise fun a b => ¬ tl b < tl a) (a : l.Nodup) (b : m.Nodup) (s : ∀ z, z ∈ l ↔ z ∈ m) : l = m :=
  List.Perm.eq_of_pairwise (fun a b _ _ h1 h2 => tl_inj (List.le_antisymm (List.not_lt.mp h1) (List.not_lt.mp h2))) h k (nodup_perm a b s)
/-! ### tables added and multiplied -/
def sumF (s : Int) (f g : Fm) : Fm := fun z => nrm ((f z).1 * (g z).2 + s * (g z).1 * (f z).2) ((f z).2 * (g z).2)
def timesF (f : Fm) (c d : Int) : Fm := fun z => mulP (f z) (c, d)
theorem keys_str {kvs : List (Key × V)} {ks : List Str} (e : kvs.map (·.1) = ks.map Sum.inr) : (kvs.map fun kv => kV kv.1) = ks.map V.str := by
  have := congrArg (List.map kV) e
  rw [List.map_map, List.map_map] at this
  exact this
def doneF (L : List Str) (h : Fm) : Fm := fun z => if z ∈ L then h z else (0, 1)
theorem doneF_red {L : List Str} {h : Fm} (r : RedF h) : RedF (doneF L h) := fun z => by
  unfold doneF
  split
  · exact r z
  · exact red01
theorem doneF_snoc {L : List Str} {h : Fm} {y : Str} : doneF (L ++ [y]) h = setF (doneF L h) y (h y) := by
  funext z
  unfold doneF setF
  by_cases c : z = y
  · subst c
    simp
  · simp [c]
theorem sumF_red {s : Int} {f g : Fm} (rf : RedF f) (rg : RedF g) : RedF (sumF s f g) := fun z => nrm_red (Int.mul_ne_zero (by have := (rf z).pos; omega) (by have := (rg z).pos; omega))
theorem sumF_add {f g : Fm} : sumF 1 f g = fun z => addP (f z) (g z) := by
  funext z
  unfold sumF addP
  rw [Int.one_mul]
theorem sumF_sub {f g : Fm} (r : RedF g) : sumF (-1) f g = fun z => addP (f z) (mulP (g z) (-1, 1)) := by
  funext z
  rw [mulP_neg (r z)]
  unfold sumF addP
  show nrm ((f z).1 * (g z).2 + -1 * (g z).1 * (f z).2) _ = nrm ((f z).1 * (g z).2 + -(g z).1 * (f z).2) _
  rw [Int.neg_mul 1, Int.one_mul]
theorem sumF_off {s : Int} {f g : Fm} {z : Str} (a : f z = (0, 1)) (b : g z = (0, 1)) : sumF s f g z = (0, 1) := by
  unfold sumF
  rw [a, b]
  show nrm (0 * 1 + s * 0 * 1) (1 * 1) = (0, 1)
  rw [Int.mul_zero]
  exact nrm_0 (by decide)
theorem rd_lock {H : Hp} {a b : Addr} {u v : HO} {od : Obj} (h1 : H a = some u) (h2 : H b = some v) : Rd (upd H b (.frz od v)) a u := by
  by_cases c : a = b
  · subst c
    rw [h1] at h2
    cases h2
    exact .inr ⟨od, upd_same⟩
  · exact .inl (by rw [upd_ne c]; exact h1)
theorem rd_same {H H' : Hp} {a : Addr} {u : HO} (s : Same H H') (h : Rd H a u) : Rd H' a u := h.imp (fun e => s _ _ e) fun ⟨o, e⟩ => ⟨o, s _ _ e⟩
theorem dget_at {H : Hp} {d : Addr} {kvs : List (Key × V)} {z : Str} (e : Rd H d (.dK kvs)) : DGet H d (.str z) (valV kvs (.inr z)) := .inl ⟨kvs, .inr z, e, rfl, rfl⟩
theorem get_tup {H : Hp} {N : List Str} {f : Fm} {kvs : List (Key × V)} {z : Str} {p : Addr} (t : Tab N (TupF f H) (ShZ f) kvs) (hp : H p = some (.tup [.int 0, .int 1])) : ∃ u, (valV kvs (.inr z)).getD (.ref p) = .ref u ∧ H u = some (.tup [.int (f z).1, .int (f z).2]) := by
  cases q : valV kvs (.inr z) with
  | none => exact ⟨p, rfl, by rw [show f z = (0, 1) from t.z z q]; exact hp⟩
  | some v =>
    obtain ⟨u, rfl, h⟩ := t.r z v q
    exact ⟨u, rfl, h⟩
theorem fsame {ca : Nat → Addr} {H H' : Hp} {p : Addr} {N : List Str} {f : Fm} (s : Same H H') (h : FormAt ca H p N f) : FormAt ca H' p N f := h.same s
theorem tsame {H H' : Hp} {d : Addr} {N : List Str} {f : Fm} (s : Same H H') (h : TabAt H d N f) : TabAt H' d N f := h.same s
theorem addP_sz {n m : Nat} {x y : Int × Int} (hx : Sz n x.1 ∧ Sz n x.2) (hy : Sz m y.1 ∧ Sz m y.2) (nx : x.2 ≠ 0) (ny : y.2 ≠ 0) : Sz (n + m + 1) (addP x y).1 ∧ Sz (n + m + 1) (addP x y).2 := by
  have n0 := Int.mul_ne_zero nx ny
  unfold addP
  exact ⟨((hx.1.mul hy.2).add' ((hy.1.mul hx.2).mono (by omega))).le (nrm_le1 n0), ((hx.2.mul hy.2).mono (by omega)).le (nrm_le2 n0)⟩
theorem mulP_sz {n m : Nat} {x y : Int × Int} (hx : Sz n x.1 ∧ Sz n x.2) (hy : Sz m y.1 ∧ Sz m y.2) (nx : x.2 ≠ 0) (ny : y.2 ≠ 0) : Sz (n + m) (mulP x y).1 ∧ Sz (n + m) (mulP x y).2 := by
  have n0 := Int.mul_ne_zero nx ny
  unfold mulP
  exact ⟨(hx.1.mul hy.1).le (nrm_le1 n0), (hx.2.mul hy.2).le (nrm_le2 n0)⟩
theorem RedF.ne {f : Fm} (h : RedF f) (z : Str) : (f z).2 ≠ 0 := by have := (h z).pos; omega
theorem addF_sz {n m k : Nat} {f g : Fm} (hf : SzF n f) (hg : SzF m g) (rf : RedF f) (rg : RedF g) (l : n + m + 1 ≤ k := by decide) : SzF k fun z => addP (f z) (g z) := fun z =>
  let ⟨a, b⟩ := addP_sz (hf z) (hg z) (rf.ne z) (rg.ne z); ⟨a.mono l, b.mono l⟩
theorem mulF_sz {n m k : Nat} {f : Fm} {c d : Int} (hf : SzF n f) (rf : RedF f) (hc : Sz m c) (hd : Sz m d) (nd : d ≠ 0) (l : n + m ≤ k := by decide) : SzF k fun z => mulP (f z) (c, d) := fun z =>
  let ⟨a, b⟩ := mulP_sz (y := (c, d)) (hf z) ⟨hc, hd⟩ (rf.ne z) nd; ⟨a.mono l, b.mono l⟩
theorem neg_sub {x y : Int × Int} (h : Red x.1 x.2) (k : Red y.1 y.2) : mulP (addP x (mulP y (-1, 1))) (-1, 1) = addP y (mulP x (-1, 1)) := by
  have n1 : x.2 ≠ 0 := by have := h.pos; omega
  have n2 : y.2 ≠ 0 := by have := k.pos; omega
  rw [mulP_neg k, mulP_neg h]
  have r : Red (addP x (-y.1, y.2)).1 (addP x (-y.1, y.2)).2 := nrm_red (Int.mul_ne_zero n1 n2)
  rw [mulP_neg r]
  unfold addP
  show (-(nrm (x.1 * y.2 + -y.1 * x.2) (x.2 * y.2)).1, (nrm (x.1 * y.2 + -y.1 * x.2) (x.2 * y.2)).2) = nrm (y.1 * x.2 + -x.1 * y.2) (y.2 * x.2)
  rw [← nrm_neg (Int.mul_ne_zero n1 n2), Int.mul_comm y.2 x.2]
  congr 1
  rw [Int.neg_mul, Int.neg_mul]
  omega
/-! ### a dict and its copy -/
def Plain1 (v : V) : Prop := flatB v = true ∨ ∃ a, v = .ref a
theorem hits_copy {A : Around} {s : Shared} {all : List (Key × V)} {other : List (Key × Value)} (r : KV all other) : ∀ {part : List (Key × V)} {mine : List (Key × Value)}, KV part mine → (∀ e ∈ part, valV all e.1 = some e.2) → (∀ e ∈ part, Plain1 e.2) → PySem.W.KeqHits A s other mine true
  | _, _, .nil, _, _ => .nil
  | e :: part, (k, v) :: mine, .cons ⟨same, rv⟩ rest, hall, hplain => by
    obtain ⟨y, hy, ry⟩ := RelO.some_of (v := e.2) (o := valueAt other e.1) (by rw [← hall e List.mem_cons_self]; exact r.val e.1)
    have same : e.1 = k := same
    rw [same] at hy
    have tail := hits_copy (A := A) (s := s) r rest (fun x m => hall x (List.mem_cons_of_mem _ m)) fun x m => hplain x (List.mem_cons_of_mem _ m)
    have both : PySem.W.KeqHits A s other ((k, v) :: mine) (true && true) := by
      refine .hit hy ?_ tail
      rcases hplain e List.mem_cons_self with h | ⟨a, h⟩
      · exact eqAt_same rv ry h
      · rw [h] at rv ry
        cases rv
        cases ry
        exact SeqAt.EqAt.same (.ref a)
    exact both
def rNeCopy : R2 := fun x y H Q => ∃ (a b : Addr) (kvs : List (Key × V)), x = .ref a ∧ y = .ref b ∧ H a = some (.dK kvs) ∧ H b = some (.dK kvs) ∧ (kvs.map (·.1)).Nodup ∧ (∀ e ∈ kvs, Plain1 e.2) ∧ Q (.bl false) H
theorem op_ne_copy {X : Cx} (hu : X.A.units < cLine) : OpR X (compareOp .NotEq) rNeCopy := by
  intro pins s σ H x y v u Q I rx ry ⟨a, b, kvs, ex, ey, ea, eb, hnd, hpl, q⟩
  subst ex ey
  cases (show v = Value.ref a from rx)
  cases (show u = Value.ref b from ry)
  obtain ⟨_, la, va, ka, da⟩ := (show ObjOk X.prog X.w H s.heap a (.dK kvs) from I.hok a _ ea)
  obtain ⟨_, lb, vb, kb, db⟩ := (show ObjOk X.prog X.w H s.heap b (.dK kvs) from I.hok b _ eb)
  have len : va.length = vb.length := by rw [← ka.length, ← kb.length]
  refine PySem.W.keq_ne (knd := mixKind X.prog X.w) (r := true) la lb da db hu (fun _ => hits_copy kb ka (fun e m => valV_of hnd m) hpl) (fin_bl I q (by simp [len]))
def nameB (z : Str) : Bool := decide (z.length ≤ 12) && (decide (0 < z.length) && z.cps.toList.all fun c => decide (97 ≤ c) && decide (c ≤ 122))
theorem nameB_ok {z : Str} (h : nameB z = true) : NameOk z := by
  obtain ⟨h1, h⟩ := Bool.and_eq_true_iff.mp h
  obtain ⟨h2, h3⟩ := Bool.and_eq_true_iff.mp h
  refine ⟨of_decide_eq_true h1, of_decide_eq_true h2, fun c m => ?_⟩
  obtain ⟨a, b⟩ := Bool.and_eq_true_iff.mp (List.all_eq_true.mp h3 c m)
  exact ⟨of_decide_eq_true a, of_decide_eq_true b⟩
theorem namesB_ok {ws : List Str} (h : ws.all nameB = true) : ∀ z ∈ ws, NameOk z := fun z m => nameB_ok (List.all_eq_true.mp h z m)
theorem FormSh.putD {ca : Nat → Addr} {H H' : Hp} {d c : Addr} {N : List Str} {f : Fm} {kvs : List (Key × V)} (h : FormSh ca H d N f) (e : H c = some (.dK kvs)) (n : d ≠ c) (k : Keep c H H') : FormSh ca H' d N f :=
  let ⟨ks, e1, t⟩ := h; ⟨ks, k _ _ e1 n, t.mono (fun _ _ => ShR.keep e nd k) fun _ z => z⟩
theorem TabAt.putD {H H' : Hp} {d c : Addr} {N : List Str} {f : Fm} {kvs : List (Key × V)} (h : TabAt H d N f) (e : H c = some (.dK kvs)) (n : d ≠ c) (k : Keep c H H') : TabAt H' d N f :=
  let ⟨ks, e1, t⟩ := h; ⟨ks, k _ _ e1 n, t.mono (fun _ _ => TupF.keep e ndt k) fun _ z => z⟩
theorem TabAt.ne {H : Hp} {d c : Addr} {N : List Str} {f : Fm} (h : TabAt H d N f) (n : H c = none) : d ≠ c := let ⟨_, e, _⟩ := h; ne_of_none e n
theorem numR_plain {ca : Nat → Addr} {H : Hp} {N : List Str} {f : Fm} {kvs : List (Key × V)} (t : Tab N (NumR ca f H) (ShZ f) kvs) : ∀ e ∈ kvs, Plain1 e.2 := fun e m => by
  obtain ⟨k, v⟩ := e
  obtain ⟨z, _, ek⟩ := t.k.mem _ m
  have ek : k = .inr z := ek
  subst ek
  rcases t.r z v (valV_of t.k.nd m) with ⟨h, _⟩ | ⟨p, h, _⟩
  · exact .inl (by show flatB v = true; rw [h]; rfl)
  · exact .inr ⟨p, h⟩
theorem FormSh.putL {ca : Nat → Addr} {H H' : Hp} {d c : Addr} {N : List Str} {f : Fm} {xs : List V} (h : FormSh ca H d N f) (e : H c = some (.lst xs)) (k : Keep c H H') : FormSh ca H' d N f :=
  let ⟨ks, e1, t⟩ := h; ⟨ks, k _ _ e1 (ne_of e1 e fun z => nomatch z), t.mono (fun _ _ => ShR.keep e (fun _ _ _ z => nomatch z) k) fun _ z => z⟩
theorem oneT {H : Hp} {d t : Addr} {N : List Str} {z : Str} (hz : z ∈ N) (ht : H t = some (.tup [.int 1, .int 1])) (n : t ≠ d) : TabAt (upd H d (.dK (mergeK [] [(.inr z, .ref t)]))) d N (oneF z) := by
  refine ⟨_, upd_same, Tab.set (R := fun _ _ => False) (Z := fun _ => True) (.nil fun _ => True.intro) hz ?_ (fun _ _ _ h => h.elim) fun y c _ => oneF_ne c⟩
  refine ⟨t, rfl, ?_⟩
  rw [oneF_self, upd_ne n]
  exact ht
end Lo

set_option Elab.async false
set_option linter.all false
set_option maxRecDepth 100000
set_option maxHeartbeats 4000000
namespace Lo
open PySem PySem.Spec PyProof.Rows L2
/-! ### own errors with fields -/
/-- __init__ of an error stores its parameters under the names fs -/
def spErr (C : Addr) (fs : List Str) : Sp := fun vs H Q _ => ∃ (a : Addr) (us : List V), vs = .ref a :: us ∧ us.length = fs.length ∧ H a = some (exo a C none) ∧
  ∀ (dx : Addr) (H2 : Hp), H dx = none → dx ≠ a → H2 a = some (exo a C (some dx)) → H2 dx = some (exd dx (fs.zip us).reverse) → (∀ b o, H b = some o → b ≠ a → H2 b = some o) → Q .non H2
structure OwnE (P : Program) (w : World) (K : PySem.W.Frag) (mg : Str → Option Value) (base : Heap) (x : Str) (C : Addr) (fs : List Str) : Prop where
  cl : OexC K C
  ex : ∃ f fd ps, FnOk P w K mg base (L2N.CX P w) 1 f fd ps (spErr C fs) ∧ PySem.W.findIn K (.ref C) "__init__" = some (some (.ref f)) ∧ PySem.W.typeIn K (.ref f) = some (.type "function") ∧ mg x = some (.ref C) ∧ Binds K fd ps []
theorem pmk_err {X : Cx} {x : Str} {C : Addr} {fs : List Str} {e : Expr} {es : List Expr} {ta : TA} {p pos : Pos} (O : OwnE X.prog X.w X.K X.mg X.base x C fs) (hr : Room 2 X.A) (hg : Gl X x) (ha : PA X (e :: es) ta)
    (hdb : (x == ("__debug__" : Str)) = false := by decide) (he : starEach (e :: es) X.env = (false, eval e X.env) :: starEach es X.env := by rfl) (hpl : (backTo pos (starEach es X.env)).any (·.1) = false := by rfl) :
    L2N.PMk X (.Call (.Name x p) (e :: es) [] pos) (tMkO C (spErr C fs) [] ta) := by
  obtain ⟨f, fd, ps, G, hi, ht, hm, hb⟩ := O.ex
  obtain ⟨nm, q, N, bs, bm, sn, sub, ab, col, dd, k0, k1, k2, k3, k5, hC, hbm⟩ := O.cl.cls
  intro pins s σ H Q I h
  apply wpAny_Call_Name_kw (ld_glob I hg hm ?_ hdb)
  apply PySem.W.callWith_K (h₀ := X.base) I.ok.mod.kin O.cl.kC ?_ he hpl
  apply thn (ha.run pos pins s σ H _ I h)
  rintro us ⟨hp, g, dr, tk, os⟩ ⟨vs, H1, I1, r1, l1000, q1⟩
  refine ⟨I1.kIn, ?_⟩
  have sz : hp.objs.size ≤ hp.objs.size + 1 := Nat.le_succ _
  have hn : H1 (hp.objs.size + 1) = none := I1.hok.fresh sz
  have old : ∀ b o, hp.get? b = some o → ((hp.push (PySem.W.kdv_tup us)).push (PySem.HandSPX.excO C hp.objs.size)).get? b = some o := fun b o e =>
    Heap.get?_push_of_some _ (Heap.get?_push_of_some _ e)
  have new : ((hp.push (PySem.W.kdv_tup us)).push (PySem.HandSPX.excO C hp.objs.size)).get? (hp.objs.size + 1) =
      some (PySem.HandSPX.excO C hp.objs.size) := by heap_get
  have I2 := I1.laid (t' := tk) old sz (exo_ok (P := X.prog) (w := X.w) (H := upd H1 (hp.objs.size + 1) (exo (hp.objs.size + 1) C none)) new)
  have hsp := q1 _ hn
  have r2 : Vals (V.ref (hp.objs.size + 1) :: (vs ++ [])) (Value.ref (hp.objs.size + 1) :: (us ++ [])) := .cons rfl (r1.append .nil)
  have lps : (Value.ref (hp.objs.size + 1) :: us ++ []).length = ps.length := by
    have e := r2.length
    rw [G.len _ _ _ _ hsp] at e
    exact e.symm
  have lus : us.length ≤ sizeLine := by rw [← Paired.length r1, sizeLine_eq]; omega
  have run := G.run _ X.stack _ _ ⟨Value.ref (hp.objs.size + 1) :: us, []⟩ _ _ _ (fun _ _ _ => False) (hr.make C us []) (I2.env0.make C us []) (hb _ (Value.ref (hp.objs.size + 1) :: us) I2.kIn lps) r2 hsp
  refine wpAny_call (PySem.HandSPX.call_own F.excBase_ValueError (fun Y => PySem.HandSPX.refsVE_contains Y bm hbm) (I1.kIn _ _ hC) (PySem.W.looks_findIn I1.kIn hi) (fun self => PySem.W.bind_fn I1.kIn self ht) lus (codeAny_mono run ?_))
  rintro (er | fl) s' hq'
  · exact pas0 σ pins _ _ er s' I2 hq'
  · cases fl with
    | ret u =>
      obtain ⟨v, G2, hos, ab, un, ok2, rv, ev, d, gs, ga, gd, fresh, q3⟩ := hq'
      subst ev
      obtain ⟨z2, y2, x2, w2, u2⟩ := s'
      obtain ⟨t0, GG, J, kept, gone, at2, na⟩ := mk_end0 (d2 := x2) (t2 := w2) I1 sz old un ok2 hos ab ga gd fresh
      have hz : L2N.Zn (.ref C) (some d) ({ cls := .ref C, dict := some d, data := .fields #[.ref t0, .none, .none, .none, .bool false, .none] } : Obj) := ⟨rfl, rfl, fun vs e => by cases e; rfl⟩
      exact ⟨rv, ⟨_, _, _, ⟨GG, y2, x2, w2, u2⟩, _, _, _, rfl, J, kept, gone, at2, hz, rfl, rfl, na, rfl, ab, raises_own O.cl.exC O.cl.tyC, q3⟩⟩
    | next => exact hq'.elim
    | brk => exact hq'.elim
    | cont => exact hq'.elim
/-- raise X(e, ..) -/
def tRaiseE (C : Addr) (fs : List Str) (W : WX) (ta : TA) : TS := fun _ σ H => tMkO C (spErr C fs) [] ta σ H fun cls d H' => W cls d σ H'
theorem ps_raiseE {X : Cx} {x : Str} {C : Addr} {fs : List Str} {e : Expr} {es : List Expr} {ta : TA} {W : WX} {p pos pos2 : Pos} (hc : X.calm = true) (O : OwnE X.prog X.w X.K X.mg X.base x C fs) (hr : Room 2 X.A) (tk : L2N.Takes X W) (hg : Gl X x) (ha : PA X (e :: es) ta)
    (hdb : (x == ("__debug__" : Str)) = false := by decide) (he : starEach (e :: es) X.env = (false, eval e X.env) :: starEach es X.env := by rfl) (hpl : (backTo pos (starEach es X.env)).any (·.1) = false := by rfl) :
    PS X (.Raise (some (.Call (.Name x p) (e :: es) [] pos)) none pos2) (tRaiseE C fs W ta) := L2N.ps_raise hc tk (pmk_err O hr hg ha hdb he hpl)
/-- behind the arguments' reading -/
theorem err_in {C : Addr} {fs : List Str} {us : List V} {H1 : Hp} {Q : XK} (hl : us.length = fs.length) (h100 : fs.length ≤ 100) (k : ∀ (d : Addr) (H2 : Hp), H1 d = none → Same H1 H2 → H2 d = some (.xd (fs.zip us).reverse) → Q (.ref C) (some d) H2) :
    us.length ≤ 1000 ∧ ∀ a, H1 a = none → spErr C fs (.ref a :: (us ++ [])) (upd H1 a (exo a C none))
      (fun v H2 => v = .non ∧ ∃ (d : Addr) (fs' : List (Str × V)), H2 a = some (exo a C (some d)) ∧ H2 d = some (exd d fs') ∧ H1 d = none ∧ Q (.ref C) (some d) (upd (L2.del H2 a) d (.xd fs'))) (fun _ _ _ => False) := by
  refine ⟨by omega, fun a na => ⟨a, us, by rw [List.append_nil], hl, upd_same, fun dx H2 nd ne ea ed sm => ⟨rfl, dx, _, ea, ed, ?_, ?_⟩⟩⟩
  · rw [upd_ne ne] at nd
    exact nd
  · rw [upd_ne ne] at nd
    refine k dx _ nd (fun b o e => ?_) upd_same
    have hb := ne_of_none e na
    rw [upd_ne (ne_of_none e nd), del_ne hb]
    exact sm b o (by rw [upd_ne hb]; exact e) hb
/-- the stores of __init__ -/
theorem err_1 {K : PySem.W.Frag} {C a : Addr} {f : Str} {y : V} {H : Hp} {R : Hp → Prop} (T : OexC K C) (hno : PySem.W.findIn K (.ref C) f = some none) (h : H a = some (exo a C none)) (k : ∀ dx H2, H dx = none → dx ≠ a → H2 a = some (exo a C (some dx)) → H2 dx = some (exd dx [(f, y)]) → (∀ b o, H b = some o → b ≠ a → H2 b = some o) → R H2) :
    ∃ a' C' : Addr, V.ref a = .ref a' ∧ OexC K C' ∧ PySem.W.findIn K (.ref C') f = some none ∧
      ((H a' = some (exo a' C' none) ∧ ∀ dx, H dx = none → dx ≠ a' → R (upd (upd H dx (exd dx [(f, y)])) a' (exo a' C' (some dx)))) ∨
        ∃ (dx : Addr) (fs : List (Str × V)), H a' = some (exo a' C' (some dx)) ∧ H dx = some (exd dx fs) ∧ fs.length ≤ 900 ∧ R (upd H dx (exd dx ((f, y) :: fs)))) :=
  ⟨a, C, rfl, T, hno, .inl ⟨h, fun dx n ne => k dx _ n ne upd_same (by rw [upd_ne ne]; exact upd_same) fun b o e m => by rw [upd_ne m, upd_ne (ne_of_none e n)]; exact e⟩⟩
theorem err_2 {K : PySem.W.Frag} {C a dx : Addr} {f : Str} {y : V} {H : Hp} {R : Hp → Prop} {fs : List (Str × V)} (T : OexC K C) (hno : PySem.W.findIn K (.ref C) f = some none) (h : H a = some (exo a C (some dx))) (h2 : H dx = some (exd dx fs)) (hl : fs.length ≤ 900) (hne : dx ≠ a)
    (k : ∀ H2, H2 a = some (exo a C (some dx)) → H2 dx = some (exd dx ((f, y) :: fs)) → (∀ b o, H b = some o → b ≠ dx → H2 b = some o) → R H2) :
    ∃ a' C' : Addr, V.ref a = .ref a' ∧ OexC K C' ∧ PySem.W.findIn K (.ref C') f = some none ∧
      ((H a' = some (exo a' C' none) ∧ ∀ dx, H dx = none → dx ≠ a' → R (upd (upd H dx (exd dx [(f, y)])) a' (exo a' C' (some dx)))) ∨
        ∃ (dx : Addr) (fs : List (Str × V)), H a' = some (exo a' C' (some dx)) ∧ H dx = some (exd dx fs) ∧ fs.length ≤ 900 ∧ R (upd H dx (exd dx ((f, y) :: fs)))) :=
  ⟨a, C, rfl, T, hno, .inr ⟨dx, fs, h, h2, hl, k _ (by rw [upd_ne hne.symm]; exact h) upd_same fun b o e m => by rw [upd_ne m]; exact e⟩⟩
end Lo

set_option Elab.async false
set_option linter.all false
set_option maxRecDepth 100000
set_option maxHeartbeats 4000000
namespace Lo
open PySem L2
/-! ### sets of words: set(list), sorted(set) -/
section
variable {P : Program} {w : World} {K : Type} [DecidableEq K]
def SetQ (knd : KeyKind P w K) (h : Heap) (a : Addr) (S : K → Bool) (n : Nat) : Prop :=
  ∃ o es ep t, h.get? a = some o ∧ o.ExactSet ∧ o.data = Data.set es ep t ∧ ElemsOf knd es.toList ∧ (es.toList.Pairwise fun x y => ∀ k, knd.is k x.2 = true → knd.is k y.2 = false) ∧
    (∀ k, S k = true ↔ ∃ e, e ∈ es.toList ∧ knd.is k e.2 = true) ∧ es.size < scanBound ∧ t.fits es.size = true ∧ es.size = n ∧ Ris t.place.toList ∧ (w.params.followText "set-order" = true ∨ t.led = true)
theorem gate {M : Model} {A : Around} {E : Value → Shared → Prop} {s : Shared} {α : Type} {g : Bool → Sem Unit} {b : Bool} {rest : Unit → Sem α} {R : α → Shared → Prop} (hg : ∀ (b : Bool) (s₁ : Shared) (Q' : Unit → Shared → Prop), Q' () s₁ → wpAny M A (g b) Q' E s₁)
    (k : (∀ (b : Bool) (s₁ : Shared) (Q' : Unit → Shared → Prop), Q' () s₁ → wpAny M A (g b) Q' E s₁) → wpAny M A (rest ()) R E s) : wpAny M A (g b >>= rest) R E s := wpAny_bind (hg _ _ _ (k hg))
theorem pw_sym {knd : KeyKind P w K} {es es' : List (Int × Value)} (h : es.Perm es') (k : es'.Pairwise fun x y => ∀ k, knd.is k x.2 = true → knd.is k y.2 = false) : es.Pairwise fun x y => ∀ k, knd.is k x.2 = true → knd.is k y.2 = false :=
  (h.pairwise_iff (fun {x y} hxy k hy => by
    cases e : knd.is k x.2 with
    | false => rfl
    | true => rw [hxy k e] at hy; exact hy.symm)).mpr k
theorem setQ_tail {knd : KeyKind P w K} {A : Around} {E : Value → Shared → Prop} {s : Shared} {a : Addr} {g : Bool → Sem Unit} (hg : ∀ (b : Bool) (s₁ : Shared) (Q' : Unit → Shared → Prop), Q' () s₁ → wpAny (model P w) A (g b) Q' E s₁)
    {o : Obj} {es : Array (Int × Value)} {ep : Nat} {t : SetTable} (ho : s.heap.get? a = some o) (hex : o.ExactSet) (hd : o.data = Data.set es ep t) {es1 : Array (Int × Value)} {t2 : SetTable} {S' : K → Bool}
    (hel : ElemsOf knd es1.toList) (hnd : es1.toList.Pairwise fun x y => ∀ k, knd.is k x.2 = true → knd.is k y.2 = false) (hm : ∀ k, S' k = true ↔ ∃ e, e ∈ es1.toList ∧ knd.is k e.2 = true) (hsb : es1.size < scanBound)
    (hf : t2.fits es1.size = true) (hr : Ris t2.place.toList) (hl : w.params.followText "set-order" = true ∨ t2.led = true) {wasDummy : Bool} {R : Option Bool → Shared → Prop}
    (h : ∀ h', Heap.SameBut a s.heap h' → SetQ knd h' a S' es1.size → R (some true) { s with heap := h' }) :
    wpAny (model P w) A (do
      storeSet a es1 t2
      if (!wasDummy && t2.tooFull) = true then do
        g (relayAll t2 es1 (SetTable.grown es1.size)).snd.snd
        storeSet a (relayAll t2 es1 (SetTable.grown es1.size)).fst (relayAll t2 es1 (SetTable.grown es1.size)).snd.fst
        pure (some true)
      else pure (some true)) R E s := by
  have e1 := store_at (es' := es1) (t' := t2) ho hd
  refine wpAny_bind (wpAny_storeSet_of ho hd ?_ (fits_of_scanBound hsb))
  have sb := Heap.SameBut.update s.heap a (Obj.putSet es1 t2)
  generalize s.heap.update a (Obj.putSet es1 t2) = h1 at *
  by_cases c : (!wasDummy && t2.tooFull) = true
  · rw [if_pos c]
    refine wpAny_bind (hg _ _ _ ?_)
    have hp := relayAll_perm t2 es1 (SetTable.grown es1.size)
    have hz : (relayAll t2 es1 (SetTable.grown es1.size)).fst.size = es1.size := by simpa using hp.length_eq
    refine wpAny_bind (wpAny_storeSet_of e1 rfl ?_ (fits_of_scanBound (by rw [hz]; exact hsb)))
    have e2 := store_at (es' := (relayAll t2 es1 (SetTable.grown es1.size)).fst) (t' := (relayAll t2 es1 (SetTable.grown es1.size)).snd.fst) e1 rfl
    have sb2 := sb.trans (Heap.SameBut.update h1 a (Obj.putSet (relayAll t2 es1 (SetTable.grown es1.size)).fst (relayAll t2 es1 (SetTable.grown es1.size)).snd.fst))
    refine wpAny_pure (h _ sb2 ⟨_, _, _, _, e2, ⟨hex.1, hex.2.1, hex.2.2⟩, rfl, fun e m => hel e (hp.mem_iff.mp m), pw_sym hp hnd, fun k => ?_, by rw [hz]; exact hsb, relayAll_fits _ _ _, hz, relayAll_ris _ _ _, ?_⟩)
    · rw [hm]
      exact ⟨fun ⟨e, m, q⟩ => ⟨e, hp.mem_iff.mpr m, q⟩, fun ⟨e, m, q⟩ => ⟨e, hp.mem_iff.mp m, q⟩⟩
    · rw [relayAll_led]
      exact hl
  · rw [if_neg c]
    exact wpAny_pure (h _ sb ⟨_, _, _, _, e1, ⟨hex.1, hex.2.1, hex.2.2⟩, rfl, hel, hnd, hm, hsb, hf, rfl, hr, hl⟩)
theorem setQ_add {knd : KeyKind P w K} {A : Around} {E : Value → Shared → Prop} {s : Shared} {a : Addr} {S : K → Bool} {n : Nat} {k : K} {x : Value} {Q : Bool → Shared → Prop}
    (hS : SetQ knd s.heap a S n) (hn : n + 1 < scanBound) (hx : knd.is k x = true) (hsc : x.scannable = true)
    (h : ∀ h', Heap.SameBut a s.heap h' → SetQ knd h' a (fun j => S j || decide (j = k)) (if S k = true then n else n + 1) → Q (!S k) { s with heap := h' }) :
    wpAny (model P w) A (setAddHashed a x (knd.hash k)) Q E s := by
  obtain ⟨o, es, ep, t, ho, hex, hd, hel, hnd, hm, hsb, hf, hsz, hr, hl⟩ := hS
  unfold setAddHashed
  refine wpAny_holding ?_
  unfold setAddHashedIn
  refine wpAny_bind (wpAny_setState_of ho hd hf ?_)
  simp only
  rw [byScan_of hsc hsb hel]
  rw [if_pos rfl]
  refine wpAny_bind ?_
  unfold setAddByScan
  refine wpAny_bind (wpAny_rule ?_)
  refine wpAny_bind (wpAny_setScan_of hx ho hd hf hel ?_)
  have hk : S k = true ↔ (es.toList.findIdx? fun e => knd.is k e.2).isSome = true := by
    rw [hm, List.findIdx?_isSome, List.any_eq_true]
  cases q : es.toList.findIdx? fun e => knd.is k e.2 with
  | some j =>
    rw [q] at hk
    have hk : S k = true := hk.mpr rfl
    refine wpAny_pure (wpAny_pure ?_)
    have e : (fun j => S j || decide (j = k)) = S := by
      funext j
      by_cases c : j = k
      · rw [c, hk]; rfl
      · rw [decide_eq_false c, Bool.or_false]
    have := h s.heap ⟨rfl, fun _ _ => rfl⟩ (by rw [e, if_pos hk]; exact ⟨o, es, ep, t, ho, hex, hd, hel, hnd, hm, hsb, hf, hsz, hr, hl⟩)
    rw [hk] at this
    exact this
  | none =>
    rw [q] at hk
    have hk : S k = false := by
      cases e : S k with
      | false => rfl
      | true => exact nomatch hk.mp e
    rw [hk, if_neg (fun z => nomatch z)] at h
    simp only
    have hp := layNew_perm t es (knd.hash k) x
    have hf1 := layNew_fits t es (knd.hash k) x
    have hr1 := layNew_ris t es (knd.hash k) x hr
    have hl1 := layNew_led t es (knd.hash k) x
    have hz : (layNew t es (knd.hash k) x).1.size = n + 1 := by
      have := hp.length_eq
      simp at this
      omega
    have hmem : ∀ e, e ∈ (layNew t es (knd.hash k) x).1.toList ↔ e ∈ es.toList ∨ e = (knd.hash k, x) := fun e => by
      rw [hp.mem_iff, Array.toList_push, List.mem_append, List.mem_singleton]
    have tl : ∀ (g : Bool → Sem Unit) (hg : ∀ (b : Bool) (s₁ : Shared) (Q' : Unit → Shared → Prop), Q' () s₁ → wpAny (model P w) A (g b) Q' E s₁) (t2 : SetTable), t2.fits (layNew t es (knd.hash k) x).1.size = true → Ris t2.place.toList → t2.led = t.led → wpAny (model P w) A (do
        storeSet a (layNew t es (knd.hash k) x).1 t2
        if (!(layNew t es (knd.hash k) x).2.2.1 && t2.tooFull) = true then do
          g (relayAll t2 (layNew t es (knd.hash k) x).1 (SetTable.grown (layNew t es (knd.hash k) x).1.size)).snd.snd
          storeSet a (relayAll t2 (layNew t es (knd.hash k) x).1 (SetTable.grown (layNew t es (knd.hash k) x).1.size)).fst (relayAll t2 (layNew t es (knd.hash k) x).1 (SetTable.grown (layNew t es (knd.hash k) x).1.size)).snd.fst
          pure (some true)
        else pure (some true)) (fun a_1 s' => wpAny (model P w) A (match a_1 with | some added => pure added | none => setAddHashedIn a x (knd.hash k) 99999) Q E s') E s := by
      intro g hg t2 f2 r2 l2
      refine setQ_tail (knd := knd) (S' := fun j => S j || decide (j = k)) hg ho hex hd ?_ ?_ ?_ (by rw [hz]; exact hn) f2 r2 (by rw [l2]; exact hl) fun h' sb hq => wpAny_pure (h h' sb (by rw [← hz]; exact hq))
      · intro e m
        rcases (hmem e).mp m with m | rfl
        · exact hel e m
        · exact ⟨⟨k, hx, rfl⟩, hsc⟩
      · refine pw_sym hp ?_
        rw [Array.toList_push, List.pairwise_append]
        refine ⟨hnd, List.pairwise_singleton _ _, fun e m y my j hj => ?_⟩
        rw [List.mem_singleton] at my
        subst my
        cases ex : knd.is j x with
        | false => rfl
        | true =>
          have ej := knd.inj x j k ex hx
          subst ej
          rw [(hm j).mpr ⟨e, m, hj⟩] at hk
          cases hk
      · intro j
        rw [Bool.or_eq_true, decide_eq_true_iff, hm]
        constructor
        · rintro (⟨e, m, q⟩ | rfl)
          · exact ⟨e, (hmem e).mpr (.inl m), q⟩
          · exact ⟨_, (hmem _).mpr (.inr rfl), hx⟩
        · rintro ⟨e, m, q⟩
          rcases (hmem e).mp m with m | rfl
          · exact .inl ⟨e, m, q⟩
          · exact .inr (knd.inj x j k q hx)
    refine gate (fun b s₁ Q' q => ?_) fun hg => ?_
    · cases b
      · exact wpAny_pure q
      · exact wpAny_rule q
    by_cases c : (layNew t es (knd.hash k) x).2.1.plain = true
    · rw [if_pos c, hashByValue_scannable 8 hsc]
      refine wpAny_bind (wpAny_pure ?_)
      refine tl _ hg _ ?_ ?_ ?_
      · split
        · exact hf1
        · exact hf1
      · split
        · exact hr1
        · exact hr1
      · split
        · exact hl1
        · exact hl1
    · rw [if_neg c]
      refine wpAny_bind (wpAny_pure ?_)
      exact tl _ hg _ hf1 hr1 hl1
theorem SetQ.at {knd : KeyKind P w K} {h h' : Heap} {a : Addr} {S : K → Bool} {n : Nat} (q : SetQ knd h a S n) (k : ∀ o, h.get? a = some o → h'.get? a = some o) : SetQ knd h' a S n :=
  let ⟨o, es, ep, t, ho, r⟩ := q
  ⟨o, es, ep, t, k o ho, r⟩
theorem SetQ.congr {knd : KeyKind P w K} {h : Heap} {a : Addr} {S S' : K → Bool} {n : Nat} (q : SetQ knd h a S n) (k : S' = S) : SetQ knd h a S' n := k ▸ q
theorem setQ_update {knd : KeyKind P w K} {A : Around} {I : Addr} {fp wr : List Addr} {G : Array GenState → Array GenState → Prop} {n : Nat} {Pv : Nat → Value → Prop} {St : Nat → Shared → Prop} {R : Result → Shared → Prop}
    (hW : WalksS P w A.in1 I fp wr G n Pv St) (S : Addr) (hS : ¬ S ∈ fp) (ks : List K) (hn : n = ks.length) (hb : ks.length + 1 < scanBound) (hv : ∀ i v, Pv i v → ∃ k, ks[i]? = some k ∧ knd.is k v = true ∧ v.scannable = true) :
    ∀ (k i : Nat) (s : Shared), n - i = k → i ≤ n → St i s → (∃ c, c ≤ i ∧ SetQ knd s.heap S (fun j => decide (j ∈ ks.take i)) c) →
      (∀ (s' : Shared) (c : Nat), Moved (S :: wr) G s s' → c ≤ n → SetQ knd s'.heap S (fun j => decide (j ∈ ks)) c → R (Except.ok (Flow.ret Value.none)) s') →
      codeAny (model P w) A (Code.builtin "set.update.loop" { pos := [Value.ref S, Value.ref I] }) R s
  | k, i, s, hk, hi, hst, ⟨c, hc, hq⟩, h => by
    refine codeAny_builtin PyProof.Rows.F.entry_set_update_loop ?_
    unfold Builtin.«set.update.loop»
    simp only
    show wpAny _ A.in1 _ _ _ s
    have hSw : ¬ S ∈ wr := fun m => hS (hW.sub _ m)
    by_cases e : i = n
    · subst e
      refine wpAny_bind (hW.done s _ _ hst fun s' m => wpAny_pure (h s' c ⟨fun b o nb => m.heap b o fun z => nb (List.mem_cons_of_mem _ z), m.gens, m.drawn, m.os, m.toks⟩ hc ?_))
      refine (hq.at fun o => m.heap S o hSw).congr ?_
      rw [hn, List.take_length]
    · refine wpAny_bind (hW.item i s _ _ (by omega) hst fun v s' hp hst' m => ?_)
      obtain ⟨z, hz, hzv, hsc⟩ := hv i v hp
      simp only
      refine wpAny_bind (wpAny_holding ?_)
      unfold setAdd
      refine wpAny_holding (wpAny_bind (knd.pyHash hzv ?_))
      have hq1 := hq.at fun o => m.heap S o hSw
      refine setQ_add (s := { s' with toks := s'.toks + 1 }) (n := c) hq1 (by omega) hzv hsc fun h' sb q2 => wpAny_pure ⟨plainId_quiet PyProof.Rows.F.plain_set_update_loop _, ?_⟩
      have hst2 := hW.frame (i + 1) s' h' (s'.toks + 1) hst' (Nat.le_succ _) fun b mb o ho => by rw [sb.2 b (fun z => hS (z ▸ mb))]; exact ho
      refine setQ_update hW S hS ks hn hb hv (n - (i + 1)) (i + 1) _ rfl (by omega) hst2 ⟨_, ?_, q2.congr ?_⟩ fun s3 c3 m3 => h s3 c3 ⟨fun b o nb ho => ?_, ?_, ?_, ?_, ?_⟩
      · split <;> omega
      · funext j
        have e : ks.take (i + 1) = ks.take i ++ [z] := by rw [List.take_add_one, hz]; rfl
        rw [e]
        by_cases c1 : j ∈ ks.take i
        · rw [decide_eq_true c1, decide_eq_true (List.mem_append_left _ c1)]; rfl
        · rw [decide_eq_false c1, Bool.false_or]
          by_cases c2 : j = z
          · rw [decide_eq_true c2, decide_eq_true (List.mem_append_right _ (by rw [c2]; simp))]
          · rw [decide_eq_false c2, decide_eq_false fun q => (List.mem_append.mp q).elim c1 fun q => c2 (by simpa using q)]
      · refine m3.heap b o nb ?_
        show h'.get? b = some o
        rw [sb.2 b (fun z => nb (by rw [z]; exact List.mem_cons_self))]
        exact m.heap b o (fun z => nb (List.mem_cons_of_mem _ z)) ho
      · exact hW.gtrans _ _ _ m.gens m3.gens
      · exact m3.drawn.trans m.drawn
      · exact m3.os.trans m.os
      · exact Nat.le_trans m.toks (Nat.le_trans (Nat.le_succ _) m3.toks)
  termination_by k => k
  decreasing_by omega
theorem tc_quiet (a : Args) : (Code.builtin "type.__call__" a).quiet = true := by
  unfold Code.quiet Thread.loud
  simp [L2.call_set_tups._proof_1, Thread.atCollectorCode, Thread.yieldsInsideHandler, Thread.atExit]
theorem call_setQ {knd : KeyKind P w K} {A : Around} {E : Value → Shared → Prop} {s : Shared} {l : Addr} {items : Array Value} (ks : List K) {Q : Value → Shared → Prop} (hA : A.handled = none) (hl : s.heap.IsList l items)
    (hlen : items.size = ks.length) (hb : ks.length + 1 < scanBound) (hv : ∀ (i : Nat) (v : Value), items[i]? = some v → ∃ k, ks[i]? = some k ∧ knd.is k v = true ∧ v.scannable = true)
    (h : ∀ (h' : Heap) (tk c : Nat), c ≤ ks.length → SetQ knd h' s.heap.objs.size (fun j => decide (j ∈ ks)) c → (∀ (b : Addr) (o : Obj), s.heap.get? b = some o → h'.get? b = some o) → Q (Value.ref s.heap.objs.size) { s with heap := h', toks := tk }) :
    wpAny (model P w) A (call (Value.type "set") [Value.ref l]) Q E s := by
  refine wpAny_call (codeAny_of_tree ?_)
  show wpAny _ (A.under _) (pure (Fin.again (Code.builtin "type.__call__" { pos := [Value.type "set", Value.ref l] }))) _ _ s
  refine wpAny_pure ⟨tc_quiet _, ?_⟩
  refine codeAny_builtin F.entry_type_call ?_
  show wpAny _ A.in1 _ _ _ s
  unfold Builtin.«type.__call__»
  simp only
  refine wpAny_ite_false (by decide) ?_
  refine wpAny_ite_false (by decide +kernel) ?_
  rw [F.typeCall_set_1]
  refine wpAny_bind (wpAny_pure ?_)
  have hs := F.called_set
  obtain ⟨c0, tl, hm⟩ := hs.mro
  rw [hm]
  refine wpAny_bind (wpAny_pure ?_)
  refine wpAny_ite_false rfl ?_
  rw [hs.made]
  refine wpAny_bind (wpAny_pure ?_)
  simp only
  refine wpAny_bind (wpAny_pure ?_)
  refine wpAny_bind (wpAny_holding (wpAny_call ?_))
  refine codeAny_mono (code_set_led1 (E := fun _ _ => False) (Q₁ := fun v s' => v = Value.ref s.heap.objs.size ∧ s' = { s with heap := s.heap.push { cls := Value.type "set", data := Data.set #[] 0 (SetTable.fresh 0 0 !w.params.followText "set-order") } }) _ ⟨rfl, rfl⟩) fun r s1 hr => ?_
  obtain ⟨v, rfl, e1, e2⟩ : ∃ v, r = .ok (.ret v) ∧ v = Value.ref s.heap.objs.size ∧ s1 = { s with heap := s.heap.push { cls := Value.type "set", data := Data.set #[] 0 (SetTable.fresh 0 0 !w.params.followText "set-order") } } := by
    match r with
    | .ok (.ret v) => exact ⟨v, rfl, hr.1, hr.2⟩
    | .error _ => exact hr.elim
    | .ok (.next) => exact hr.elim
    | .ok (.brk) => exact hr.elim
  subst e1
  subst e2
  simp only
  have ho := Heap.get?_push_size (h := s.heap) (o := { cls := Value.type "set", data := Data.set #[] 0 (SetTable.fresh 0 0 !w.params.followText "set-order") }) rfl
  refine wpAny_bind (wpAny_isInstance (T := "set") ⟨_, ho, rfl⟩ hs.sub ?_)
  refine wpAny_ite_false rfl ?_
  refine wpAny_bind (wpAny_holding ?_)
  unfold callSpecial?
  refine wpAny_bind (wpAny_specialOf (T := "set") ⟨_, ho, rfl⟩ hs.init.lookup ?_)
  simp only
  refine wpAny_holding ?_
  rw [hs.init.bind]
  refine wpAny_bind (wpAny_pure ?_)
  simp only
  refine wpAny_bind (wpAny_call ?_)
  refine codeAny_call_builtin hs.init.plain F.entry_set_init (check_set_init_1 ⟨_, ho, rfl⟩ ?_)
  unfold Builtin.«set.__init__»
  simp only [List.cons_append, List.nil_append]
  refine wpAny_bind (wpAny_pure ?_)
  refine wpAny_bind ?_
  unfold typeNameOfCut
  refine wpAny_bind (?_ : wpAny _ _ (shownTypeOf _) _ _ _)
  unfold shownTypeOf
  refine wpAny_bind (wpAny_typeOf (T := "set") ⟨_, ho, rfl⟩ ?_)
  refine wpAny_ite_false (by decide) (wpAny_pure ?_)
  unfold typeNameCut typeName
  refine wpAny_pure ?_
  refine wpAny_bind ?_
  unfold checkCount
  refine wpAny_ite_false rfl ?_
  refine wpAny_ite_false rfl ?_
  refine wpAny_ite_false rfl (wpAny_pure ?_)
  refine wpAny_bind (wpAny_pure ?_)
  unfold setUsed
  refine wpAny_bind (wpAny_bind (wpAny_setState_of ho rfl rfl (wpAny_pure ?_)))
  refine wpAny_ite_false rfl ?_
  unfold Builtin.Frozenset.updateFrom
  refine wpAny_bind (wpAny_bind ?_)
  unfold Builtin.Frozenset.isAnySet
  obtain ⟨ol, hol, hcls, cap, hdat⟩ := hl
  have hol1 := Heap.get?_push_of_some (o := { cls := Value.type "set", data := Data.set #[] 0 (SetTable.fresh 0 0 !w.params.followText "set-order") }) hol
  refine wpAny_bind (wpAny_isInstance (T := "list") ⟨_, hol1, hcls⟩ F.sub_list_set ?_)
  refine wpAny_isInstance (T := "list") ⟨_, hol1, hcls⟩ F.sub_list_frozenset ?_
  refine wpAny_ite_false rfl ?_
  refine wpAny_bind (wpAny_typeOf (T := "list") ⟨_, hol1, hcls⟩ ?_)
  refine wpAny_ite_false (by decide) ?_
  refine wpAny_bind (wpAny_pyIter_list ⟨_, hol1, hcls, cap, hdat⟩ ?_)
  refine wpAny_bind (wpAny_runValue ?_)
  have hlt : l ≠ s.heap.objs.size + 1 := Nat.ne_of_lt (Nat.lt_succ_of_lt (Heap.lt_size hol))
  have hlt2 : l ≠ s.heap.objs.size := Nat.ne_of_lt (Heap.lt_size hol)
  have hI := Heap.get?_push_size (s.heap.push { cls := Value.type "set", data := Data.set #[] 0 (SetTable.fresh 0 0 !w.params.followText "set-order") }) (o := { cls := Value.type "list_iterator", data := Data.fields #[Value.ref l, Value.int 0 0] }) rfl
  have hol2 := Heap.get?_push_of_some { cls := Value.type "list_iterator", data := Data.fields #[Value.ref l, Value.int 0 0] } hol1
  have ho2 := Heap.get?_push_of_some { cls := Value.type "list_iterator", data := Data.fields #[Value.ref l, Value.int 0 0] } ho
  have hsz : (s.heap.push { cls := Value.type "set", data := Data.set #[] 0 (SetTable.fresh 0 0 !w.params.followText "set-order") }).objs.size = s.heap.objs.size + 1 := Heap.size_push _ _
  rw [hsz] at hI ⊢
  refine setQ_update (knd := knd) (Walks.toS (Walks.list (A := A.in1.in1.in1) hA (s.heap.objs.size + 1) l hlt items)) s.heap.objs.size ?_ ks hlen hb hv items.size 0 _ rfl (Nat.zero_le _) ⟨?_, ?_⟩ ⟨0, Nat.le_refl _, ?_⟩ fun s3 c3 m3 hc3 q3 => ?_
  · intro m
    simp only [List.mem_cons, List.not_mem_nil, or_false] at m
    rcases m with m | m
    · exact absurd m (Nat.ne_of_lt (Nat.lt_succ_self _))
    · exact hlt2 m.symm
  · exact ⟨_, hI, rfl, rfl⟩
  · exact ⟨_, hol2, hcls, cap, hdat⟩
  · refine ⟨_, _, _, _, ho2, ⟨rfl, rfl, rfl⟩, rfl, fun e m => ?_, ?_, fun j => ?_, ?_, rfl, rfl, ?_, ?_⟩
    · exact absurd m (by simp)
    · exact List.Pairwise.nil
    · simp
    · show 0 < scanBound
      omega
    · exact List.Pairwise.nil
    · show w.params.followText "set-order" = true ∨ (!w.params.followText "set-order") = true
      cases w.params.followText "set-order"
      · exact .inr rfl
      · exact .inl rfl
  · refine wpAny_pure (wpAny_pure (wpAny_pure ?_))
    refine wpAny_ite_false (by decide) (wpAny_pure ?_)
    have eg : s3.gens = s.gens := m3.gens
    have ed : s3.drawn = s.drawn := m3.drawn
    have eo : s3.os = s.os := m3.os
    have := h s3.heap s3.toks c3 (by omega) q3 fun b o hb => m3.heap b o (fun m => ?_) (Heap.get?_push_of_some _ (Heap.get?_push_of_some _ hb))
    · rw [← eg, ← ed, ← eo] at this
      exact this
    · have hb1 := Heap.lt_size hb
      rcases List.mem_cons.mp m with m | m
      · exact absurd m (Nat.ne_of_lt hb1)
      · exact absurd (List.mem_singleton.mp m) (Nat.ne_of_lt (Nat.lt_succ_of_lt hb1))
/-! ### sorted of a set of texts -/
def toS : Value → Str
  | .str z _ => z
  | _ => Str.empty
theorem strs_are : ∀ {vs : List Value}, (∀ v ∈ vs, ∃ z t, v = Value.str z t) → PyProof.Rows.StrsAre vs (vs.map toS)
  | [], _ => .nil
  | v :: vs, h => by
    obtain ⟨z, t, rfl⟩ := h v List.mem_cons_self
    exact .cons z t (strs_are fun u m => h u (List.mem_cons_of_mem _ m))
theorem isStrOf_of {z : Str} {v : Value} (h : Value.isStrOf z v = true) : ∃ t, v = Value.str z t := by
  cases v <;> simp [Value.isStrOf, Value.isStr] at h
  subst h
  exact ⟨_, rfl⟩
theorem sorted_setQ {A : Around} {E : Value → Shared → Prop} {s : Shared} {a : Addr} {S : Str → Bool} {n : Nat} {Q : Value → Shared → Prop} (hq : SetQ (strKind P w) s.heap a S n) (hA : A.handled = none) (hn : n < 64)
    (h : ∀ (s' : Shared) (p : Nat) (out : Array Value) (c : Nat) (ys : List Str), (∀ (b : Addr) (o : Obj), s.heap.get? b = some o → s'.heap.get? b = some o) → s'.gens = s.gens → s'.os = s.os → s.heap.objs.size ≤ p →
      s'.heap.get? p = some (PyProof.Rows.seqObj "list" out c) → PyProof.Rows.StrsAre out.toList ys → PyProof.Rows.sortedS ys = true → ys.Nodup → (∀ z, z ∈ ys ↔ S z = true) → ys.length = n → Q (Value.ref p) s') :
    wpAny (model P w) A (call (Value.builtin "sorted") [Value.ref a]) Q E s := by
  obtain ⟨o, es, ep, t, ho, hex, hd, hel, hnd, hm, hsb, hf, hsz, hr, hl⟩ := hq
  refine Calls.call_function_entry PyProof.Rows.kind_sorted PyProof.Rows.plain_sorted PyProof.Rows.entry_sorted (PyProof.Rows.args_sorted1 _) ?_
  unfold Builtin.sorted
  refine wpAny_bind ?_
  unfold checkCount
  refine wpAny_ite_false rfl ?_
  refine wpAny_ite_false rfl ?_
  refine wpAny_ite_false rfl (wpAny_pure ?_)
  refine wpAny_bind (collect_set (A := A.in1) hA ⟨o, ho, hex.1, hd⟩ hf hsb hr hl fun s1 out k1 z1 g1 o1 pm => ?_)
  have hlen : out.length = n := by
    have e := pm.length_eq
    rw [List.length_map] at e
    rw [e, ← hsz]
    exact Array.length_toList
  have ha : ∀ e ∈ es.toList, ∃ t, e.2 = Value.str (toS e.2) t := fun e m => by
    obtain ⟨⟨k, hk, _⟩, _⟩ := hel e m
    obtain ⟨t, ht⟩ := isStrOf_of hk
    rw [ht]
    exact ⟨t, rfl⟩
  have hs := strs_are (vs := out) fun v m => by
    obtain ⟨e, me, rfl⟩ := List.mem_map.mp (pm.mem_iff.mp m)
    obtain ⟨t, ht⟩ := ha e me
    exact ⟨_, t, ht⟩
  have nd : (out.map toS).Nodup := by
    have n1 : ((es.toList.map (·.2)).map toS).Nodup := by
      rw [List.map_map, List.Nodup, List.pairwise_map]
      refine (List.Pairwise.and_mem.mp hnd).imp fun {x y} ⟨mx, my, hxy⟩ e => ?_
      obtain ⟨t1, h1⟩ := ha x mx
      obtain ⟨t2, h2⟩ := ha y my
      have i1 : (strKind P w).is (toS x.2) x.2 = true := by rw [h1]; exact beq_self_eq_true _
      have i2 : (strKind P w).is (toS x.2) y.2 = true := by
        have e : toS x.2 = toS y.2 := e
        rw [e, h2]
        exact beq_self_eq_true _
      rw [hxy _ i1] at i2
      cases i2
    exact (pm.map toS).nodup_iff.mpr n1
  have mem : ∀ z, z ∈ out.map toS ↔ S z = true := fun z => by
    rw [hm]
    constructor
    · intro m
      obtain ⟨v, mv, rfl⟩ := List.mem_map.mp m
      obtain ⟨e, me, rfl⟩ := List.mem_map.mp (pm.mem_iff.mp mv)
      obtain ⟨t, ht⟩ := ha e me
      exact ⟨e, me, by rw [ht]; exact beq_self_eq_true _⟩
    · rintro ⟨e, me, hz⟩
      obtain ⟨t, ht⟩ := isStrOf_of hz
      exact List.mem_map.mpr ⟨e.2, pm.mem_iff.mpr (List.mem_map.mpr ⟨e, me, rfl⟩), by rw [ht]; rfl⟩
  refine wpAny_bind (wpAny_newList ?_ (by rw [hlen]; exact small64 hn))
  have hp := Heap.get?_push_size s1.heap (o := { cls := Value.type "list", data := Data.seq out.toArray }) rfl
  have old : ∀ (b : Addr) (o : Obj), s.heap.get? b = some o → (s1.heap.push { cls := Value.type "list", data := Data.seq out.toArray }).get? b = some o ∧ b < s1.heap.objs.size := fun b o hb => ⟨Heap.get?_push_of_some _ (k1 b o hb), Heap.lt_size (k1 b o hb)⟩
  refine wpAny_bind (wpAny_holding (wpAny_call_entry PyProof.Rows.slot_list_sort ⟨_, hp, rfl⟩ PyProof.Rows.entry_list_sort ?_ (PyProof.Rows.args_list_sort _)))
  refine PyProof.Rows.list_sort_treeK PyProof.Rows.strKind_oneLt hp (PyProof.Rows.StrsAre.keysOf hs) (fun v1 v2 rest e => ?_) (by rw [hlen]; exact hn) fun st' pm2 so => ?_
  · exact PyProof.Rows.keyKind_strs (e ▸ hs)
  · obtain ⟨ss, h1, h2, h3⟩ := PyProof.Rows.sorted_out_str hs pm2 so
    obtain ⟨c, hc⟩ := PyProof.Rows.sortedHeap_at (out := Array.map (fun x => x.2) (PyProof.Rows.arrOf st')) hp
    generalize hO : Array.map (fun x => x.2) (PyProof.Rows.arrOf st') = O at *
    have old2 : ∀ (b : Addr) (o : Obj), s.heap.get? b = some o → (PyProof.Rows.sortedHeap (s1.heap.push { cls := Value.type "list", data := Data.seq out.toArray }) s1.heap.objs.size out O).get? b = some o := fun b o hb => by
      obtain ⟨e1, e2⟩ := old b o hb
      have e3 : b < (s1.heap.push { cls := Value.type "list", data := Data.seq out.toArray }).objs.size := by
        rw [Heap.size_push]
        exact Nat.lt_succ_of_lt e2
      rw [PyProof.Rows.sortedHeap_old (Nat.ne_of_lt e2) e3]
      exact e1
    generalize PyProof.Rows.sortedHeap (s1.heap.push { cls := Value.type "list", data := Data.seq out.toArray }) s1.heap.objs.size out O = HF at *
    have key := h { heap := HF, gens := s1.gens, drawn := s1.drawn, toks := s1.toks, os := s1.os } s1.heap.objs.size _ c ss old2 g1 o1 z1 hc h1 h3 (h2.nodup_iff.mpr nd) (fun z => by rw [h2.mem_iff, mem]) (by rw [h2.length_eq, List.length_map, hlen])
    refine ⟨Value.none, rfl, ?_⟩
    exact wpAny_pure ⟨_, rfl, key⟩
theorem strs_at : ∀ {vs : List Value} {zs : List Str} {i : Nat} {v : Value}, PyProof.Rows.StrsAre vs zs → vs[i]? = some v → ∃ z t, zs[i]? = some z ∧ v = Value.str z t
  | _, _, 0, _, .cons y t _, e => by
    have e : some (Value.str y t) = some _ := e
    cases e
    exact ⟨y, t, rfl, rfl⟩
  | _, _, i + 1, _, .cons y t h, e => strs_at (i := i) h e
/-- the set that set(words) makes -/
def SetQO (P : Program) (w : World) (a : Addr) (zs : List Str) : HO := .ext fun h => ∃ c, c ≤ zs.length ∧ SetQ (strKind P w) h a (fun j => decide (j ∈ zs)) c
theorem setQO_ok {H : Hp} {h : Heap} {a : Addr} {zs : List Str} {c : Nat} (hc : c ≤ zs.length) (q : SetQ (strKind P w) h a (fun j => decide (j ∈ zs)) c) : ObjOk P w H h a (SetQO P w a zs) := by
  unfold SetQO
  rw [ObjOk.eq_13]
  exact ⟨⟨c, hc, q⟩, ⟨q.choose, q.choose_spec.choose_spec.choose_spec.choose_spec.1⟩, fun h1 h2 ⟨c, hc, q⟩ k => ⟨c, hc, q.at k⟩⟩
def rSetOfS (K : W.Frag) (P : Program) (w : World) : List V → Hp → VK → Prop := fun xs H Q => ∃ (l : Addr) (zs : List Str), xs = [V.ref l] ∧ SqL K H l (zs.map V.str) ∧ zs.length < 1000 ∧ ∀ a, H a = none → Q (.ref a) (upd H a (SetQO P w a zs))
theorem cr_setOfS {X : Cx} (hc : X.calm = true) : CallR X (Value.type "set") (rSetOfS X.K X.prog X.w) := by
  intro pins s σ H xs us Q I rx hr
  obtain ⟨l, zs, rfl, hl, hlen, k⟩ := hr
  cases Vals.ref1 rx
  obtain ⟨its, hv, ⟨o, n, ho, hcl, hdi, hda⟩, _⟩ := I.list hl
  have hs := Vals.strs hv
  have e : its.length = zs.length := by
    have := Vals.length hv
    rw [List.length_map] at this
    exact this.symm
  refine call_setQ (knd := strKind X.prog X.w) (items := its.toArray) zs (I.ok.hd hc) ⟨o, ho, hcl, n, hda⟩ (by rw [List.size_toArray]; exact e) ?_ (fun i v hi => ?_) fun h' tk c hc' q old => ?_
  · have : (1000 : Nat) < scanBound := by decide
    omega
  · rw [List.getElem?_toArray] at hi
    obtain ⟨z, t, hz, rfl⟩ := strs_at hs hi
    exact ⟨z, hz, beq_self_eq_true _, rfl⟩
  · exact ⟨.ref s.heap.objs.size, _, I.laid old (Nat.le_refl _) (setQO_ok hc' q), rfl, k _ (HOk.fresh I.hok (Nat.le_refl _))⟩
def rSortedQ (P : Program) (w : World) : List V → Hp → VK → Prop := fun vs H Q => ∃ (a : Addr) (zs : List Str), vs = [V.ref a] ∧ H a = some (SetQO P w a zs) ∧ zs.length < 64 ∧
  ∀ (ys : List Str) (p : Addr), PyProof.Rows.sortedS ys = true → ys.Nodup → (∀ z, z ∈ ys ↔ z ∈ zs) → H p = none → Q (.ref p) (upd H p (.lst (ys.map V.str)))
theorem cr_sortedQ {X : Cx} (hc : X.calm = true) : CallR X (Value.builtin "sorted") (rSortedQ X.prog X.w) := by
  intro pins s σ H xs us Q I rx hr
  obtain ⟨a, zs, rfl, ha, hlen, k⟩ := hr
  cases Vals.ref1 rx
  have q := I.hok a _ ha
  unfold SetQO at q
  rw [ObjOk.eq_13] at q
  obtain ⟨c, hc', q⟩ := q.1
  refine sorted_setQ q (I.ok.hd hc) (by omega) fun s' p out e ys old hg hos hle hp hs so nd mem len => ?_
  have hn := HOk.fresh I.hok hle
  refine ⟨.ref p, _, ?_, rfl, k ys p so nd (fun z => by rw [mem, decide_eq_true_iff]) hn⟩
  obtain ⟨h', g', d', t', o'⟩ := s'
  cases hos
  have hg : g' = s.gens := hg
  refine I.call (ch := []) (Un.laid old hle hn) (HOk.laid I.hok old hle ?_) (hg ▸ I.bare) (fun b m => nomatch m)
  rw [ObjOk.eq_1]
  refine ⟨?_, out.toList, e, vals_of_strs hs, by rw [Array.toArray_toList]; exact hp⟩
  rw [List.length_map, len]
  exact small64 (by omega)
end
end Lo

set_option Elab.async false
set_option linter.all false
set_option maxRecDepth 100000
set_option maxHeartbeats 4000000
namespace Lo
open PySem PySem.Spec PyProof.Rows L2
/-! ### errors with fields, caught -/
/-- isinstance(e, c), e the error that the suite holds, of the class at D, with a dict or without -/
def rIsD (K : PySem.W.Frag) (D a : Addr) (cls : Value) (d : Option Addr) : List V → Hp → VK → Prop := fun xs H Q => ∃ (c : V) (cv : Value) (b : Bool), xs = [.ref a, c] ∧ cls = .ref D ∧ (∀ x, d = some x → ∃ fs, H x = some (.xd fs)) ∧ (∀ u, RelV c u → u = cv) ∧ PySem.W.kitOne K (.ref D) cv = some b ∧ Q (.bl b) H
theorem call_isD {X : Cx} {a D : Addr} {oe : Obj} {cls : Value} {d : Option Addr} {pn : List (Addr × Obj)} (C : ExcC X.K D) (hz : Zc cls d oe) (hf : ∃ vs, oe.data = .fields vs) : CallR (X.suite a ((a, oe) :: pn)) (.builtin "isinstance") (rIsD X.K D a cls d) := by
  intro pins s σ H xs us Q I r h
  obtain ⟨c, cv, b, rfl, hcl, hd, hcv, e, q⟩ := h
  subst hcl
  match us, r with
  | _, .cons rx (.cons rt .nil) =>
    obtain rfl := hcv _ rt
    cases rx
    have hp := (I.pin (a, oe) (List.mem_append.mpr (.inl List.mem_cons_self))).1
    obtain ⟨vs, hv⟩ := hf
    obtain ⟨od, J⟩ : ∃ od, PySem.W.InstAt s.heap a oe D od := by
      cases d with
      | none => exact ⟨none, hp, hz.1, by unfold PySem.W.notCls; rw [hv] <;> rfl, by rw [hz.2]; exact True.intro⟩
      | some x =>
        obtain ⟨fs, ex⟩ := hd x rfl
        obtain ⟨mA, hns, _⟩ := (show ObjOk X.prog X.w H s.heap x (.xd fs) from I.hok x _ ex)
        obtain ⟨o, ho, _⟩ := lookIn_ns hns
        exact ⟨some o, hp, hz.1, by unfold PySem.W.notCls; rw [hv] <;> rfl, by rw [hz.2]; exact ho⟩
    obtain ⟨cd, hcd, _⟩ := PySem.W.any_some C.hd
    exact PySem.W.kia_one (PySem.W.kitx_exc (by rw [hcd]; rfl) C.hg C.hk C.hs C.ha C.hn C.ht C.hm) I.kIn J e (fun z => nomatch z) fun tk => ⟨.bl b, H, I.kept (t' := tk) fun _ _ z => z, rfl, q⟩
theorem list_1 {α : Type} {us : List α} {a : Str} (h : us.length = [a].length) : ∃ x, us = [x] := match us, h with | [x], _ => ⟨x, rfl⟩
theorem list_2 {α : Type} {us : List α} {a b : Str} (h : us.length = [a, b].length) : ∃ x y, us = [x, y] := match us, h with | [x, y], _ => ⟨x, y, rfl⟩
theorem list_3 {α : Type} {us : List α} {a b c : Str} (h : us.length = [a, b, c].length) : ∃ x y z, us = [x, y, z] := match us, h with | [x, y, z], _ => ⟨x, y, z, rfl⟩
/-! ### C(e, .., k = v, ..) -/
structure OwnK (P : Program) (w : World) (K : PySem.W.Frag) (mg : Str → Option Value) (base : Heap) (k : Nat) (x : Str) (C : Addr) (ps : List Str) (n : Nat) (ks : List Str) (gV : List V → List V → List V) (sp : Sp) : Prop where
  ex : ∃ f fd g, FnOk P w K mg base (L2N.CX P w) k f fd ps sp ∧ Mk K C f ∧ mg x = some (.ref C) ∧ KBn K fd ps (n + 1) ks g gV
def tOwnK (C : Addr) (n m : Nat) (sp : Sp) (gV : List V → List V → List V) (E : L2.St → XK) (t tk : TA) : TE := fun σ H Q => t σ H fun vs H1 => tk σ H1 fun zs H2 => vs.length = n ∧ zs.length = m ∧ ∀ x dx, H2 x = none → H2 dx = none → dx ≠ x →
  sp (gV (.ref x :: vs) zs) (upd (upd H2 dx (.own x)) x (.ins C dx [])) (fun v H3 => v = .non ∧ Q (.ref x) H3) (E σ)
theorem pe_ownk {X : Cx} {k n : Nat} {C : Addr} {ps ks : List Str} {sp : Sp} {E : L2.St → XK} {x : Str} {p pos : Pos} {e : Expr} {es : List Expr} {kws : List Keyword} {t tk : TA} {gV : List V → List V → List V} (O : OwnK X.prog X.w X.K X.mg X.base k x C ps n ks gV sp) (hr : Room (k + 1) X.A) (hg : Gl X x)
    (hx : ∀ σ, PassesAt (L2N.CX X.prog X.w) X σ (E σ)) (ha : PA X (e :: es) t) (hkw : PK X kws tk)
    (hall : (backToKw pos (keywordEach kws X.env)).all (·.1.isSome) = true := by rfl) (hks : (backToKw pos (keywordEach kws X.env)).filterMap (·.1) = ks := by rfl) (hdb : (x == ("__debug__" : Str)) = false := by decide)
    (he : starEach (e :: es) X.env = (false, eval e X.env) :: starEach es X.env := by rfl) (hpl : ((backTo pos (starEach (e :: es) X.env)).any (·.1) || (backToKw pos (keywordEach kws X.env)).any (·.1.isNone)) = false := by rfl) :
    PE X (.Call (.Name x p) (e :: es) kws pos) (tOwnK C n ks.length sp gV E t tk) := by
  obtain ⟨f, fd, g, F, M, hm, hb⟩ := O.ex
  constructor
  intro pins s σ H Q I h
  apply wpAny_Call_Name_kw (ld_glob I hg hm ?_ hdb)
  apply PySem.W.callWith_KW (h₀ := X.base) I.ok.mod.kin M.kp hall ?_ hpl he
  apply thn (ha.run pos pins s σ H _ I h)
  rintro us s1 ⟨vs, H1, I1, r, q⟩
  apply thn (hkw.run pos pins s1 σ H1 _ I1 q)
  rintro ws s2 ⟨zs, H2, I2, rz, l1, l2, q2⟩
  refine ⟨I2.kIn, ?_⟩
  rw [hks]
  have hq := q2 (s2.heap.objs.size + 1) s2.heap.objs.size (I2.hok.fresh (Nat.le_succ _)) (I2.hok.fresh (Nat.le_refl _)) (Nat.ne_of_lt (Nat.lt_succ_self _))
  have I3 := Inv.made (C := C) I2
  have r1 : Vals (V.ref (s2.heap.objs.size + 1) :: vs) (Value.ref (s2.heap.objs.size + 1) :: us) := .cons rfl r
  have n1 : (Value.ref (s2.heap.objs.size + 1) :: us).length = n + 1 := by rw [List.length_cons, ← r.length, l1]
  have run := F.run _ X.stack _ _ ⟨Value.ref (s2.heap.objs.size + 1) :: us, ks.zip ws⟩ _ _ _ (E σ) (hr.make C us (ks.zip ws)) (I3.env0.make C us (ks.zip ws)) (hb.to _ (Value.ref (s2.heap.objs.size + 1) :: us) ws I3.kIn n1 (rz.length.symm.trans l2)) (hb.rel r1 rz) hq
  refine wpAny_call (make_map (f := f) I2.kIn M.makes M.init (beq_iff_eq.mp M.fn) (codeAny_mono run ?_))
  rintro (e | fl) s' hq'
  · exact hx σ pins _ _ e s' I3 hq'
  · cases fl with
    | ret u =>
      obtain ⟨v, H', I4, rv, ev, q3⟩ := I3.after hq'
      subst ev
      exact ⟨rv, ⟨V.ref (s2.heap.objs.size + 1), H', I4, rfl, q3⟩⟩
    | next => exact hq'.elim
    | brk => exact hq'.elim
    | cont => exact hq'.elim
theorem vals_rev {vs : List V} {us : List Value} (h : Vals vs us) : Vals vs.reverse us.reverse := by
  induction h with
  | nil => exact .nil
  | cons r _ ih =>
    rw [List.reverse_cons, List.reverse_cons]
    exact ih.append (.cons r .nil)
theorem hq_nil {F : Str × V → Prop} : ∀ q ∈ ([] : List (Str × V)), F q := fun _ h => by cases h
theorem hq_cons {F : Str × V → Prop} {p : Str × V} {l : List (Str × V)} (h : F p) (k : ∀ q ∈ l, F q) : ∀ q ∈ p :: l, F q := fun q m => by
  rcases List.mem_cons.mp m with rfl | m
  · exact h
  · exact k q m
end Lo
namespace Lo
open PySem PySem.Spec PyProof.Rows L2
theorem iteBT {b : Bool} {A B : Prop} (h : b = true) (k : A) : if b = true then A else B := by rw [if_pos h]; exact k
theorem iteBF {b : Bool} {A B : Prop} (h : b = false) (k : B) : if b = true then A else B := by rw [if_neg (by rw [h]; decide)]; exact k
/-- a whole number from l to 1000000 -/
def wholeB (v : V) (l : Int) : Bool := match v with
  | .int i => decide (l ≤ i) && decide (i ≤ 1000000)
  | _ => false
/-! ### flat values compared -/
def dat : V → PyData
  | .non => .none | .bl b => .bool b | .int i => .int i | .str z => .str z
  | _ => .none
/-- None, a bool, an int, a text of sound signs -/
def fdB : V → Bool
  | .non => true | .bl _ => true | .int _ => true | .str z => PyData.strOk z
  | _ => false
theorem fd_flat {v : V} (h : fdB v = true) : flatV v = true := by
  cases v <;> first | rfl | cases h
theorem fd_all {K : PySem.W.Frag} {H : Hp} : ∀ {vs : List V}, vs.all fdB = true → DpAll K H vs (vs.map dat) ∧ PyData.canLayAll0 (vs.map dat) = true ∧ PyData.depthAll (vs.map dat) = 0
  | [], _ => ⟨.nil, rfl, rfl⟩
  | v :: vs, h => by
    obtain ⟨h1, h2⟩ := Bool.and_eq_true_iff.mp (show (fdB v && vs.all fdB) = true from h)
    obtain ⟨a, b, c⟩ := fd_all (K := K) (H := H) h2
    have one : Dp K H v (dat v) ∧ (dat v).canLay0 = true ∧ (dat v).depth = 0 := by
      cases v with
      | non => exact ⟨.non, rfl, rfl⟩
      | bl b => exact ⟨.bl b, rfl, rfl⟩
      | int i => exact ⟨.int i, rfl, rfl⟩
      | str z => exact ⟨.str z, h1, rfl⟩
      | _ => cases h1
    refine ⟨.cons one.1 a, ?_, ?_⟩
    · show ((dat v).canLay0 && PyData.canLayAll0 (vs.map dat)) = true
      rw [one.2.1, b]
      rfl
    · show max (dat v).depth (PyData.depthAll (vs.map dat)) = 0
      rw [one.2.2, c]
      rfl
theorem fd_tup {vs : List V} {K : PySem.W.Frag} {H : Hp} (h : vs.all fdB = true) : (PyData.tuple (vs.map dat)).canLay0 = true ∧ SeqAt.shaped (PyData.tuple (vs.map dat)) = true := by
  obtain ⟨_, b, c⟩ := fd_all (K := K) (H := H) h
  refine ⟨b, ?_⟩
  unfold SeqAt.shaped
  rw [show (PyData.tuple (vs.map dat)).canLay0 = true from b, Bool.true_and]
  refine decide_eq_true ?_
  show PyData.depthAll (vs.map dat) + 1 ≤ 64
  rw [c]
  decide
/-- t != u, tuples of the same flat values -/
theorem neTF {K : PySem.W.Frag} {H : Hp} {p q : Addr} {vs : List V} {Q : VK} (hp : H p = some (.tup vs)) (hq : H q = some (.tup vs)) (h : vs.all fdB = true) (k : Q (.bl false) H) : rNeD K (.ref p) (.ref q) H Q := by
  obtain ⟨c, s⟩ := fd_tup (K := K) (H := H) h
  have d := (fd_all (K := K) (H := H) h).1
  refine ⟨_, _, .tup (SqT.of hp) d, .tup (SqT.of hq) d, s, s, ?_⟩
  rw [SeqAt.eqv_refl _ c]
  exact k
theorem eqTF {K : PySem.W.Frag} {H : Hp} {p q : Addr} {vs : List V} {Q : VK} (hp : H p = some (.tup vs)) (hq : H q = some (.tup vs)) (h : vs.all fdB = true) (k : Q (.bl true) H) : rEqD K (.ref p) (.ref q) H Q := by
  obtain ⟨c, s⟩ := fd_tup (K := K) (H := H) h
  have d := (fd_all (K := K) (H := H) h).1
  refine ⟨_, _, .tup (SqT.of hp) d, .tup (SqT.of hq) d, s, s, ?_⟩
  rw [SeqAt.eqv_refl _ c]
  exact k
/-- one of a list at a place that was drawn -/
theorem at_mem {xs : List V} {d : Int} (h0 : 0 ≤ d) (h1 : d < (xs.length : Nat)) : ∃ v, atI xs d = some v ∧ v ∈ xs := by
  obtain ⟨D, rfl⟩ := Int.eq_ofNat_of_zero_le h0
  have hD : D < xs.length := by omega
  exact ⟨xs[D], atI_nat (by simp [hD]), List.getElem_mem hD⟩
end Lo
set_option Elab.async false
set_option linter.all false
set_option maxRecDepth 100000
set_option maxHeartbeats 4000000
local macro_rules | `(tactic| fail "lo_ne") => `(tactic| first
  | assumption
  | exact Ne.symm (by assumption))
local macro_rules | `(tactic| fail "lo_hq") => `(tactic| ((with_reducible show @Eq (Option L2.HO) _ _); first
  | (with_reducible exact L2.upd_same)
  | (with_reducible assumption)
  | exact Lo.sget (by with_reducible assumption) (by fail "lo_hq")
  | exact Lo.kget (by with_reducible assumption) (by fail "lo_ne") (by fail "lo_hq")
  | ((with_reducible show L2.upd _ _ _ _ = _); exact Lo.une (by fail "lo_ne") (by fail "lo_hq"))
  | assumption))
local macro_rules | `(tactic| fail "lo_R") => `(tactic| first
  | (with_reducible assumption)
  | exact Lo.rsame (by with_reducible assumption) (by fail "lo_R"))
local macro_rules | `(tactic| fail "lo_F") => `(tactic| first
  | (with_reducible assumption)
  | exact Lo.fsame (by with_reducible assumption) (by fail "lo_F")
  | exact Lo.tsame (by with_reducible assumption) (by fail "lo_F"))
local macro_rules | `(tactic| fail "lo_S") => `(tactic| first
  | (with_reducible assumption)
  | exact Lo.strans (by with_reducible assumption) (by fail "lo_S")
  | exact L2.Same.refl _)
local macro_rules | `(tactic| fail "lo_hp") => `(tactic| first
  | ((with_reducible show L2.SqT _ _ _ _); first | exact L2.SqT.of (by fail "lo_hq") | assumption)
  | ((with_reducible show L2.SqL _ _ _ _); first | exact L2.SqL.of (by fail "lo_hq") | assumption | exact L2.Same.seq (by assumption) (by fail "lo_hp")))
local macro_rules | `(tactic| fail "lo_mok") => `(tactic| first
  | exact Lo.mok_r (by decide)
  | exact Lo.mok_l (by decide)
  | exact Lo.mok_r (by omega)
  | exact Lo.mok_l (by omega)
  | assumption)
local macro_rules | `(tactic| fail "lo_cond") => `(tactic| first
  | (show PySem.IntMulOk _ _; fail "lo_mok")
  | (show (0 : Int) < _; first | decide | omega | assumption)
  | (show L2.CPow _ _; exact ⟨by decide, by decide, by first | decide | omega⟩)
  | (show Lo.CDivA _ _; exact ⟨by first | assumption | omega, by assumption⟩)
  | (show L2.CDivW _ _; exact ⟨by first | decide | omega, by first | decide | assumption⟩))
local macro_rules | `(tactic| fail "lo_lk") => `(tactic| ((with_reducible show @Eq (Option L2.V) _ _); first
  | exact Lo.lk0
  | exact Lo.lkn
  | exact Lo.lk1 (by decide +kernel) (by fail "lo_lk")))
/- one step of a reading that has one way only -/
local macro_rules | `(tactic| fail "lo_rd1") => `(tactic| first
  | (refine ⟨_, rfl, ?_⟩)
  | (refine ⟨_, _, rfl, rfl, (by fail "lo_cond"), ?_⟩)
  | (refine ⟨_, _, rfl, rfl, ?_⟩)
  | (refine ⟨_, _, _, _, rfl, rfl, (by fail "lo_hp"), Lo.ix_c (by rfl), ?_⟩)
  | (refine ⟨_, _, _, _, rfl, rfl, (by fail "lo_hq"), (by rfl), ?_⟩)
  | (refine ⟨_, _, _, _, _, rfl, (by fail "lo_hq"), (by fail "lo_cl"), (by fail "lo_na"), (by fail "lo_lk"), ?_⟩)
  | (refine ⟨_, _, _, _, rfl, (by fail "lo_hq"), (by fail "lo_cl"), (by fail "lo_na"), Nat.le_of_ble_eq_true rfl, ?_⟩)
  | (refine ⟨_, _, _, rfl, (by fail "lo_hq"), (by fail "lo_lk"), ?_⟩)
  | ((with_reducible show L2.rEqD _ (L2.V.ref _) (L2.V.ref _) _ _); refine Lo.eqT (by fail "lo_hq") (by fail "lo_hq") ?_)
  | ((with_reducible show L2.rNeD _ (L2.V.ref _) (L2.V.ref _) _ _); refine Lo.neT (by fail "lo_hq") (by fail "lo_hq") ?_)
  | (refine ⟨Or.inl ⟨rfl, _, (by fail "lo_hp")⟩, ?_⟩)
  | (refine Or.inl ⟨_, rfl, ?_⟩)
  | (refine Or.inr ⟨_, rfl, ?_⟩)
  | (refine ⟨rfl, ?_⟩)
  | (refine ⟨_, _, rfl, Or.inl (by fail "lo_hp"), ?_⟩)
  | (refine ⟨_, _, rfl, (by fail "lo_hp"), rfl, ?_⟩)
  | (refine ⟨_, _, rfl, ?_⟩)
  | (refine ⟨⟨_, (by fail "lo_hp")⟩, ?_⟩)
  | (refine ⟨Lo.line_le (Nat.le_of_ble_eq_true rfl), ?_⟩)
  | (refine ⟨⟨_, rfl⟩, _, rfl, rfl, True.intro, ?_⟩)
  | (with_reducible show L2.tNil _ _ _; dsimp only [L2.tNil]))
/- as many such steps as there are -/
local macro_rules | `(tactic| fail "rd") => `(tactic| repeat fail "lo_rd1")

namespace Lo
open PySem PySem.Spec PyProof.Rows L2
def top (i : Nat) : Stmt := PySem.Challenge.pw_lotcosts_k44_refused_rules.main.body.getD i (.Pass ⟨0, 0, 0, 0⟩)
structure Txt (K : PySem.W.Frag) (mg : Str → Option Value) (ca : Nat → Addr) : Prop where
  b_abs : mg "abs" = none
  b_bool : mg "bool" = none
  b_int : mg "int" = none
  b_isinstance : mg "isinstance" = none
  b_len : mg "len" = none
  b_list : mg "list" = none
  b_range : mg "range" = none
  c__MOST : ∃ t, mg "_MOST" = some (.int 1000000 t)
  g_CostError : mg "CostError" = some (.ref (ca 0))
  g_BadRule : mg "BadRule" = some (.ref (ca 9))
  te_BadRule : PySem.W.exmOne K (.ref (ca 9)) (.ref (ca 9)) = some true
  ec_BadRule : L2.ExcC K (ca 9)
  ox_BadRule : L2.OexC K (ca 9)
  xf_BadRule : L2.XfC K (ca 9)
  nf_BadRule_word : PySem.W.findIn K (.ref (ca 9)) "word" = some none
  cl_Ratio : Cls K (ca 2)
  na_Ratio_top : NoAttr K (ca 2) "top"
  na_Ratio_bottom : NoAttr K (ca 2) "bottom"
  cl_Rule : Cls K (ca 24)
  na_Rule_take : NoAttr K (ca 24) "take"
  na_Rule_place : NoAttr K (ca 24) "place"
  na_Rule_period : NoAttr K (ca 24) "period"
  ki_BadRule_CostError : PySem.W.kitOne K (.ref (ca 9)) (.ref (ca 0)) = some true
local macro_rules | `(tactic| fail "lo_cl") => `(tactic| ((with_reducible show L2.Cls _ _); first
  | exact (show Txt _ _ _ by assumption).cl_Ratio
  | exact (show Txt _ _ _ by assumption).cl_Rule))
local macro_rules | `(tactic| fail "lo_na") => `(tactic| ((with_reducible show L2.NoAttr _ _ _); first
  | exact (show Txt _ _ _ by assumption).na_Ratio_top
  | exact (show Txt _ _ _ by assumption).na_Ratio_bottom
  | exact (show Txt _ _ _ by assumption).na_Rule_take
  | exact (show Txt _ _ _ by assumption).na_Rule_place
  | exact (show Txt _ _ _ by assumption).na_Rule_period))
section
variable {P : Program} {w : World} {K : PySem.W.Frag} {mg : Str → Option Value} {base : Heap} {ca : Nat → Addr}
abbrev s_l_bag : Stmt := top 22
theorem sc_l_bag : FnScope ["_law_script"] ["_law_script"] (defScope s_l_bag) := ⟨rfl, rfl, rfl, by decide +kernel, rfl, by decide +kernel, by decide +kernel⟩
def sp_l_bag (K : PySem.W.Frag) (_ : Nat → Addr) : Sp := fun vs H Q _ => ∃ (a : Addr) (ns : List Int), vs = [.ref a] ∧ SqL K H a (ns.map V.int) ∧ ∀ (L b : Addr) (H' : Hp), H b = none → H L = none → Same H H' → Bag H' L b → Q (.ref b) H'
theorem ok_l_bag {f : Addr} {fd : FuncData} (F : Fun K "_law_bag" "_law_bag" s_l_bag f fd) (T : Txt K mg ca)  : FnOk P w K mg base (L2N.CX P w) 1 f fd ["_law_script"] (sp_l_bag K ca) := by
  refine okN F sc_l_bag (fun vs H Q E h => ?_) (fun cdv A outer s H vs Q E hr h => ?_)
  · obtain ⟨_, _, rfl, _⟩ := h
    rfl
  · obtain ⟨a, ns, rfl, hs, k⟩ := h
    refine ⟨_, pss_one (ps_ret (pe_lst (pa_cons (pe_callTy call_list_of (by rfl) T.b_list (by decide +kernel) (pa_cons (pv 0) pa_nil)) (pa_cons pe_int (pa_cons pe_int (pa_cons pe_int (pa_cons pe_int pa_nil))))))), ?_⟩
    fail "rd"
    intro L n_L
    generalize g_H1 : upd _ L _ = H1
    obtain ⟨s_H1, e_L⟩ := gen_new n_L g_H1
    clear g_H1
    fail "rd"
    intro b n_b
    generalize g_H2 : upd _ b _ = H2
    obtain ⟨s_H2, e_b⟩ := gen_new n_b g_H2
    clear g_H2
    exact k L b H2 (s_H1.free n_b) n_L (s_H1.trans s_H2) (Bag.mk (i := 0) e_b (s_H2 _ _ e_L) (ne_of_none e_L n_b))

abbrev s_l_draw : Stmt := top 23
theorem sc_l_draw : FnScope ["_law_bag_here", "_law_size", "_law_cell", "_law_digit", "_law_mixed"] ["_law_bag_here", "_law_size"] (defScope s_l_draw) := ⟨rfl, rfl, rfl, by decide +kernel, rfl, by decide +kernel, by decide +kernel⟩
def sp_l_draw (_ : PySem.W.Frag) (_ : Nat → Addr) : Sp := fun vs H Q _ => ∃ (b : Addr) (n : Int), vs = [.ref b, .int n] ∧ ∃ L : Addr, Bag H L b ∧ 0 < n ∧ n.natAbs.log2 < 9000 ∧ ∀ (d : Int) (H' : Hp), 0 ≤ d → d < n → Keep b H H' → Bag H' L b → Q (.int d) H'
theorem ok_l_draw {f : Addr} {fd : FuncData} (F : Fun K "_law_draw" "_law_draw" s_l_draw f fd) (T : Txt K mg ca)  : FnOk P w K mg base (L2N.CX P w) 1 f fd ["_law_bag_here", "_law_size"] (sp_l_draw K ca) := by
  refine okN F sc_l_draw (fun vs H Q E h => ?_) (fun cdv A outer s H vs Q E hr h => ?_)
  · obtain ⟨_, _, rfl, _⟩ := h
    rfl
  · obtain ⟨b, n, rfl, L, hB, h0, hn, k⟩ := h
    refine ⟨_, pss_cons (ps_asg (pe_op op_add (pe_ix ix_list (pv 0) pe_int (fun _ _ => rfl)) pe_int) (pg_sub (pv 0) pe_int set_list)) (Evl.pss_cut (ps_if (PW.pt (pw_and (pt_cmpR op_eq (pe_ix ix_list (pv 0) pe_int (fun _ _ => rfl)) pe_int (nomark _)) (pw_and1 (pt_cmpR op_lt (pe_ix ix_list (pv 0) pe_int (fun _ _ => rfl)) (pe_callB call_len_seq (by rfl) T.b_len (by decide +kernel) (pa_cons (pe_ix ix_list (pv 0) pe_int (fun _ _ => rfl)) pa_nil)) (nomark _))))) (pss_cons (ps_set (i := 2) sc_l_draw.nd rfl (Or.inl rfl) (pe_ix ix_list (pe_ix ix_list (pv 0) pe_int (fun _ _ => rfl)) (pe_ix ix_list (pv 0) pe_int (fun _ _ => rfl)) (fun _ _ => rfl))) (pss_cons (ps_asg (pe_op op_add (pe_ix ix_list (pv 0) pe_int (fun _ _ => rfl)) pe_int) (pg_sub (pv 0) pe_int set_list)) (pss_cons (ps_asg (pe_op op_mulI (pe_op op_add (pe_op op_mulI pe_int (pe_callB call_abs (by rfl) T.b_abs (by decide +kernel) (pa_cons (pv 2) pa_nil))) (pe_callTy call_int1 (by rfl) T.b_int (by decide +kernel) (pa_cons (pe_cmpR op_lt (pv 2) pe_int (nomark _)) pa_nil))) (pe_callTy call_int1 (by rfl) T.b_int (by decide +kernel) (pa_cons (pe_cmpR op_ge (pe_callB call_abs (by rfl) T.b_abs (by decide +kernel) (pa_cons (pv 2) pa_nil)) (pe_op op_pow pe_int pe_int) (nomark _)) pa_nil))) (pg_sub (pv 0) pe_int set_list)) (pss_one (ps_asg (pe_op op_mod (pe_callTy call_int1 (by rfl) T.b_int (by decide +kernel) (pa_cons (pe_op op_add (pe_op op_add (pe_op op_mulI (pe_ix ix_list (pv 0) pe_int (fun _ _ => rfl)) pe_int) (pe_op op_mulI (pv 2) pe_int)) pe_int) pa_nil)) pe_int) (pg_sub (pv 0) pe_int set_list)))))) pss_nil) (pss_cons (ps_set (i := 3) sc_l_draw.nd rfl (Or.inl rfl) (pe_op op_mod (pe_callTy call_int1 (by rfl) T.b_int (by decide +kernel) (pa_cons (pe_ix ix_list (pv 0) pe_int (fun _ _ => rfl)) pa_nil)) (pv 1))) (pss_cons (ps_if (pt_cmpR op_gt (pe_ix ix_list (pv 0) pe_int (fun _ _ => rfl)) pe_int (nomark _)) (pss_cons (ps_asg (pe_op op_fdivW (pe_ix ix_list (pv 0) pe_int (fun _ _ => rfl)) (pv 1)) (pg_sub (pv 0) pe_int set_list)) (pss_one (ps_ret (pv 3)))) pss_nil) (pss_cons (ps_set (i := 4) sc_l_draw.nd rfl (Or.inl rfl) (pe_op op_mod (pe_callTy call_int1 (by rfl) T.b_int (by decide +kernel) (pa_cons (pe_op op_add (pe_ix ix_list (pv 0) pe_int (fun _ _ => rfl)) (pe_op op_mulI (pe_ix ix_list (pv 0) pe_int (fun _ _ => rfl)) pe_int)) pa_nil)) pe_int)) (pss_cons (ps_set (i := 4) sc_l_draw.nd rfl (Or.inl rfl) (pe_op op_mod (pe_callTy call_int1 (by rfl) T.b_int (by decide +kernel) (pa_cons (pe_op op_add (pe_op op_add (pe_op op_pow (pv 4) pe_int) (pe_op op_mulI (pe_ix ix_list (pv 0) pe_int (fun _ _ => rfl)) pe_int)) pe_int) pa_nil)) pe_int)) (pss_one (ps_ret (pe_op op_mod (pe_op op_fdivW (pe_op op_mod (pe_callTy call_int1 (by rfl) T.b_int (by decide +kernel) (pa_cons (pe_op op_pow (pv 4) pe_int) pa_nil)) pe_int) pe_int) (pv 1))))))))), ?_⟩
    obtain ⟨ns, i, big, mix, cnt, hb, hL, hne⟩ := hB
    iterate 5 fail "lo_rd1"
    generalize g_H1 : upd _ b _ = H1
    obtain ⟨k_H1, e_H1⟩ := gen_put g_H1
    clear g_H1
    refine ⟨fun σ' H' => ∃ (v : Option V) (i : Nat) (big mix cnt : Int), σ' = [some (.ref b), some (.int n), v, none, none] ∧ Keep b H H' ∧ H' b = some (.lst [.ref L, .int i, .int big, .int mix, .int cnt]), ?_, ?_⟩
    · fail "rd"
      refine iteI (fun z1 => ?_) (fun z1 => ?_)
      · fail "rd"
        refine iteD (fun z2 => ?_) (fun z2 => ?_)
        · fail "rd"
          have hi : i < ns.length := by
            have z3 : (i : Int) < ((ns.map V.int).length : Nat) := z2
            rw [List.length_map] at z3
            omega
          refine ⟨_, _, _, _, rfl, rfl, (by fail "lo_hp"), atI_nat (v := .int ns[i]) (by simp [hi]), ?_⟩
          fail "rd"
          exact ⟨_, i + 1, _, _, _, rfl, ((k_H1.trans keep_upd).trans keep_upd).trans keep_upd, upd_same⟩
        · exact ⟨_, _, _, _, _, rfl, k_H1, e_H1⟩
      · exact ⟨_, _, _, _, _, rfl, k_H1, e_H1⟩
    · rintro σ' H' ⟨v, i, big, mix, cnt, rfl, kp, hb'⟩
      have hL' : H' L = some (.lst (ns.map V.int)) := kp _ _ hL hne
      fail "rd"
      refine iteD (fun z3 => ?_) (fun z3 => ?_)
      · fail "rd"
        exact k _ _ (Int.emod_nonneg _ (by omega)) (Int.emod_lt_of_pos _ h0) (kp.trans keep_upd) (Bag.mk upd_same (une hne hL') hne)
      · fail "rd"
        exact k _ _ (Int.emod_nonneg _ (by omega)) (Int.emod_lt_of_pos _ h0) kp (Bag.mk hb' hL' hne)

abbrev s_is_whole : Stmt := top 12
theorem sc_is_whole : FnScope ["number", "least"] ["number", "least"] (defScope s_is_whole) := ⟨rfl, rfl, rfl, by decide +kernel, rfl, by decide +kernel, by decide +kernel⟩
def sp_is_whole (_ : PySem.W.Frag) (_ : Nat → Addr) : Sp := fun vs H Q _ => ∃ (v : V) (l : Int), vs = [v, .int l] ∧ flatV v = true ∧ Q (.bl (wholeB v l)) H
theorem ok_is_whole {f : Addr} {fd : FuncData} (F : Fun K "is_whole" "is_whole" s_is_whole f fd) (T : Txt K mg ca)  : FnOk P w K mg base (L2N.CX P w) 1 f fd ["number", "least"] (sp_is_whole K ca) := by
  refine okN F sc_is_whole (fun vs H Q E h => ?_) (fun cdv A outer s H vs Q E hr h => ?_)
  · obtain ⟨_, _, rfl, _⟩ := h
    rfl
  · obtain ⟨v, l, rfl, hv, k⟩ := h
    refine ⟨_, pss_cons (ps_if (PW.pt (pw_or (pt_val (pe_callB call_isi (by rfl) T.b_isinstance (by decide +kernel) (pa_cons (pv 0) (pa_cons (pe_bltn (v := .ty "bool") (by rfl) T.b_bool (by decide +kernel) rfl) pa_nil)))) (pw_or1 (pt_not (pt_val (pe_callB call_isi (by rfl) T.b_isinstance (by decide +kernel) (pa_cons (pv 0) (pa_cons (pe_bltn (v := .ty "int") (by rfl) T.b_int (by decide +kernel) rfl) pa_nil)))))))) (pss_one (ps_ret pe_bl)) pss_nil) (pss_one (ps_ret (pe_chain op_le op_le (pv 1) (pv 0) (pe_const T.c__MOST rfl)))), ?_⟩
    fail "rd"
    cases v with
    | non =>
      refine ⟨_, _, _, _, false, rfl, .ty "bool", .base .non, kit_ty (by decide +kernel), ?_⟩
      fail "rd"
      refine ⟨_, _, _, _, false, rfl, .ty "int", .base .non, kit_ty (by decide +kernel), ?_⟩
      fail "rd"
      exact k
    | bl b =>
      refine ⟨_, _, _, _, true, rfl, .ty "bool", .base (.bl _), kit_ty (by decide +kernel), ?_⟩
      fail "rd"
      exact k
    | int i =>
      refine ⟨_, _, _, _, false, rfl, .ty "bool", .base (.int _), kit_ty (by decide +kernel), ?_⟩
      fail "rd"
      refine ⟨_, _, _, _, true, rfl, .ty "int", .base (.int _), kit_ty (by decide +kernel), ?_⟩
      fail "rd"
      replace k : Q (.bl (decide (l ≤ i) && decide (i ≤ 1000000))) H := k
      refine iteD (fun y => ?_) (fun y => ?_)
      · rw [decide_eq_true y] at k
        fail "rd"
        exact k
      · rw [decide_eq_false y] at k
        exact k
    | str z =>
      refine ⟨_, _, _, _, false, rfl, .ty "bool", .base (.str _), kit_ty (by decide +kernel), ?_⟩
      fail "rd"
      refine ⟨_, _, _, _, false, rfl, .ty "int", .base (.str _), kit_ty (by decide +kernel), ?_⟩
      fail "rd"
      exact k
    | ref a => cases hv
    | byt a => cases hv
    | flt a => cases hv
    | ty a => cases hv

abbrev s_BadRule_init : Stmt := inClass (top 5) 0
theorem sc_BadRule_init : FnScope ["self", "word"] ["self", "word"] (defScope s_BadRule_init) := ⟨rfl, rfl, rfl, by decide +kernel, rfl, by decide +kernel, by decide +kernel⟩
theorem ok_BadRule_init {f : Addr} {fd : FuncData} (F : Fun K "__init__" "BadRule.__init__" s_BadRule_init f fd) (T : Txt K mg ca)  : FnOk P w K mg base (L2N.CX P w) 1 f fd ["self", "word"] (spErr (ca 9) ["word"]) := by
  refine okN F sc_BadRule_init (fun vs H Q E h => ?_) (fun cdv A outer s H vs Q E hr h => ?_)
  · obtain ⟨a, us, rfl, hl, _⟩ := h
    exact congrArg Nat.succ hl
  · obtain ⟨a, us, rfl, hl, ha, k⟩ := h
    obtain ⟨x0, rfl⟩ := list_1 hl
    refine ⟨_, pss_one (ps_ost (pv 0) (pv 1)), ?_⟩
    refine ⟨_, rfl, _, rfl, ?_⟩
    refine err_1 T.ox_BadRule T.nf_BadRule_word ha fun dx H1 nd ne a1 d1 m1 => ?_
    exact k dx _ nd ne a1 d1 fun b o e n => m1 _ _ e n
abbrev s_Rule_init : Stmt := inClass (top 20) 0
theorem sc_Rule_init : FnScope ["self", "take", "place", "period"] ["self", "take", "place", "period"] (defScope s_Rule_init) := ⟨rfl, rfl, rfl, by decide +kernel, rfl, by decide +kernel, by decide +kernel⟩
def ruleW (a b c : V) : Option Str := if inV a [.str "oldest", .str "newest", .str "even"] = true then (if inV b [.str "top", .str "bottom", .str "own"] = true then (if wholeB c 0 = true then none else some "period") else some "place") else some "take"
def sp_Rule_init (_ : PySem.W.Frag) (ca : Nat → Addr) : Sp := fun vs H Q E => ∃ (p dx : Addr) (a b c : V), vs = [.ref p, a, b, c] ∧ H p = some (.ins (ca 24) dx []) ∧ flatV a = true ∧ flatV b = true ∧ flatV c = true ∧
  (∀ z, ruleW a b c = some z → ∀ (d : Addr) (H' : Hp), Same H H' → H' d = some (.xd [("word", .str z)]) → E (.ref (ca 9)) (some d) H') ∧
  (ruleW a b c = none → ∀ H' : Hp, Keep p H H' → H' p = some (.ins (ca 24) dx [("take", a), ("place", b), ("period", c)]) → Q .non H')
theorem rule_in {K : PySem.W.Frag} {ca : Nat → Addr} {H : Hp} {a b c : V} {R : VK} {E : XK} {p dx : Addr} (n : H p = none) (nd : H dx = none) (ne : dx ≠ p) (ha : flatV a = true) (hb : flatV b = true) (hc : flatV c = true)
    (kE : ∀ z, ruleW a b c = some z → ∀ (d : Addr) (H' : Hp), Same H H' → H' d = some (.xd [("word", .str z)]) → E (.ref (ca 9)) (some d) H')
    (k : ruleW a b c = none → ∀ H' : Hp, Same H H' → H' p = some (.ins (ca 24) dx [("take", a), ("place", b), ("period", c)]) → R .non H') :
    sp_Rule_init K ca [.ref p, a, b, c] (upd (upd H dx (.own p)) p (.ins (ca 24) dx [])) R E := by
  have n2 : upd H dx (.own p) p = none := by rw [upd_ne ne.symm]; exact n
  have s : Same H (upd (upd H dx (.own p)) p (.ins (ca 24) dx [])) := (same_upd nd).trans (same_upd n2)
  exact ⟨p, dx, a, b, c, rfl, upd_same, ha, hb, hc, fun z hz d H' s' e => kE z hz d H' (s.trans s') e, fun hz H' kp e => k hz H' (same_made n nd ne kp) e⟩
theorem ok_Rule_init {f : Addr} {fd : FuncData} (F : FunD K "__init__" "Rule.__init__" (defArgs s_Rule_init) (defBody s_Rule_init) (defScope s_Rule_init) [] [("place", .str "own"), ("period", .int 0)] f fd) (T : Txt K mg ca) (O_is_whole : Own P w K mg base 1 "is_whole" ["number", "least"] (sp_is_whole K ca)) (O_BadRule_init : OwnE P w K mg base "BadRule" (ca 9) ["word"]) : FnOk P w K mg base (L2N.CX P w) 3 f fd ["self", "take", "place", "period"] (sp_Rule_init K ca) := by
  refine F.ok sc_Rule_init (fun vs H Q E h => ?_) (fun cdv A outer s H vs Q E hr h => ?_)
  · obtain ⟨_, _, _, _, _, rfl, _⟩ := h
    rfl
  · obtain ⟨p, dx, a, b, c, rfl, hp, ha, hb, hc, kE, k⟩ := h
    refine ⟨_, pss_cons (ps_if (pt_cmpR op_notIn_seq (pv 1) (pe_tup (pa_cons pe_str (pa_cons pe_str (pa_cons pe_str pa_nil)))) (by with_unfolding_all rfl)) (pss_one (ps_raiseE rfl O_BadRule_init (hr.mono (by decide)) (L2N.takes_of rfl rfl rfl rfl) rfl (pa_cons pe_str pa_nil))) pss_nil) (pss_cons (ps_if (pt_cmpR op_notIn_seq (pv 2) (pe_tup (pa_cons pe_str (pa_cons pe_str (pa_cons pe_str pa_nil)))) (by with_unfolding_all rfl)) (pss_one (ps_raiseE rfl O_BadRule_init (hr.mono (by decide)) (L2N.takes_of rfl rfl rfl rfl) rfl (pa_cons pe_str pa_nil))) pss_nil) (pss_cons (ps_if (pt_not (pt_val (pe_own O_is_whole (hr.mono (by decide)) rfl (pasE (L2N.takes_of rfl rfl rfl rfl)) (pa_cons (pv 3) (pa_cons pe_int pa_nil))))) (pss_one (ps_raiseE rfl O_BadRule_init (hr.mono (by decide)) (L2N.takes_of rfl rfl rfl rfl) rfl (pa_cons pe_str pa_nil))) pss_nil) (pss_cons (ps_fld (pv 0) (pv 1) rfl) (pss_cons (ps_fld (pv 0) (pv 2) rfl) (pss_one (ps_fld (pv 0) (pv 3) rfl)))))), ?_⟩
    fail "rd"
    unfold ruleW at kE k
    intro t1 n_t1
    generalize g_H1 : upd _ t1 _ = H1
    obtain ⟨s_H1, e_t1⟩ := gen_new n_t1 g_H1
    clear g_H1
    refine ⟨t1, _, rfl, .inr (SqT.of e_t1), ha, rfl, ?_⟩
    refine ⟨_, rfl, ?_⟩
    have hp1 := s_H1 _ _ hp
    have er : ∀ {z : Str} {G : Hp}, Same H G → (∀ (d : Addr) (H' : Hp), Same H H' → H' d = some (.xd [("word", .str z)]) → E (.ref (ca 9)) (some d) H') → (∀ (d : Addr) (H2 : Hp), G d = none → Same G H2 → H2 d = some (.xd ((["word"] : List Str).zip [V.str z]).reverse) → E (.ref (ca 9)) (some d) H2) :=
      fun s kE d H2 _ s2 e => kE d H2 (s.trans s2) e
    cases h1 : inV a [.str "oldest", .str "newest", .str "even"]
    · rw [h1, if_neg Bool.false_ne_true] at kE
      refine iteBT rfl ?_
      exact err_in rfl (by decide) (er s_H1 (kE _ rfl))
    · rw [h1, if_pos rfl] at kE k
      refine iteBF rfl ?_
      fail "rd"
      intro t2 n_t2
      generalize g_H2 : upd _ t2 _ = H2
      obtain ⟨s_H2, e_t2⟩ := gen_new n_t2 g_H2
      clear g_H2
      refine ⟨t2, _, rfl, .inr (SqT.of e_t2), hb, rfl, ?_⟩
      refine ⟨_, rfl, ?_⟩
      have hp2 := s_H2 _ _ hp1
      cases h2 : inV b [.str "top", .str "bottom", .str "own"]
      · rw [h2, if_neg Bool.false_ne_true] at kE
        refine iteBT rfl ?_
        exact err_in rfl (by decide) (er (s_H1.trans s_H2) (kE _ rfl))
      · rw [h2, if_pos rfl] at kE k
        refine iteBF rfl ?_
        fail "rd"
        refine ⟨hc, ?_⟩
        fail "rd"
        cases h3 : wholeB c 0
        · rw [h3, if_neg Bool.false_ne_true] at kE
          refine iteBT rfl ?_
          exact err_in rfl (by decide) (er (s_H1.trans s_H2) (kE _ rfl))
        · rw [h3, if_pos rfl] at k
          refine iteBF rfl ?_
          fail "rd"
          refine k rfl _ ((Keep.of (s_H1.trans s_H2)).trans ((keep_upd.trans keep_upd).trans keep_upd)) ?_
          rw [upd_same, putF_nil, putF_ne (by decide +kernel), putF_nil, putF_ne (by decide +kernel), putF_ne (by decide +kernel), putF_nil]

abbrev s_l_told : Stmt := top 24
theorem sc_l_told : FnScope ["_law_take", "_law_laid", "_law_span", "_law_way", "_law_made", "e"] ["_law_take", "_law_laid", "_law_span", "_law_way"] (defScope s_l_told) := ⟨rfl, rfl, rfl, by decide +kernel, rfl, by decide +kernel, by decide +kernel⟩
def argB (b : V) (w : Int) : V := if w = 0 then .str "own" else if w = 1 then b else if w = 2 then .str "own" else b
def argC (c : V) (w : Int) : V := if w = 0 then .int 0 else if w = 1 then .int 0 else c
def toldR (a b c : V) (w : Int) : List V := match ruleW a (argB b w) (argC c w) with
  | some z => [.str z, .bl true]
  | none => [a, argB b w, argC c w]
def sp_l_told (_ : PySem.W.Frag) (_ : Nat → Addr) : Sp := fun vs H Q _ => ∃ (a b c : V) (w : Int), vs = [a, b, c, .int w] ∧ flatV a = true ∧ flatV b = true ∧ flatV c = true ∧ ∀ (p : Addr) (H' : Hp), Same H H' → H' p = some (.tup (toldR a b c w)) → Q (.ref p) H'
theorem ok_l_told {f : Addr} {fd : FuncData} (F : Fun K "_law_told" "_law_told" s_l_told f fd) (T : Txt K mg ca) (O_Rule_1 : OwnI P w K mg base 3 "Rule" (ca 24) ["self", "take", "place", "period"] [.str "own", .int 0] (sp_Rule_init K ca)) (O_Rule_1_period : OwnK P w K mg base 3 "Rule" (ca 24) ["self", "take", "place", "period"] 1 ["period"] (fun vs zs => vs ++ ([.str "own"] ++ zs)) (sp_Rule_init K ca)) (O_Rule_1_period_place : OwnK P w K mg base 3 "Rule" (ca 24) ["self", "take", "place", "period"] 1 ["period", "place"] (fun vs zs => vs ++ ([] ++ zs.reverse)) (sp_Rule_init K ca)) (O_Rule_1_place : OwnK P w K mg base 3 "Rule" (ca 24) ["self", "take", "place", "period"] 1 ["place"] (fun vs zs => vs ++ (zs ++ [.int 0])) (sp_Rule_init K ca)) : FnOk P w K mg base (L2N.CX P w) 5 f fd ["_law_take", "_law_laid", "_law_span", "_law_way"] (sp_l_told K ca) := by
  refine okN F sc_l_told (fun vs H Q E h => ?_) (fun cdv A outer s H vs Q E hr h => ?_)
  · obtain ⟨_, _, _, _, rfl, _⟩ := h
    rfl
  · obtain ⟨a, b, c, w, rfl, ha, hb, hc, k⟩ := h
    refine ⟨_, pss_one (L2N.ps_try_as (i := 5) (Wout := fun _ _ _ _ => False) rfl rfl sc_l_told.nd rfl rfl ⟨rfl, by decide, Or.inl T.g_BadRule⟩ takesN (fun W pn xe tk _ => Evl.pss_cut (ps_if (pt_cmpR op_eq (pv 3) pe_int (nomark _)) (pss_one (ps_set (i := 4) sc_l_told.nd rfl (Or.inl rfl) (pe_owni O_Rule_1 (hr.mono (by decide)) rfl (fun σ => L2N.passAt tk σ) (pa_cons (pv 0) pa_nil)))) (pss_one (ps_if (pt_cmpR op_eq (pv 3) pe_int (nomark _)) (pss_one (ps_set (i := 4) sc_l_told.nd rfl (Or.inl rfl) (pe_ownk O_Rule_1_place (hr.mono (by decide)) rfl (fun σ => L2N.passAt tk σ) (pa_cons (pv 0) pa_nil) (pk_cons (pv 1) pk_nil)))) (pss_one (ps_if (pt_cmpR op_eq (pv 3) pe_int (nomark _)) (pss_one (ps_set (i := 4) sc_l_told.nd rfl (Or.inl rfl) (pe_ownk O_Rule_1_period (hr.mono (by decide)) rfl (fun σ => L2N.passAt tk σ) (pa_cons (pv 0) pa_nil) (pk_cons (pv 2) pk_nil)))) (pss_one (ps_set (i := 4) sc_l_told.nd rfl (Or.inl rfl) (pe_ownk O_Rule_1_period_place (hr.mono (by decide)) rfl (fun σ => L2N.passAt tk σ) (pa_cons (pv 0) pa_nil) (pk_cons (pv 2) (pk_cons (pv 1) pk_nil)))))))))) (pss_one (ps_ret (pe_tup (pa_cons (pe_fldK (K := K) (pv 4) rfl rfl) (pa_cons (pe_fldK (K := K) (pv 4) rfl rfl) (pa_cons (pe_fldK (K := K) (pv 4) rfl rfl) pa_nil))))))) (fun a oe cls d pn hzn hf => have hz := hzn.zc; pss_one (ps_ret (pe_tup (pa_cons (pe_xf T.xf_BadRule T.nf_BadRule_word hz hf (pv 5)) (pa_cons (pe_callB (call_isD T.ec_BadRule hz hf) (by rfl) T.b_isinstance (by decide +kernel) (pa_cons (pv 5) (pa_cons (pe_glob (v := .ref (ca 0)) (by rfl) T.g_CostError rfl) pa_nil))) pa_nil)))))), ?_⟩
    refine ⟨fun σ' H' => ∃ r dx, σ' = [some a, some b, some c, some (.int w), some (.ref r), none] ∧ Same H H' ∧ ruleW a (argB b w) (argC c w) = none ∧ H' r = some (.ins (ca 24) dx [("take", a), ("place", argB b w), ("period", argC c w)]), ?_, ?_⟩
    · fail "rd"
      refine iteI (fun z => ?_) (fun z => ?_)
      · have eB : argB b w = .str "own" := by unfold argB; simp [z]
        have eC : argC c w = .int 0 := by unfold argC; simp [z]
        fail "rd"
        intro r dx nr ndr ner
        refine rule_in nr ndr ner (b := .str "own") (c := .int 0) ha (by decide) (by decide) (fun z hz d H1 s1 e1 => ?_) fun hz H1 s1 e1 => ⟨rfl, ?_⟩
        · refine ⟨true, T.te_BadRule, fun _ e ne => ?_, fun q => Bool.noConfusion q⟩
          fail "rd"
          refine ⟨_, _, true, rfl, rfl, fun x hx => by cases hx; exact ⟨_, e1⟩, fun u r => r, T.ki_BadRule_CostError, ?_⟩
          fail "rd"
          intro p n_p
          generalize g_H2 : upd _ p _ = H2
          obtain ⟨s_H2, e_p⟩ := gen_new n_p g_H2
          clear g_H2
          refine k p H2 (s1.trans s_H2) ?_
          unfold toldR
          rw [eB, eC, hz]
          exact e_p
        · exact ⟨r, dx, rfl, s1, by rw [eB, eC]; exact hz, by rw [eB, eC]; exact e1⟩
      · fail "rd"
        refine iteI (fun z1 => ?_) (fun z1 => ?_)
        · have eB : argB b w = b := by unfold argB; simp [z1]
          have eC : argC c w = .int 0 := by unfold argC; simp [z1]
          fail "rd"
          intro r dx nr ndr ner
          refine rule_in nr ndr ner (b := b) (c := .int 0) ha hb (by decide) (fun z hz d H1 s1 e1 => ?_) fun hz H1 s1 e1 => ⟨rfl, ?_⟩
          · refine ⟨true, T.te_BadRule, fun _ e ne => ?_, fun q => Bool.noConfusion q⟩
            fail "rd"
            refine ⟨_, _, true, rfl, rfl, fun x hx => by cases hx; exact ⟨_, e1⟩, fun u r => r, T.ki_BadRule_CostError, ?_⟩
            fail "rd"
            intro p n_p
            generalize g_H2 : upd _ p _ = H2
            obtain ⟨s_H2, e_p⟩ := gen_new n_p g_H2
            clear g_H2
            refine k p H2 (s1.trans s_H2) ?_
            unfold toldR
            rw [eB, eC, hz]
            exact e_p
          · exact ⟨r, dx, rfl, s1, by rw [eB, eC]; exact hz, by rw [eB, eC]; exact e1⟩
        · fail "rd"
          refine iteI (fun z2 => ?_) (fun z2 => ?_)
          · have eB : argB b w = .str "own" := by unfold argB; simp [z2]
            have eC : argC c w = c := by unfold argC; simp [z2]
            fail "rd"
            intro r dx nr ndr ner
            refine rule_in nr ndr ner (b := .str "own") (c := c) ha (by decide) hc (fun z hz d H1 s1 e1 => ?_) fun hz H1 s1 e1 => ⟨rfl, ?_⟩
            · refine ⟨true, T.te_BadRule, fun _ e ne => ?_, fun q => Bool.noConfusion q⟩
              fail "rd"
              refine ⟨_, _, true, rfl, rfl, fun x hx => by cases hx; exact ⟨_, e1⟩, fun u r => r, T.ki_BadRule_CostError, ?_⟩
              fail "rd"
              intro p n_p
              generalize g_H2 : upd _ p _ = H2
              obtain ⟨s_H2, e_p⟩ := gen_new n_p g_H2
              clear g_H2
              refine k p H2 (s1.trans s_H2) ?_
              unfold toldR
              rw [eB, eC, hz]
              exact e_p
            · exact ⟨r, dx, rfl, s1, by rw [eB, eC]; exact hz, by rw [eB, eC]; exact e1⟩
          · have eB : argB b w = b := by unfold argB; simp [z, z1, z2]
            have eC : argC c w = c := by unfold argC; simp [z, z1, z2]
            fail "rd"
            intro r dx nr ndr ner
            refine rule_in nr ndr ner (b := b) (c := c) ha hb hc (fun z hz d H1 s1 e1 => ?_) fun hz H1 s1 e1 => ⟨rfl, ?_⟩
            · refine ⟨true, T.te_BadRule, fun _ e ne => ?_, fun q => Bool.noConfusion q⟩
              fail "rd"
              refine ⟨_, _, true, rfl, rfl, fun x hx => by cases hx; exact ⟨_, e1⟩, fun u r => r, T.ki_BadRule_CostError, ?_⟩
              fail "rd"
              intro p n_p
              generalize g_H2 : upd _ p _ = H2
              obtain ⟨s_H2, e_p⟩ := gen_new n_p g_H2
              clear g_H2
              refine k p H2 (s1.trans s_H2) ?_
              unfold toldR
              rw [eB, eC, hz]
              exact e_p
            · exact ⟨r, dx, rfl, s1, by rw [eB, eC]; exact hz, by rw [eB, eC]; exact e1⟩
    · rintro σ' H1 ⟨r, dx, rfl, s1, hz, e1⟩
      fail "rd"
      intro p n_p
      generalize g_H2 : upd _ p _ = H2
      obtain ⟨s_H2, e_p⟩ := gen_new n_p g_H2
      clear g_H2
      refine k p H2 (s1.trans s_H2) ?_
      unfold toldR
      rw [hz]
      exact e_p

abbrev s_law : Stmt := top 25
theorem sc_law : FnScope ["_law_script", "_law_bag_here", "_law_turn", "_law_wrong", "_law_take", "_law_laid", "_law_span", "_law_way", "_law_due"] ["_law_script"] (defScope s_law) := ⟨rfl, rfl, rfl, by decide +kernel, rfl, by decide +kernel, by decide +kernel⟩
def dueR (w0 w1 w2 : Bool) (a b c : V) (w : Int) : List V := if w0 = true then [.str "take", .bl true] else if w1 = true ∧ (w = 1 ∨ w = 3) then [.str "place", .bl true] else if w2 = true ∧ 1 < w then [.str "period", .bl true] else [a, argB b w, argC c w]
theorem due_told {w0 w1 w2 : Bool} {a b c : V} {w : Int} (h : w = 0 ∨ w = 1 ∨ w = 2 ∨ w = 3) (ia : inV a [.str "oldest", .str "newest", .str "even"] = !w0) (ib : inV b [.str "top", .str "bottom", .str "own"] = !w1) (ic : wholeB c 0 = !w2) : toldR a b c w = dueR w0 w1 w2 a b c w := by
  have io : inV (.str "own") [.str "top", .str "bottom", .str "own"] = true := by decide +kernel
  have iz : wholeB (.int 0) 0 = true := rfl
  rcases h with rfl | rfl | rfl | rfl <;> cases w0 <;> cases w1 <;> cases w2 <;> simp [toldR, dueR, ruleW, argB, argC, ia, ib, ic, io, iz]
theorem told_fd {a b c : V} {w : Int} (h : w = 0 ∨ w = 1 ∨ w = 2 ∨ w = 3) (fa : fdB a = true) (fb : fdB b = true) (fc : fdB c = true) : (toldR a b c w).all fdB = true := by
  unfold toldR
  cases e : ruleW a (argB b w) (argC c w) with
  | some z =>
    have hz : PyData.strOk z = true := by
      unfold ruleW at e
      split at e
      · split at e
        · split at e
          · cases e
          · cases e; decide +kernel
        · cases e; decide +kernel
      · cases e; decide +kernel
    simp [fdB, hz]
  | none =>
    have hb : fdB (argB b w) = true := by
      unfold argB
      repeat' split
      all_goals first | exact fb | decide +kernel
    have hc : fdB (argC c w) = true := by
      unfold argC
      repeat' split
      all_goals first | exact fc | decide +kernel
    simp [fa, hb, hc]
theorem ok_law {f : Addr} {fd : FuncData} (F : Fun K "law" "law" s_law f fd) (T : Txt K mg ca) (O__law_bag : Own P w K mg base 1 "_law_bag" ["_law_script"] (sp_l_bag K ca)) (O__law_draw : Own P w K mg base 1 "_law_draw" ["_law_bag_here", "_law_size"] (sp_l_draw K ca)) (O__law_told : Own P w K mg base 5 "_law_told" ["_law_take", "_law_laid", "_law_span", "_law_way"] (sp_l_told K ca)) : FnOk P w K mg base (L2N.CX P w) 6 f fd ["_law_script"] (sp_law K ca) := by
  refine okN F sc_law (fun vs H Q E h => ?_) (fun cdv A outer s H vs Q E hr h => ?_)
  · obtain ⟨_, _, rfl, _⟩ := h
    rfl
  · obtain ⟨s0, ns, rfl, hs, k⟩ := h
    refine ⟨_, pss_cons (ps_set (i := 1) sc_law.nd rfl (Or.inl rfl) (pe_own O__law_bag (hr.mono (by decide)) rfl pas0 (pa_cons (pv 0) pa_nil))) (pss_cons (ps_for (passes_of rfl) rfl (pi_range1 rfl T.b_range (pa_cons pe_int pa_nil)) (pg_name (i := 2) sc_law.nd rfl (Or.inl rfl)) (pss_cons (ps_set (i := 3) sc_law.nd rfl (Or.inl rfl) (pe_lst (pa_cons (pe_cmpR op_eq (pe_own O__law_draw (hr.mono (by decide)) rfl pas0 (pa_cons (pv 1) (pa_cons pe_int pa_nil))) pe_int (nomark _)) (pa_cons (pe_cmpR op_eq (pe_own O__law_draw (hr.mono (by decide)) rfl pas0 (pa_cons (pv 1) (pa_cons pe_int pa_nil))) pe_int (nomark _)) (pa_cons (pe_cmpR op_eq (pe_own O__law_draw (hr.mono (by decide)) rfl pas0 (pa_cons (pv 1) (pa_cons pe_int pa_nil))) pe_int (nomark _)) pa_nil))))) (pss_cons (ps_set (i := 4) sc_law.nd rfl (Or.inl rfl) (pe_ix ix_list (pe_lst (pa_cons pe_str (pa_cons pe_str (pa_cons pe_str pa_nil)))) (pe_own O__law_draw (hr.mono (by decide)) rfl pas0 (pa_cons (pv 1) (pa_cons pe_int pa_nil))) (fun _ _ => rfl))) (pss_cons (ps_set (i := 5) sc_law.nd rfl (Or.inl rfl) (pe_ix ix_list (pe_lst (pa_cons pe_str (pa_cons pe_str (pa_cons pe_str pa_nil)))) (pe_own O__law_draw (hr.mono (by decide)) rfl pas0 (pa_cons (pv 1) (pa_cons pe_int pa_nil))) (fun _ _ => rfl))) (pss_cons (ps_set (i := 6) sc_law.nd rfl (Or.inl rfl) (pe_ix ix_list (pe_lst (pa_cons pe_int (pa_cons pe_int (pa_cons pe_int (pa_cons (pe_own O__law_draw (hr.mono (by decide)) rfl pas0 (pa_cons (pv 1) (pa_cons pe_int pa_nil))) pa_nil))))) (pe_own O__law_draw (hr.mono (by decide)) rfl pas0 (pa_cons (pv 1) (pa_cons pe_int pa_nil))) (fun _ _ => rfl))) (Evl.pss_cut (ps_if (pt_val (pe_ix ix_list (pv 3) pe_int (fun _ _ => rfl))) (pss_one (ps_set (i := 4) sc_law.nd rfl (Or.inl rfl) (pe_ix ix_list (pe_lst (pa_cons pe_str (pa_cons pe_str (pa_cons pe_str (pa_cons pe_str (pa_cons pe_str (pa_cons pe_str (pa_cons pe_non (pa_cons pe_int pa_nil))))))))) (pe_own O__law_draw (hr.mono (by decide)) rfl pas0 (pa_cons (pv 1) (pa_cons pe_int pa_nil))) (fun _ _ => rfl)))) pss_nil) (Evl.pss_cut (ps_if (pt_val (pe_ix ix_list (pv 3) pe_int (fun _ _ => rfl))) (pss_one (ps_set (i := 5) sc_law.nd rfl (Or.inl rfl) (pe_ix ix_list (pe_lst (pa_cons pe_str (pa_cons pe_str (pa_cons pe_str (pa_cons pe_str (pa_cons pe_str (pa_cons pe_str (pa_cons pe_non (pa_cons pe_int pa_nil))))))))) (pe_own O__law_draw (hr.mono (by decide)) rfl pas0 (pa_cons (pv 1) (pa_cons pe_int pa_nil))) (fun _ _ => rfl)))) pss_nil) (Evl.pss_cut (ps_if (pt_val (pe_ix ix_list (pv 3) pe_int (fun _ _ => rfl))) (pss_one (ps_set (i := 6) sc_law.nd rfl (Or.inl rfl) (pe_ix ix_list (pe_lst (pa_cons (pe_un un_neg pe_int) (pa_cons pe_int (pa_cons (pe_un un_neg pe_int) (pa_cons (pe_op op_pow pe_int pe_int) (pa_cons pe_non (pa_cons pe_str pa_nil))))))) (pe_own O__law_draw (hr.mono (by decide)) rfl pas0 (pa_cons (pv 1) (pa_cons pe_int pa_nil))) (fun _ _ => rfl)))) pss_nil) (pss_one (ps_for (passes_of rfl) rfl (pi_range1 rfl T.b_range (pa_cons pe_int pa_nil)) (pg_name (i := 7) sc_law.nd rfl (Or.inl rfl)) (pss_cons (ps_set (i := 8) sc_law.nd rfl (Or.inl rfl) (pe_tup (pa_cons (pv 4) (pa_cons (pe_ix ix_list (pe_lst (pa_cons pe_str (pa_cons (pv 5) pa_nil))) (pe_op op_mod (pe_callTy call_int1 (by rfl) T.b_int (by decide +kernel) (pa_cons (pv 7) pa_nil)) pe_int) (fun _ _ => rfl)) (pa_cons (pe_ix ix_list (pe_lst (pa_cons pe_int (pa_cons (pv 6) pa_nil))) (pe_op op_fdivW (pv 7) pe_int) (fun _ _ => rfl)) pa_nil))))) (Evl.pss_cut (ps_if (PW.pt (pw_and (pt_val (pe_ix ix_list (pv 3) pe_int (fun _ _ => rfl))) (pw_and1 (pt_cmpR op_gt (pv 7) pe_int (nomark _))))) (pss_one (ps_set (i := 8) sc_law.nd rfl (Or.inl rfl) (pe_tup (pa_cons pe_str (pa_cons pe_bl pa_nil))))) pss_nil) (Evl.pss_cut (ps_if (PW.pt (pw_and (pt_val (pe_ix ix_list (pv 3) pe_int (fun _ _ => rfl))) (pw_and1 (pt_cmpR op_in_seq (pv 7) (pe_lst (pa_cons pe_int (pa_cons pe_int pa_nil))) (by with_unfolding_all rfl))))) (pss_one (ps_set (i := 8) sc_law.nd rfl (Or.inl rfl) (pe_tup (pa_cons pe_str (pa_cons pe_bl pa_nil))))) pss_nil) (Evl.pss_cut (ps_if (pt_val (pe_ix ix_list (pv 3) pe_int (fun _ _ => rfl))) (pss_one (ps_set (i := 8) sc_law.nd rfl (Or.inl rfl) (pe_tup (pa_cons pe_str (pa_cons pe_bl pa_nil))))) pss_nil) (pss_one (ps_if (pt_cmpR (op_neD (Room.units (hr.mono (Nat.zero_le _)))) (pe_own O__law_told (hr.mono (by decide)) rfl pas0 (pa_cons (pv 4) (pa_cons (pv 5) (pa_cons (pv 6) (pa_cons (pv 7) pa_nil))))) (pv 8) (nomark _)) (pss_one (ps_ret pe_bl)) pss_nil)))))))))))))))) (pss_one (ps_ret pe_bl))), ?_⟩
    fail "rd"
    refine ⟨s0, ns, rfl, hs, fun L bag H1 nb nL s1 B1 => ?_⟩
    fail "rd"
    refine ⟨by decide, by decide, for_range (n := 3) (fun i σ' H' => ∃ v2 v3 v4 v5 v6 v7 v8, σ' = [some (.ref s0), some (.ref bag), v2, v3, v4, v5, v6, v7, v8] ∧ Bag H' L bag) ⟨none, none, none, none, none, none, none, rfl, B1⟩ ?_ ?_⟩
    · rintro i σ' H2 hi ⟨v2, v3, v4, v5, v6, v7, v8, rfl, B2⟩
      fail "rd"
      refine ⟨L, B2, by decide, by decide, fun d0 H3 _ _ k3 B3 => ?_⟩
      fail "rd"
      refine ⟨L, B3, by decide, by decide, fun d1 H4 _ _ k4 B4 => ?_⟩
      fail "rd"
      refine ⟨L, B4, by decide, by decide, fun d2 H5 _ _ k5 B5 => ?_⟩
      fail "rd"
      generalize decide (V.int d0 = V.int 0) = w0
      generalize decide (V.int d1 = V.int 0) = w1
      generalize decide (V.int d2 = V.int 0) = w2
      intro lw n_lw
      generalize g_H6 : upd _ lw _ = H6
      obtain ⟨s_H6, e_lw⟩ := gen_new n_lw g_H6
      clear g_H6
      have B6 := B5.same s_H6
      have nw := B5.ne n_lw
      fail "rd"
      intro p1 n_p1
      generalize g_H7 : upd _ p1 _ = H7
      obtain ⟨s_H7, e_p1⟩ := gen_new n_p1 g_H7
      clear g_H7
      have e_lw := s_H7 _ _ e_lw
      fail "rd"
      refine ⟨L, B6.same s_H7, by decide, by decide, fun d H8 u0 u1 k8 B8 => ?_⟩
      have e_p1 := k8 _ _ e_p1 (B6.ne n_p1)
      have e_lw := k8 _ _ e_lw nw
      obtain ⟨a1, ea1, ma1⟩ := at_mem (xs := [.str "oldest", .str "newest", .str "even"]) u0 u1
      have ha1 : ∀ v ∈ ([.str "oldest", .str "newest", .str "even"] : List V), fdB v = true ∧ inV v [.str "oldest", .str "newest", .str "even"] = true := by decide +kernel
      refine ⟨p1, _, _, _, rfl, rfl, SqL.of e_p1, ea1, ?_⟩
      fail "rd"
      obtain ⟨fa1, ia1⟩ := ha1 _ ma1
      have Bq := B8
      intro p2 n_p2
      generalize g_H9 : upd _ p2 _ = H9
      obtain ⟨s_H9, e_p2⟩ := gen_new n_p2 g_H9
      clear g_H9
      have e_lw := s_H9 _ _ e_lw
      have B9 := B8.same s_H9
      fail "rd"
      refine ⟨L, B9, by decide, by decide, fun d H10 u0 u1 k10 B10 => ?_⟩
      have e_p2 := k10 _ _ e_p2 (B8.ne n_p2)
      have e_lw := k10 _ _ e_lw nw
      obtain ⟨b1, eb1, mb1⟩ := at_mem (xs := [.str "own", .str "top", .str "bottom"]) u0 u1
      have hb1 : ∀ v ∈ ([.str "own", .str "top", .str "bottom"] : List V), fdB v = true ∧ inV v [.str "top", .str "bottom", .str "own"] = true := by decide +kernel
      obtain ⟨fb1, ib1⟩ := hb1 _ mb1
      refine ⟨p2, _, _, _, rfl, rfl, SqL.of e_p2, eb1, ?_⟩
      fail "rd"
      refine ⟨L, B10, by decide, lg164 (by decide), fun g H11 g0 g1 k11 B11 => ?_⟩
      have e_lw := k11 _ _ e_lw nw
      fail "rd"
      intro p3 n_p3
      generalize g_H12 : upd _ p3 _ = H12
      obtain ⟨s_H12, e_p3⟩ := gen_new n_p3 g_H12
      clear g_H12
      have e_lw := s_H12 _ _ e_lw
      have B12 := B11.same s_H12
      fail "rd"
      refine ⟨L, B12, by decide, by decide, fun d H13 u0 u1 k13 B13 => ?_⟩
      have e_p3 := k13 _ _ e_p3 (B11.ne n_p3)
      have e_lw := k13 _ _ e_lw nw
      obtain ⟨c1, ec1, mc1⟩ := at_mem (xs := [.int 0, .int 1, .int 1000000, .int g]) u0 u1
      have hc1 : fdB c1 = true ∧ wholeB c1 0 = true := by
        simp only [List.mem_cons, List.not_mem_nil, or_false] at mc1
        rcases mc1 with rfl | rfl | rfl | rfl
        · exact ⟨rfl, rfl⟩
        · exact ⟨rfl, rfl⟩
        · exact ⟨rfl, rfl⟩
        · refine ⟨rfl, ?_⟩
          show (decide (0 ≤ g) && decide (g ≤ 1000000)) = true
          rw [decide_eq_true g0, decide_eq_true (by omega)]
          rfl
      obtain ⟨fc1, ic1⟩ := hc1
      refine ⟨p3, _, _, _, rfl, rfl, SqL.of e_p3, ec1, ?_⟩
      fail "rd"
      clear e_p1 e_p2 e_p3 hb1 ha1
      refine ⟨fun σ' H' => ∃ a, σ' = [some (.ref s0), some (.ref bag), some (.int (0 + i)), some (.ref lw), some a, some b1, some c1, v7, v8] ∧ Bag H' L bag ∧ H' lw = some (.lst [.bl w0, .bl w1, .bl w2]) ∧ fdB a = true ∧ inV a [.str "oldest", .str "newest", .str "even"] = !w0, ?_, ?_⟩
      · fail "rd"
        cases w0
        · refine iteBF rfl ?_
          exact ⟨a1, rfl, B13, e_lw, fa1, ia1⟩
        · refine iteBT rfl ?_
          fail "rd"
          intro q n_q
          generalize g_H14 : upd _ q _ = H14
          obtain ⟨s_H14, e_q⟩ := gen_new n_q g_H14
          clear g_H14
          fail "rd"
          refine ⟨L, B13.same s_H14, by decide, by decide, fun d H15 u0 u1 k15 B15 => ?_⟩
          obtain ⟨v, ev, mv⟩ := at_mem (xs := [.str "own", .str "top", .str "", .str "Oldest", .str "average", .str "old", .non, .int 3]) u0 u1
          have hv : ∀ v ∈ ([.str "own", .str "top", .str "", .str "Oldest", .str "average", .str "old", .non, .int 3] : List V), fdB v = true ∧ inV v [.str "oldest", .str "newest", .str "even"] = false := by decide +kernel
          refine ⟨q, _, _, _, rfl, rfl, SqL.of (k15 _ _ e_q (B13.ne n_q)), ev, ?_⟩
          exact ⟨v, rfl, B15, k15 _ _ (s_H14 _ _ e_lw) nw, (hv v mv).1, (hv v mv).2⟩
      rintro _ H14 ⟨a, rfl, B14, e_lw, fa, ia⟩
      fail "rd"
      refine ⟨fun σ' H' => ∃ b, σ' = [some (.ref s0), some (.ref bag), some (.int (0 + i)), some (.ref lw), some a, some b, some c1, v7, v8] ∧ Bag H' L bag ∧ H' lw = some (.lst [.bl w0, .bl w1, .bl w2]) ∧ fdB b = true ∧ inV b [.str "top", .str "bottom", .str "own"] = !w1, ?_, ?_⟩
      · fail "rd"
        cases w1
        · refine iteBF rfl ?_
          exact ⟨b1, rfl, B14, e_lw, fb1, ib1⟩
        · refine iteBT rfl ?_
          fail "rd"
          intro q n_q
          generalize g_H15 : upd _ q _ = H15
          obtain ⟨s_H15, e_q⟩ := gen_new n_q g_H15
          clear g_H15
          fail "rd"
          refine ⟨L, B14.same s_H15, by decide, by decide, fun d H16 u0 u1 k16 B16 => ?_⟩
          obtain ⟨v, ev, mv⟩ := at_mem (xs := [.str "oldest", .str "even", .str "", .str "Top", .str "middle", .str "ow", .non, .int 3]) u0 u1
          have hv : ∀ v ∈ ([.str "oldest", .str "even", .str "", .str "Top", .str "middle", .str "ow", .non, .int 3] : List V), fdB v = true ∧ inV v [.str "top", .str "bottom", .str "own"] = false := by decide +kernel
          refine ⟨q, _, _, _, rfl, rfl, SqL.of (k16 _ _ e_q (B14.ne n_q)), ev, ?_⟩
          exact ⟨v, rfl, B16, k16 _ _ (s_H15 _ _ e_lw) nw, (hv v mv).1, (hv v mv).2⟩
      rintro _ H15 ⟨b, rfl, B15, e_lw, fb, ib⟩
      fail "rd"
      refine ⟨fun σ' H' => ∃ c, σ' = [some (.ref s0), some (.ref bag), some (.int (0 + i)), some (.ref lw), some a, some b, some c, v7, v8] ∧ Bag H' L bag ∧ H' lw = some (.lst [.bl w0, .bl w1, .bl w2]) ∧ fdB c = true ∧ wholeB c 0 = !w2, ?_, ?_⟩
      · fail "rd"
        cases w2
        · refine iteBF rfl ?_
          exact ⟨c1, rfl, B15, e_lw, fc1, ic1⟩
        · refine iteBT rfl ?_
          fail "rd"
          intro q n_q
          generalize g_H16 : upd _ q _ = H16
          obtain ⟨s_H16, e_q⟩ := gen_new n_q g_H16
          clear g_H16
          fail "rd"
          refine ⟨L, B15.same s_H16, by decide, by decide, fun d H17 u0 u1 k17 B17 => ?_⟩
          obtain ⟨v, ev, mv⟩ := at_mem u0 (xs := [.int (-1), .int 1000001, .int (-1000000), .int (10 ^ Int.toNat 29), .non, .str "3"]) u1
          have hv : ∀ v ∈ ([.int (-1), .int 1000001, .int (-1000000), .int (10 ^ Int.toNat 29), .non, .str "3"] : List V), fdB v = true ∧ wholeB v 0 = false := by decide +kernel
          refine ⟨q, _, _, _, rfl, rfl, SqL.of (k17 _ _ e_q (B15.ne n_q)), ev, ?_⟩
          exact ⟨v, rfl, B17, k17 _ _ (s_H16 _ _ e_lw) nw, (hv v mv).1, (hv v mv).2⟩
      rintro _ H16 ⟨c, rfl, B16, e_lw, fc, ic⟩
      fail "rd"
      refine ⟨by decide, by decide, for_range (n := 4) (fun j σ' H' => ∃ u1 u2, σ' = [some (.ref s0), some (.ref bag), some (.int (0 + i)), some (.ref lw), some a, some b, some c, u1, u2] ∧ Same H16 H') ⟨_, _, rfl, Same.refl _⟩ ?_ ?_⟩
      · rintro j σ' H17 hj ⟨u1, u2, rfl, s17⟩
        have e_lw := s17 _ _ e_lw
        generalize hw : (0 + (j : Int)) = w
        have hw4 : w = 0 ∨ w = 1 ∨ w = 2 ∨ w = 3 := by omega
        clear hw
        have D0 : ∃ D : List V, D = [a, argB b w, argC c w] := ⟨_, rfl⟩
        rcases hw4 with hw | hw | hw | hw <;> subst hw
        · fail "rd"
          intro q1 n_q1
          generalize g_H18 : upd _ q1 _ = H18
          obtain ⟨s_H18, e_q1⟩ := gen_new n_q1 g_H18
          clear g_H18
          fail "rd"
          intro q2 n_q2
          generalize g_H19 : upd _ q2 _ = H19
          obtain ⟨s_H19, e_q2⟩ := gen_new n_q2 g_H19
          clear g_H19
          have e_q1 := s_H19 _ _ e_q1
          fail "rd"
          intro t n_t
          generalize g_H20 : upd _ t _ = H20
          obtain ⟨s_H20, e_t⟩ := gen_new n_t g_H20
          clear g_H20
          have e_lw := s_H20 _ _ (s_H19 _ _ (s_H18 _ _ e_lw))
          have s20 := s_H18.trans (s_H19.trans s_H20)
          fail "rd"
          refine ⟨fun σ' H' => ∃ t, σ' = [some (.ref s0), some (.ref bag), some (.int (0 + i)), some (.ref lw), some a, some b, some c, some (.int 0), some (.ref t)] ∧ Same H20 H' ∧ H' t = some (.tup (if w2 = true ∧ (1 : Int) < 0 then [.str "period", .bl true] else [a, argB b 0, argC c 0])), ?_, ?_⟩
          · fail "rd"
            cases w2
            · refine iteBF rfl ?_
              exact ⟨t, rfl, Same.refl _, e_t⟩
            · refine iteBT rfl ?_
              fail "rd"
              exact ⟨Same.refl _, e_t⟩
          rintro _ H21 ⟨t, rfl, s21, e_t⟩
          have e_lw21 := s21 _ _ e_lw
          fail "rd"
          refine ⟨fun σ' H' => ∃ t, σ' = [some (.ref s0), some (.ref bag), some (.int (0 + i)), some (.ref lw), some a, some b, some c, some (.int 0), some (.ref t)] ∧ Same H20 H' ∧ H' t = some (.tup (if w1 = true ∧ ((0 : Int) = 1 ∨ (0 : Int) = 3) then [.str "place", .bl true] else if w2 = true ∧ (1 : Int) < 0 then [.str "period", .bl true] else [a, argB b 0, argC c 0])), ?_, ?_⟩
          · fail "rd"
            cases w1
            · refine iteBF rfl ?_
              exact ⟨t, rfl, s21, e_t⟩
            · refine iteBT rfl ?_
              fail "rd"
              intro u n_u
              generalize g_H22 : upd _ u _ = H22
              obtain ⟨s_H22, e_u⟩ := gen_new n_u g_H22
              clear g_H22
              fail "rd"
              exact ⟨s21.trans s_H22, s_H22 _ _ e_t⟩
          rintro _ H22 ⟨t, rfl, s22, e_t⟩
          have e_lw22 := s22 _ _ e_lw
          fail "rd"
          refine ⟨fun σ' H' => ∃ t, σ' = [some (.ref s0), some (.ref bag), some (.int (0 + i)), some (.ref lw), some a, some b, some c, some (.int 0), some (.ref t)] ∧ Same H20 H' ∧ H' t = some (.tup (dueR w0 w1 w2 a b c 0)), ?_, ?_⟩
          · fail "rd"
            cases w0
            · refine iteBF rfl ?_
              exact ⟨t, rfl, s22, e_t⟩
            · refine iteBT rfl ?_
              fail "rd"
              intro u n_u
              generalize g_H23 : upd _ u _ = H23
              obtain ⟨s_H23, e_u⟩ := gen_new n_u g_H23
              clear g_H23
              exact ⟨u, rfl, s22.trans s_H23, e_u⟩
          rintro _ H23 ⟨t, rfl, s23, e_t⟩
          fail "rd"
          refine ⟨a, b, c, 0, rfl, fd_flat fa, fd_flat fb, fd_flat fc, fun r H24 s24 e_r => ?_⟩
          have e_t := s24 _ _ e_t
          rw [← due_told (by decide) ia ib ic] at e_t
          fail "rd"
          refine neTF e_r e_t (told_fd (by decide) fa fb fc) ?_
          fail "rd"
          exact s17.trans (s20.trans (s23.trans s24))
        · fail "rd"
          intro q1 n_q1
          generalize g_H18 : upd _ q1 _ = H18
          obtain ⟨s_H18, e_q1⟩ := gen_new n_q1 g_H18
          clear g_H18
          fail "rd"
          intro q2 n_q2
          generalize g_H19 : upd _ q2 _ = H19
          obtain ⟨s_H19, e_q2⟩ := gen_new n_q2 g_H19
          clear g_H19
          have e_q1 := s_H19 _ _ e_q1
          fail "rd"
          intro t n_t
          generalize g_H20 : upd _ t _ = H20
          obtain ⟨s_H20, e_t⟩ := gen_new n_t g_H20
          clear g_H20
          have e_lw := s_H20 _ _ (s_H19 _ _ (s_H18 _ _ e_lw))
          have s20 := s_H18.trans (s_H19.trans s_H20)
          fail "rd"
          refine ⟨fun σ' H' => ∃ t, σ' = [some (.ref s0), some (.ref bag), some (.int (0 + i)), some (.ref lw), some a, some b, some c, some (.int 1), some (.ref t)] ∧ Same H20 H' ∧ H' t = some (.tup (if w2 = true ∧ (1 : Int) < 1 then [.str "period", .bl true] else [a, argB b 1, argC c 1])), ?_, ?_⟩
          · fail "rd"
            cases w2
            · refine iteBF rfl ?_
              exact ⟨t, rfl, Same.refl _, e_t⟩
            · refine iteBT rfl ?_
              fail "rd"
              exact ⟨Same.refl _, e_t⟩
          rintro _ H21 ⟨t, rfl, s21, e_t⟩
          have e_lw21 := s21 _ _ e_lw
          fail "rd"
          refine ⟨fun σ' H' => ∃ t, σ' = [some (.ref s0), some (.ref bag), some (.int (0 + i)), some (.ref lw), some a, some b, some c, some (.int 1), some (.ref t)] ∧ Same H20 H' ∧ H' t = some (.tup (if w1 = true ∧ ((1 : Int) = 1 ∨ (1 : Int) = 3) then [.str "place", .bl true] else if w2 = true ∧ (1 : Int) < 1 then [.str "period", .bl true] else [a, argB b 1, argC c 1])), ?_, ?_⟩
          · fail "rd"
            cases w1
            · refine iteBF rfl ?_
              exact ⟨t, rfl, s21, e_t⟩
            · refine iteBT rfl ?_
              fail "rd"
              intro u n_u
              generalize g_H22 : upd _ u _ = H22
              obtain ⟨s_H22, e_u⟩ := gen_new n_u g_H22
              clear g_H22
              fail "rd"
              intro v n_v
              generalize g_H23 : upd _ v _ = H23
              obtain ⟨s_H23, e_v⟩ := gen_new n_v g_H23
              clear g_H23
              exact ⟨v, rfl, s21.trans (s_H22.trans s_H23), e_v⟩
          rintro _ H22 ⟨t, rfl, s22, e_t⟩
          have e_lw22 := s22 _ _ e_lw
          fail "rd"
          refine ⟨fun σ' H' => ∃ t, σ' = [some (.ref s0), some (.ref bag), some (.int (0 + i)), some (.ref lw), some a, some b, some c, some (.int 1), some (.ref t)] ∧ Same H20 H' ∧ H' t = some (.tup (dueR w0 w1 w2 a b c 1)), ?_, ?_⟩
          · fail "rd"
            cases w0
            · refine iteBF rfl ?_
              exact ⟨t, rfl, s22, e_t⟩
            · refine iteBT rfl ?_
              fail "rd"
              intro u n_u
              generalize g_H23 : upd _ u _ = H23
              obtain ⟨s_H23, e_u⟩ := gen_new n_u g_H23
              clear g_H23
              exact ⟨u, rfl, s22.trans s_H23, e_u⟩
          rintro _ H23 ⟨t, rfl, s23, e_t⟩
          fail "rd"
          refine ⟨a, b, c, 1, rfl, fd_flat fa, fd_flat fb, fd_flat fc, fun r H24 s24 e_r => ?_⟩
          have e_t := s24 _ _ e_t
          rw [← due_told (by decide) ia ib ic] at e_t
          fail "rd"
          refine neTF e_r e_t (told_fd (by decide) fa fb fc) ?_
          fail "rd"
          exact s17.trans (s20.trans (s23.trans s24))
        · fail "rd"
          intro q1 n_q1
          generalize g_H18 : upd _ q1 _ = H18
          obtain ⟨s_H18, e_q1⟩ := gen_new n_q1 g_H18
          clear g_H18
          fail "rd"
          intro q2 n_q2
          generalize g_H19 : upd _ q2 _ = H19
          obtain ⟨s_H19, e_q2⟩ := gen_new n_q2 g_H19
          clear g_H19
          have e_q1 := s_H19 _ _ e_q1
          fail "rd"
          intro t n_t
          generalize g_H20 : upd _ t _ = H20
          obtain ⟨s_H20, e_t⟩ := gen_new n_t g_H20
          clear g_H20
          have e_lw := s_H20 _ _ (s_H19 _ _ (s_H18 _ _ e_lw))
          have s20 := s_H18.trans (s_H19.trans s_H20)
          fail "rd"
          refine ⟨fun σ' H' => ∃ t, σ' = [some (.ref s0), some (.ref bag), some (.int (0 + i)), some (.ref lw), some a, some b, some c, some (.int 2), some (.ref t)] ∧ Same H20 H' ∧ H' t = some (.tup (if w2 = true ∧ (1 : Int) < 2 then [.str "period", .bl true] else [a, argB b 2, argC c 2])), ?_, ?_⟩
          · fail "rd"
            cases w2
            · refine iteBF rfl ?_
              exact ⟨t, rfl, Same.refl _, e_t⟩
            · refine iteBT rfl ?_
              fail "rd"
              intro u n_u
              generalize g_H21 : upd _ u _ = H21
              obtain ⟨s_H21, e_u⟩ := gen_new n_u g_H21
              clear g_H21
              exact ⟨u, rfl, s_H21, e_u⟩
          rintro _ H21 ⟨t, rfl, s21, e_t⟩
          have e_lw21 := s21 _ _ e_lw
          fail "rd"
          refine ⟨fun σ' H' => ∃ t, σ' = [some (.ref s0), some (.ref bag), some (.int (0 + i)), some (.ref lw), some a, some b, some c, some (.int 2), some (.ref t)] ∧ Same H20 H' ∧ H' t = some (.tup (if w1 = true ∧ ((2 : Int) = 1 ∨ (2 : Int) = 3) then [.str "place", .bl true] else if w2 = true ∧ (1 : Int) < 2 then [.str "period", .bl true] else [a, argB b 2, argC c 2])), ?_, ?_⟩
          · fail "rd"
            cases w1
            · refine iteBF rfl ?_
              exact ⟨t, rfl, s21, e_t⟩
            · refine iteBT rfl ?_
              fail "rd"
              intro u n_u
              generalize g_H22 : upd _ u _ = H22
              obtain ⟨s_H22, e_u⟩ := gen_new n_u g_H22
              clear g_H22
              fail "rd"
              exact ⟨s21.trans s_H22, s_H22 _ _ e_t⟩
          rintro _ H22 ⟨t, rfl, s22, e_t⟩
          have e_lw22 := s22 _ _ e_lw
          fail "rd"
          refine ⟨fun σ' H' => ∃ t, σ' = [some (.ref s0), some (.ref bag), some (.int (0 + i)), some (.ref lw), some a, some b, some c, some (.int 2), some (.ref t)] ∧ Same H20 H' ∧ H' t = some (.tup (dueR w0 w1 w2 a b c 2)), ?_, ?_⟩
          · fail "rd"
            cases w0
            · refine iteBF rfl ?_
              exact ⟨t, rfl, s22, e_t⟩
            · refine iteBT rfl ?_
              fail "rd"
              intro u n_u
              generalize g_H23 : upd _ u _ = H23
              obtain ⟨s_H23, e_u⟩ := gen_new n_u g_H23
              clear g_H23
              exact ⟨u, rfl, s22.trans s_H23, e_u⟩
          rintro _ H23 ⟨t, rfl, s23, e_t⟩
          fail "rd"
          refine ⟨a, b, c, 2, rfl, fd_flat fa, fd_flat fb, fd_flat fc, fun r H24 s24 e_r => ?_⟩
          have e_t := s24 _ _ e_t
          rw [← due_told (by decide) ia ib ic] at e_t
          fail "rd"
          refine neTF e_r e_t (told_fd (by decide) fa fb fc) ?_
          fail "rd"
          exact s17.trans (s20.trans (s23.trans s24))
        · fail "rd"
          intro q1 n_q1
          generalize g_H18 : upd _ q1 _ = H18
          obtain ⟨s_H18, e_q1⟩ := gen_new n_q1 g_H18
          clear g_H18
          fail "rd"
          intro q2 n_q2
          generalize g_H19 : upd _ q2 _ = H19
          obtain ⟨s_H19, e_q2⟩ := gen_new n_q2 g_H19
          clear g_H19
          have e_q1 := s_H19 _ _ e_q1
          fail "rd"
          intro t n_t
          generalize g_H20 : upd _ t _ = H20
          obtain ⟨s_H20, e_t⟩ := gen_new n_t g_H20
          clear g_H20
          have e_lw := s_H20 _ _ (s_H19 _ _ (s_H18 _ _ e_lw))
          have s20 := s_H18.trans (s_H19.trans s_H20)
          fail "rd"
          refine ⟨fun σ' H' => ∃ t, σ' = [some (.ref s0), some (.ref bag), some (.int (0 + i)), some (.ref lw), some a, some b, some c, some (.int 3), some (.ref t)] ∧ Same H20 H' ∧ H' t = some (.tup (if w2 = true ∧ (1 : Int) < 3 then [.str "period", .bl true] else [a, argB b 3, argC c 3])), ?_, ?_⟩
          · fail "rd"
            cases w2
            · refine iteBF rfl ?_
              exact ⟨t, rfl, Same.refl _, e_t⟩
            · refine iteBT rfl ?_
              fail "rd"
              intro u n_u
              generalize g_H21 : upd _ u _ = H21
              obtain ⟨s_H21, e_u⟩ := gen_new n_u g_H21
              clear g_H21
              exact ⟨u, rfl, s_H21, e_u⟩
          rintro _ H21 ⟨t, rfl, s21, e_t⟩
          have e_lw21 := s21 _ _ e_lw
          fail "rd"
          refine ⟨fun σ' H' => ∃ t, σ' = [some (.ref s0), some (.ref bag), some (.int (0 + i)), some (.ref lw), some a, some b, some c, some (.int 3), some (.ref t)] ∧ Same H20 H' ∧ H' t = some (.tup (if w1 = true ∧ ((3 : Int) = 1 ∨ (3 : Int) = 3) then [.str "place", .bl true] else if w2 = true ∧ (1 : Int) < 3 then [.str "period", .bl true] else [a, argB b 3, argC c 3])), ?_, ?_⟩
          · fail "rd"
            cases w1
            · refine iteBF rfl ?_
              exact ⟨t, rfl, s21, e_t⟩
            · refine iteBT rfl ?_
              fail "rd"
              intro u n_u
              generalize g_H22 : upd _ u _ = H22
              obtain ⟨s_H22, e_u⟩ := gen_new n_u g_H22
              clear g_H22
              fail "rd"
              intro v n_v
              generalize g_H23 : upd _ v _ = H23
              obtain ⟨s_H23, e_v⟩ := gen_new n_v g_H23
              clear g_H23
              exact ⟨v, rfl, s21.trans (s_H22.trans s_H23), e_v⟩
          rintro _ H22 ⟨t, rfl, s22, e_t⟩
          have e_lw22 := s22 _ _ e_lw
          fail "rd"
          refine ⟨fun σ' H' => ∃ t, σ' = [some (.ref s0), some (.ref bag), some (.int (0 + i)), some (.ref lw), some a, some b, some c, some (.int 3), some (.ref t)] ∧ Same H20 H' ∧ H' t = some (.tup (dueR w0 w1 w2 a b c 3)), ?_, ?_⟩
          · fail "rd"
            cases w0
            · refine iteBF rfl ?_
              exact ⟨t, rfl, s22, e_t⟩
            · refine iteBT rfl ?_
              fail "rd"
              intro u n_u
              generalize g_H23 : upd _ u _ = H23
              obtain ⟨s_H23, e_u⟩ := gen_new n_u g_H23
              clear g_H23
              exact ⟨u, rfl, s22.trans s_H23, e_u⟩
          rintro _ H23 ⟨t, rfl, s23, e_t⟩
          fail "rd"
          refine ⟨a, b, c, 3, rfl, fd_flat fa, fd_flat fb, fd_flat fc, fun r H24 s24 e_r => ?_⟩
          have e_t := s24 _ _ e_t
          rw [← due_told (by decide) ia ib ic] at e_t
          fail "rd"
          refine neTF e_r e_t (told_fd (by decide) fa fb fc) ?_
          fail "rd"
          exact s17.trans (s20.trans (s23.trans s24))
      · rintro σ' H17 ⟨u1, u2, rfl, s17⟩
        fail "rd"
        exact ⟨_, _, _, _, _, _, _, rfl, B16.same s17⟩
    · rintro σ' H2 ⟨v2, v3, v4, v5, v6, v7, v8, rfl, B2⟩
      fail "rd"
      exact k H2

end
theorem all_mk {l : PySem.W.OpenLaw} {w : World} {K : PySem.W.Frag} {h : Heap} {mg : Str → Option Value} {fa : Addr} (X : K.In h) (G : h.Ns mainGlobals mg) (hfa : mg "law" = some (.ref fa))
    {C0 C1 C9 C10 C2 C24 : Addr}
    {tkc__MOST : Tok}
    {xnm9 xq9 : Str} {xN9 : Addr} {xbs9 : List Value} {xsn9 : List Str} {xsub9 : List Value} {xab9 : Bool} {xcol9 : Option Bool} {xdd9 : Option Addr} {xm09 xm19 xm29 xm39 xm59 : Option Value}
    {f0 : Addr} {od0 an0 : Option Addr} {sl0 : Array (Option Value)} {oc0 kV0 dc0 pm0 cd0 ct0 : Value}
    {f1 : Addr} {od1 an1 : Option Addr} {sl1 : Array (Option Value)} {oc1 kV1 dc1 pm1 cd1 ct1 : Value}
    {f2 : Addr} {od2 an2 : Option Addr} {sl2 : Array (Option Value)} {oc2 kV2 dc2 pm2 cd2 ct2 : Value}
    {f3 : Addr} {od3 an3 : Option Addr} {sl3 : Array (Option Value)} {oc3 kV3 dc3 pm3 cd3 ct3 : Value}
    {f4 : Addr} {od4 an4 : Option Addr} {sl4 : Array (Option Value)} {oc4 dc4 pm4 cd4 ct4 : Value}
    {D4 : Addr}
    {kk4_0 : Tok}
    {kk4_1 : Tok}
    {f5 : Addr} {od5 an5 : Option Addr} {sl5 : Array (Option Value)} {oc5 kV5 dc5 pm5 cd5 ct5 : Value}
    {f6 : Addr} {od6 an6 : Option Addr} {sl6 : Array (Option Value)} {oc6 kV6 dc6 pm6 cd6 ct6 : Value}
    (aC0 : PySem.W.nsIn K mainGlobals "CostError" = some (some (.ref C0)))
    (aC1 : PySem.W.nsIn K mainGlobals "NoRatio" = some (some (.ref C1)))
    (aC9 : PySem.W.nsIn K mainGlobals "BadRule" = some (some (.ref C9)))
    (aC10 : PySem.W.nsIn K mainGlobals "Short" = some (some (.ref C10)))
    (aC2 : PySem.W.nsIn K mainGlobals "Ratio" = some (some (.ref C2)))
    (aC24 : PySem.W.nsIn K mainGlobals "Rule" = some (some (.ref C24)))
    (pg2 : PySem.W.plainGet K C2 Str.empty = true)
    (hd2 : PySem.W.hasDictIn K C2 = true)
    (po2 : PySem.W.plainOver K C2 = true)
    (sa2 : PySem.W.findIn K (.ref C2) "__setattr__" = some (some (.builtin "object.__setattr__")))
    (mk2 : PySem.W.makesIn K C2 = true)
    (kc2 : PySem.W.keepIn K (.ref C2) = true)
    (pg24 : PySem.W.plainGet K C24 Str.empty = true)
    (hd24 : PySem.W.hasDictIn K C24 = true)
    (po24 : PySem.W.plainOver K C24 = true)
    (sa24 : PySem.W.findIn K (.ref C24) "__setattr__" = some (some (.builtin "object.__setattr__")))
    (mk24 : PySem.W.makesIn K C24 = true)
    (kc24 : PySem.W.keepIn K (.ref C24) = true)
    (z_abs : PySem.W.nsIn K mainGlobals "abs" = some none)
    (z_bool : PySem.W.nsIn K mainGlobals "bool" = some none)
    (z_int : PySem.W.nsIn K mainGlobals "int" = some none)
    (z_isinstance : PySem.W.nsIn K mainGlobals "isinstance" = some none)
    (z_len : PySem.W.nsIn K mainGlobals "len" = some none)
    (z_list : PySem.W.nsIn K mainGlobals "list" = some none)
    (z_range : PySem.W.nsIn K mainGlobals "range" = some none)
    (zc__MOST : PySem.W.nsIn K mainGlobals "_MOST" = some (some (.int 1000000 tkc__MOST)))
    (fsb_BadRule : PySem.W.subIn K (.ref C9) (.type "BaseException") = some true)
    (fxi_BadRule : PySem.W.isClsIn K C9 = true)
    (fty_BadRule : PySem.W.typeIn K (.ref C9) = some (.type "type"))
    (fxs_BadRule : PySem.W.subIn K (.ref C9) (.ref C9) = some true)
    (fy1_BadRule : PySem.W.findIn K (.ref C9) "__getattribute__" = some (some (.builtin "BaseException.__getattribute__")))
    (fy2_BadRule : PySem.W.findIn K (.ref C9) "__getattr__" = some none)
    (fy3_BadRule : PySem.W.hasDictIn K C9 = true)
    (fy4_BadRule : PySem.W.findIn K (.ref C9) "__class__" = some (some (.builtin "object.__class__")))
    (fo5 : PySem.W.specialIn K (.builtin "object.__class__") "__get__" = some (some (.builtin "getset_descriptor.__get__")))
    (fo6 : PySem.W.takesIn K (.builtin "object.__class__") = some true)
    (fy7_BadRule : PySem.W.mroIn K C9 (.type "object") = some true)
    (xl_BadRule : K.lookup C9 = some (excClassObj xnm9 xq9 C9 xN9 xbs9 [.ref C0, .type "ValueError", .type "Exception", .type "BaseException", .type "object"] true xsn9 xsub9 xab9 xcol9 xdd9 xm09 xm19 xm29 xm39 xm59 "ValueError.__new__"))
    (fxr_BadRule : PySem.HandSPX.refsVE [.ref C0, .type "ValueError", .type "Exception", .type "BaseException", .type "object"] = true)
    (sa_BadRule : PySem.W.findIn K (.ref C9) "__setattr__" = some (some (.builtin "object.__setattr__")))
    (kpr_BadRule : PySem.W.keepIn K (.ref C9) = true)
    (fnf_BadRule_word : PySem.W.findIn K (.ref C9) "word" = some none)
    (fna_Ratio_top : PySem.W.findIn K (.ref C2) "top" = some none)
    (fna_Ratio_bottom : PySem.W.findIn K (.ref C2) "bottom" = some none)
    (fna_Rule_take : PySem.W.findIn K (.ref C24) "take" = some none)
    (fna_Rule_place : PySem.W.findIn K (.ref C24) "place" = some none)
    (fna_Rule_period : PySem.W.findIn K (.ref C24) "period" = some none)
    (fki_BadRule_CostError : PySem.W.kitOne K (.ref C9) (.ref C0) = some true)
    (a0 : PySem.W.nsIn K mainGlobals "_law_bag" = some (some (.ref f0)))
    (l0 : K.lookup f0 = some ⟨oc0, od0, .func (PySem.W.fnOf "_law_bag" "_law_bag" (defArgs s_l_bag) (defBody s_l_bag) (defScope s_l_bag) .none kV0 dc0 pm0 an0 cd0 ct0), sl0⟩)
    (c0 : PySem.W.codeIn K cd0 "_law_bag" = true)
    (k0 : PySem.W.keepIn K (.ref f0) = true)
    (a1 : PySem.W.nsIn K mainGlobals "_law_draw" = some (some (.ref f1)))
    (l1 : K.lookup f1 = some ⟨oc1, od1, .func (PySem.W.fnOf "_law_draw" "_law_draw" (defArgs s_l_draw) (defBody s_l_draw) (defScope s_l_draw) .none kV1 dc1 pm1 an1 cd1 ct1), sl1⟩)
    (c1 : PySem.W.codeIn K cd1 "_law_draw" = true)
    (k1 : PySem.W.keepIn K (.ref f1) = true)
    (a2 : PySem.W.nsIn K mainGlobals "is_whole" = some (some (.ref f2)))
    (l2 : K.lookup f2 = some ⟨oc2, od2, .func (PySem.W.fnOf "is_whole" "is_whole" (defArgs s_is_whole) (defBody s_is_whole) (defScope s_is_whole) .none kV2 dc2 pm2 an2 cd2 ct2), sl2⟩)
    (c2 : PySem.W.codeIn K cd2 "is_whole" = true)
    (k2 : PySem.W.keepIn K (.ref f2) = true)
    (a3 : PySem.W.findIn K (.ref C9) "__init__" = some (some (.ref f3)))
    (i3 : PySem.W.isFn K (.ref f3) = true)
    (ti3 : PySem.W.typeIn K (.ref f3) = some (.type "function"))
    (l3 : K.lookup f3 = some ⟨oc3, od3, .func (PySem.W.fnOf "__init__" "BadRule.__init__" (defArgs s_BadRule_init) (defBody s_BadRule_init) (defScope s_BadRule_init) .none kV3 dc3 pm3 an3 cd3 ct3), sl3⟩)
    (c3 : PySem.W.codeIn K cd3 "BadRule.__init__" = true)
    (k3 : PySem.W.keepIn K (.ref f3) = true)
    (a4 : PySem.W.findIn K (.ref C24) "__init__" = some (some (.ref f4)))
    (i4 : PySem.W.isFn K (.ref f4) = true)
    (l4 : K.lookup f4 = some ⟨oc4, od4, .func (PySem.W.fnOf "__init__" "Rule.__init__" (defArgs s_Rule_init) (defBody s_Rule_init) (defScope s_Rule_init) .none (.ref D4) dc4 pm4 an4 cd4 ct4), sl4⟩)
    (q4_0 : PySem.W.nsIn K D4 "place" = some (some (.str "own" kk4_0)))
    (q4_1 : PySem.W.nsIn K D4 "period" = some (some (.int 0 kk4_1)))
    (c4 : PySem.W.codeIn K cd4 "Rule.__init__" = true)
    (k4 : PySem.W.keepIn K (.ref f4) = true)
    (a5 : PySem.W.nsIn K mainGlobals "_law_told" = some (some (.ref f5)))
    (l5 : K.lookup f5 = some ⟨oc5, od5, .func (PySem.W.fnOf "_law_told" "_law_told" (defArgs s_l_told) (defBody s_l_told) (defScope s_l_told) .none kV5 dc5 pm5 an5 cd5 ct5), sl5⟩)
    (c5 : PySem.W.codeIn K cd5 "_law_told" = true)
    (k5 : PySem.W.keepIn K (.ref f5) = true)
    (a6 : PySem.W.nsIn K mainGlobals "law" = some (some (.ref f6)))
    (l6 : K.lookup f6 = some ⟨oc6, od6, .func (PySem.W.fnOf "law" "law" (defArgs s_law) (defBody s_law) (defScope s_law) .none kV6 dc6 pm6 an6 cd6 ct6), sl6⟩)
    (c6 : PySem.W.codeIn K cd6 "law" = true)
    (k6 : PySem.W.keepIn K (.ref f6) = true)
    : ∃ fd : FuncData, (∀ (s : Shared) (v : Value), BindsTo s fd ⟨[v], []⟩ [("_law_script", v)]) ∧ ∀ base : Heap, K.In base → base.Ns mainGlobals mg → FnOk l.prog w K mg base (L2N.CX l.prog w) 6 fa fd ["_law_script"] (sp_law K fun _ => 0) := by
  have e := hfa.symm.trans (PySem.W.mg_of X G a6)
  cases e
  have T : Txt K mg (fun n => if n = 0 then C0 else if n = 1 then C1 else if n = 9 then C9 else if n = 10 then C10 else if n = 2 then C2 else if n = 24 then C24 else 0) := ⟨PySem.W.mg_none_of X G z_abs, PySem.W.mg_none_of X G z_bool, PySem.W.mg_none_of X G z_int, PySem.W.mg_none_of X G z_isinstance, PySem.W.mg_none_of X G z_len, PySem.W.mg_none_of X G z_list, PySem.W.mg_none_of X G z_range, ⟨_, PySem.W.mg_of X G zc__MOST⟩, PySem.W.mg_of X G aC0, PySem.W.mg_of X G aC9, exm1 fsb_BadRule fxi_BadRule fty_BadRule fxs_BadRule, ⟨fy1_BadRule, fy2_BadRule, fsb_BadRule, fy3_BadRule, fy4_BadRule, fo5, fo6, fy7_BadRule⟩, ⟨⟨_, _, _, _, _, _, _, _, _, _, _, _, _, _, _, xl_BadRule, fxr_BadRule⟩, sa_BadRule, fsb_BadRule, fty_BadRule, kpr_BadRule⟩, ⟨fy1_BadRule, fy2_BadRule, fsb_BadRule, fy3_BadRule⟩, fnf_BadRule_word, ⟨pg2, hd2, po2, sa2⟩, fna_Ratio_top, fna_Ratio_bottom, ⟨pg24, hd24, po24, sa24⟩, fna_Rule_take, fna_Rule_place, fna_Rule_period, fki_BadRule_CostError⟩
  have F0 := fun_mk (st := s_l_bag) l0 c0 k0
  have b0 := F0.binds (ps := ["_law_script"]) fun _ _ _ _ _ _ us hl => match us, hl with | [_], _ => rfl
  have F1 := fun_mk (st := s_l_draw) l1 c1 k1
  have b1 := F1.binds (ps := ["_law_bag_here", "_law_size"]) fun _ _ _ _ _ _ us hl => match us, hl with | [_, _], _ => rfl
  have F2 := fun_mk (st := s_is_whole) l2 c2 k2
  have b2 := F2.binds (ps := ["number", "least"]) fun _ _ _ _ _ _ us hl => match us, hl with | [_, _], _ => rfl
  have F3 := fun_mk (st := s_BadRule_init) l3 c3 k3
  have b3 := F3.binds (ps := ["self", "word"]) fun _ _ _ _ _ _ us hl => match us, hl with | [_, _], _ => rfl
  have F4 : FunD K "__init__" "Rule.__init__" (defArgs s_Rule_init) (defBody s_Rule_init) (defScope s_Rule_init) [] [("place", .str "own"), ("period", .int 0)] f4 _ := ⟨⟨_, _, _, _, _, _, _, _, _, _, rfl, l4, c4, .inl ⟨rfl, rfl⟩, .inr ⟨D4, rfl, (hq_cons ⟨_, q4_0, ⟨_, rfl⟩⟩ (hq_cons ⟨_, q4_1, ⟨_, rfl⟩⟩ hq_nil))⟩⟩, k4⟩
  have e4_0 := F4.binds0 (ps := ["self", "take", "place", "period"]) 2 (by simp) (by decide) fun _ _ _ _ _ _ us ks hl hk => match us, hl, ks, hk with | [_, _], _, [_, _], _ => ⟨_, _, _, _, _, _, rfl, rfl, ⟨_, _, _, _, _, _, rfl, rfl, rfl⟩⟩
  have e4_1 := F4.kbinds0 (ps := ["self", "take", "place", "period"]) 2 ["period"] [("place", .str "own")] (fun vs mz zs => vs ++ (mz ++ zs)) (by simp) (by simp) (fun r1 r2 r3 => r1.append (r2.append r3)) fun _ _ _ _ _ _ us mv ws l1 l2 l3 => match us, l1, mv, l2, ws, l3 with | [_, _], _, [_], _, [_], _ => ⟨_, _, _, _, _, _, rfl, rfl, rfl⟩
  have e4_2 := F4.kbinds0 (ps := ["self", "take", "place", "period"]) 2 ["period", "place"] [] (fun vs mz zs => vs ++ (mz ++ zs.reverse)) (by simp) (by simp) (fun r1 r2 r3 => r1.append (r2.append (vals_rev r3))) fun _ _ _ _ _ _ us mv ws l1 l2 l3 => match us, l1, mv, l2, ws, l3 with | [_, _], _, [], _, [_, _], _ => rfl
  have e4_3 := F4.kbinds0 (ps := ["self", "take", "place", "period"]) 2 ["place"] [("period", .int 0)] (fun vs mz zs => vs ++ (zs ++ mz)) (by simp) (by simp) (fun r1 r2 r3 => r1.append (r3.append r2)) fun _ _ _ _ _ _ us mv ws l1 l2 l3 => match us, l1, mv, l2, ws, l3 with | [_, _], _, [_], _, [_], _ => ⟨_, _, _, _, _, _, rfl, rfl, rfl⟩
  have F5 := fun_mk (st := s_l_told) l5 c5 k5
  have b5 := F5.binds (ps := ["_law_take", "_law_laid", "_law_span", "_law_way"]) fun _ _ _ _ _ _ us hl => match us, hl with | [_, _, _, _], _ => rfl
  have F6 := fun_mk (st := s_law) l6 c6 k6
  have b6 := F6.binds (ps := ["_law_script"]) fun _ _ _ _ _ _ us hl => match us, hl with | [_], _ => rfl
  refine ⟨PySem.W.fnOf "law" "law" (defArgs s_law) (defBody s_law) (defScope s_law) .none kV6 dc6 pm6 an6 cd6 ct6, fun s v => .of_eq rfl, fun base _ _ => ?_⟩
  have O0 : Own l.prog w K mg base 1 "_law_bag" ["_law_script"] (sp_l_bag K (fun n => if n = 0 then C0 else if n = 1 then C1 else if n = 9 then C9 else if n = 10 then C10 else if n = 2 then C2 else if n = 24 then C24 else 0)) := ⟨⟨f0, _, ok_l_bag F0 T , PySem.W.mg_of X G a0, k0, b0⟩⟩
  have O1 : Own l.prog w K mg base 1 "_law_draw" ["_law_bag_here", "_law_size"] (sp_l_draw K (fun n => if n = 0 then C0 else if n = 1 then C1 else if n = 9 then C9 else if n = 10 then C10 else if n = 2 then C2 else if n = 24 then C24 else 0)) := ⟨⟨f1, _, ok_l_draw F1 T , PySem.W.mg_of X G a1, k1, b1⟩⟩
  have O2 : Own l.prog w K mg base 1 "is_whole" ["number", "least"] (sp_is_whole K (fun n => if n = 0 then C0 else if n = 1 then C1 else if n = 9 then C9 else if n = 10 then C10 else if n = 2 then C2 else if n = 24 then C24 else 0)) := ⟨⟨f2, _, ok_is_whole F2 T , PySem.W.mg_of X G a2, k2, b2⟩⟩
  have O3 : OwnE l.prog w K mg base "BadRule" C9 ["word"] := ⟨T.ox_BadRule, ⟨f3, _, _, ok_BadRule_init F3 T , a3, ti3, PySem.W.mg_of X G aC9, b3⟩⟩
  obtain ⟨ds4_0, vd4_0, bd4_0⟩ := e4_0
  have O4_0 : OwnI l.prog w K mg base 3 "Rule" C24 ["self", "take", "place", "period"] [.str "own", .int 0] (sp_Rule_init K (fun n => if n = 0 then C0 else if n = 1 then C1 else if n = 9 then C9 else if n = 10 then C10 else if n = 2 then C2 else if n = 24 then C24 else 0)) := ⟨⟨f4, _, _, ok_Rule_init F4 T O2 O3, ⟨mk24, a4, i4, kc24⟩, PySem.W.mg_of X G aC24, bd4_0, vd4_0⟩⟩
  obtain ⟨mv4_1, kb4_1⟩ := e4_1
  have O4_1 : OwnK l.prog w K mg base 3 "Rule" C24 ["self", "take", "place", "period"] 1 ["period"] (fun vs zs => vs ++ ([.str "own"] ++ zs)) (sp_Rule_init K (fun n => if n = 0 then C0 else if n = 1 then C1 else if n = 9 then C9 else if n = 10 then C10 else if n = 2 then C2 else if n = 24 then C24 else 0)) := ⟨⟨f4, _, _, ok_Rule_init F4 T O2 O3, ⟨mk24, a4, i4, kc24⟩, PySem.W.mg_of X G aC24, kb4_1⟩⟩
  obtain ⟨mv4_2, kb4_2⟩ := e4_2
  have O4_2 : OwnK l.prog w K mg base 3 "Rule" C24 ["self", "take", "place", "period"] 1 ["period", "place"] (fun vs zs => vs ++ ([] ++ zs.reverse)) (sp_Rule_init K (fun n => if n = 0 then C0 else if n = 1 then C1 else if n = 9 then C9 else if n = 10 then C10 else if n = 2 then C2 else if n = 24 then C24 else 0)) := ⟨⟨f4, _, _, ok_Rule_init F4 T O2 O3, ⟨mk24, a4, i4, kc24⟩, PySem.W.mg_of X G aC24, kb4_2⟩⟩
  obtain ⟨mv4_3, kb4_3⟩ := e4_3
  have O4_3 : OwnK l.prog w K mg base 3 "Rule" C24 ["self", "take", "place", "period"] 1 ["place"] (fun vs zs => vs ++ (zs ++ [.int 0])) (sp_Rule_init K (fun n => if n = 0 then C0 else if n = 1 then C1 else if n = 9 then C9 else if n = 10 then C10 else if n = 2 then C2 else if n = 24 then C24 else 0)) := ⟨⟨f4, _, _, ok_Rule_init F4 T O2 O3, ⟨mk24, a4, i4, kc24⟩, PySem.W.mg_of X G aC24, kb4_3⟩⟩
  have O5 : Own l.prog w K mg base 5 "_law_told" ["_law_take", "_law_laid", "_law_span", "_law_way"] (sp_l_told K (fun n => if n = 0 then C0 else if n = 1 then C1 else if n = 9 then C9 else if n = 10 then C10 else if n = 2 then C2 else if n = 24 then C24 else 0)) := ⟨⟨f5, _, ok_l_told F5 T O4_0 O4_1 O4_2 O4_3, PySem.W.mg_of X G a5, k5, b5⟩⟩
  have z : FnOk l.prog w K mg base (L2N.CX l.prog w) 6 _ _ ["_law_script"] (sp_law K (fun n => if n = 0 then C0 else if n = 1 then C1 else if n = 9 then C9 else if n = 10 then C10 else if n = 2 then C2 else if n = 24 then C24 else 0)) := ok_law F6 T O0 O1 O5
  exact z
end Lo
open PySem PySem.W PyProof.Rows in
set_option maxRecDepth 100000 in
set_option maxHeartbeats 0 in
theorem PySem.Challenge.cw_lotcosts_k44_refused_rules_holds : PySem.Challenge.rw_lotcosts_k44_refused_rules.Holds := by
  w_on; o_law; k_head; (case hw => w_witness2)
  k_fill
  refine Lo.walk (l := PySem.Challenge.rw_lotcosts_k44_refused_rules) 6 ⟨rfl, by decide, by decide⟩ rfl rfl (fun w h Y => PySem.W.kIn_of Y) ?F
  case F =>
    intro w mg fa h KX G hmg
    refine' Lo.all_mk KX G hmg ?aC0 ?aC1 ?aC9 ?aC10 ?aC2 ?aC24 ?pg2 ?hd2 ?po2 ?sa2 ?mk2 ?kc2 ?pg24 ?hd24 ?po24 ?sa24 ?mk24 ?kc24 ?z_abs ?z_bool ?z_int ?z_isinstance ?z_len ?z_list ?z_range ?zc__MOST ?fsb_BadRule ?fxi_BadRule ?fty_BadRule ?fxs_BadRule ?fy1_BadRule ?fy2_BadRule ?fy3_BadRule ?fy4_BadRule ?fo5 ?fo6 ?fy7_BadRule ?xl_BadRule ?fxr_BadRule ?sa_BadRule ?kpr_BadRule ?fnf_BadRule_word ?fna_Ratio_top ?fna_Ratio_bottom ?fna_Rule_take ?fna_Rule_place ?fna_Rule_period ?fki_BadRule_CostError ?a0 ?l0 ?c0 ?k0 ?a1 ?l1 ?c1 ?k1 ?a2 ?l2 ?c2 ?k2 ?a3 ?i3 ?ti3 ?l3 ?c3 ?k3 ?a4 ?i4 ?l4 ?q4_0 ?q4_1 ?c4 ?k4 ?a5 ?l5 ?c5 ?k5 ?a6 ?l6 ?c6 ?k6
    (case aC0 => k_is)
    (case aC1 => k_is)
    (case aC9 => k_is)
    (case aC10 => k_is)
    (case aC2 => k_is)
    (case aC24 => k_is)
    (case pg2 => k_is)
    (case hd2 => k_is)
    (case po2 => k_is)
    (case sa2 => k_is)
    (case mk2 => k_is)
    (case kc2 => k_is)
    (case pg24 => k_is)
    (case hd24 => k_is)
    (case po24 => k_is)
    (case sa24 => k_is)
    (case mk24 => k_is)
    (case kc24 => k_is)
    (case z_abs => k_is)
    (case z_bool => k_is)
    (case z_int => k_is)
    (case z_isinstance => k_is)
    (case z_len => k_is)
    (case z_list => k_is)
    (case z_range => k_is)
    (case zc__MOST => k_is)
    (case fsb_BadRule => k_is)
    (case fxi_BadRule => k_is)
    (case fty_BadRule => k_is)
    (case fxs_BadRule => first | rfl | k_is)
    (case fy1_BadRule => k_is)
    (case fy2_BadRule => k_is)
    (case fy3_BadRule => k_is)
    (case fy4_BadRule => k_is)
    (case fo5 => k_is)
    (case fo6 => k_is)
    (case fy7_BadRule => k_is)
    (case xl_BadRule => k_is)
    (case fxr_BadRule => rfl)
    (case sa_BadRule => k_is)
    (case kpr_BadRule => k_is)
    (case fnf_BadRule_word => k_is)
    (case fna_Ratio_top => k_is)
    (case fna_Ratio_bottom => k_is)
    (case fna_Rule_take => k_is)
    (case fna_Rule_place => k_is)
    (case fna_Rule_period => k_is)
    (case fki_BadRule_CostError => kit_is)
    (case a0 => k_is)
    (case l0 => k_is)
    (case c0 => k_is)
    (case k0 => k_is)
    (case a1 => k_is)
    (case l1 => k_is)
    (case c1 => k_is)
    (case k1 => k_is)
    (case a2 => k_is)
    (case l2 => k_is)
    (case c2 => k_is)
    (case k2 => k_is)
    (case a3 => k_is)
    (case i3 => k_is)
    (case ti3 => k_is)
    (case l3 => k_is)
    (case c3 => k_is)
    (case k3 => k_is)
    (case a4 => k_is)
    (case i4 => k_is)
    (case l4 => k_is)
    (case q4_0 => k_is)
    (case q4_1 => k_is)
    (case c4 => k_is)
    (case k4 => k_is)
    (case a5 => k_is)
    (case l5 => k_is)
    (case c5 => k_is)
    (case k5 => k_is)
    (case a6 => k_is)
    (case l6 => k_is)
    (case c6 => k_is)
    (case k6 => k_is)
#print axioms PySem.Challenge.cw_lotcosts_k44_refused_rules_holds
