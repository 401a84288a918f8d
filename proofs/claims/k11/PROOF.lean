import PyProof.Rows.All
import Wide.All
import OpenK.AllK
import Wide.FinOn
import HandS.ForMost
import HandS.ForExc
import HandS.Flow
import HandS.Wide
import HandS.Gcd
import HandS.IsInst
import HandS.EndBits
import HandS.Defaults
import HandS.Style
import HandS.TryMany
import HandS.ExcIs
import HandS.Small
import HandS.ClsMeth
import HandS.Evl
import KE.RegKIsAll
import KE.KOpsOwn
import HandS.OwnEq
import PySem.Challenge.RW_lotcosts_k11_ratios_exact
set_option Elab.async false
set_option linter.all false
set_option maxRecDepth 100000
set_option maxHeartbeats 4000000
namespace Lo
open PySem PySem.Spec PyProof.Rows L2

/-! ### heaps -/
theorem sget {H H' : Hp} {a : Addr} {o : HO} (s : Same H H') (h : H a = some o) : H' a = some o := s a o h
/-- all but what stands at b is as it was -/
def Keep (b : Addr) (H H' : Hp) : Prop := ∀ a o, H a = some o → a ≠ b → H' a = some o
theorem Keep.of {b : Addr} {H H' : Hp} (s : Same H H') : Keep b H H' := fun a o h _ => s a o h
theorem Keep.trans {b : Addr} {H H1 H2 : Hp} (s : Keep b H H1) (t : Keep b H1 H2) : Keep b H H2 := fun a o h n => t a o (s a o h n) n
theorem kget {b : Addr} {H H' : Hp} {a : Addr} {o : HO} (s : Keep b H H') (n : a ≠ b) (h : H a = some o) : H' a = some o := s a o h n
theorem same_upd {H : Hp} {p : Addr} {o : HO} (h : H p = none) : Same H (upd H p o) := fun a u e => by rw [upd_ne (ne_of_none e h)]; exact e
theorem keep_upd {H : Hp} {p : Addr} {o : HO} : Keep p H (upd H p o) := fun a u e n => by rw [upd_ne n]; exact e
theorem same_put {H H' : Hp} {p : Addr} {o : HO} (n : H p = none) (s : Same H H') : Same H (upd H' p o) := fun a u e => by rw [upd_ne (ne_of_none e n)]; exact s a u e
theorem gen_new {H G : Hp} {p : Addr} {o : HO} (n : H p = none) (g : upd H p o = G) : Same H G ∧ G p = some o := by
  subst g
  exact ⟨same_upd n, upd_same⟩
theorem gen_put {H G : Hp} {p : Addr} {o : HO} (g : upd H p o = G) : Keep p H G ∧ G p = some o := by
  subst g
  exact ⟨keep_upd, upd_same⟩
theorem SqL.same {K : PySem.W.Frag} {H H' : Hp} {a : Addr} {xs : List V} (s : Same H H') (h : SqL K H a xs) : SqL K H' a xs := s.seq h

/-! ### a word between an expression and what follows -/
def tMid (t : TE) : TE := fun σ H Q => ∃ M : V → Hp → Prop, t σ H M ∧ ∀ v H', M v H' → Q v H'
theorem pe_mid {X : Cx} {e : Expr} {t : TE} (h : PE X e t) : PE X e (tMid t) := ⟨fun pins s σ H Q I ⟨M, hm, hq⟩ => thn (h.run pins s σ H M I hm) fun u s1 ⟨v, H1, I1, r, m⟩ => ⟨v, H1, I1, r, hq v H1 m⟩⟩
def tMidT (t : TT) : TT := fun σ H Q => ∃ M : Bool → Hp → Prop, t σ H M ∧ ∀ v H', M v H' → Q v H'
theorem pt_mid {X : Cx} {e : Expr} {t : TT} (h : PT X e t) : PT X e (tMidT t) := ⟨fun pins s σ H Q I ⟨M, hm, hq⟩ => thn (h.run pins s σ H M I hm) fun b s1 ⟨H1, I1, m⟩ => ⟨H1, I1, hq b H1 m⟩⟩
/-! ### own defs, as their callers see them -/
structure Own (P : Program) (w : World) (K : PySem.W.Frag) (mg : Str → Option Value) (base : Heap) (k : Nat) (x : Str) (ps : List Str) (sp : Sp) : Prop where
  ex : ∃ f fd, FnOk P w K mg base (L2.CX P w) k f fd ps sp ∧ mg x = some (.ref f) ∧ PySem.W.keepIn K (.ref f) = true ∧ Binds K fd ps []
structure OwnM (P : Program) (w : World) (K : PySem.W.Frag) (mg : Str → Option Value) (base : Heap) (k : Nat) (C : Addr) (m : Str) (ps : List Str) (sp : Sp) : Prop where
  cl : Cls K C
  ex : ∃ f fd, FnOk P w K mg base (L2.CX P w) k f fd ps sp ∧ Meth K C m f ∧ Binds K fd ps []
structure OwnI (P : Program) (w : World) (K : PySem.W.Frag) (mg : Str → Option Value) (base : Heap) (k : Nat) (x : Str) (C : Addr) (ps : List Str) (dvs : List V) (sp : Sp) : Prop where
  ex : ∃ f fd ds, FnOk P w K mg base (L2.CX P w) k f fd ps sp ∧ Mk K C f ∧ mg x = some (.ref C) ∧ Binds K fd ps ds ∧ Vals dvs ds

section
variable {X : Cx} {k : Nat} {C : Addr} {ps : List Str} {sp : Sp} {E : L2.St → XK} {x m : Str} {p pos apos : Pos} {e o : Expr} {es : List Expr} {ta : TE} {t : TA} {dvs : List V}

theorem pas0 {X : Cx} : ∀ σ, PassesAt (L2.CX X.prog X.w) X σ ((fun _ => E0) σ) := fun σ pins H s e s' I h => by
  obtain ⟨_, _, _, _, _, _, _, _, _, _, _, _, z⟩ := h
  exact z.elim
theorem pasE {X : Cx} {E : XK} (tk : Takes X (fun cls d _ H => E cls d H)) : ∀ σ, PassesAt (L2.CX X.prog X.w) X σ ((fun _ => E) σ) := fun σ => passAt (W := fun cls d _ H => E cls d H) tk σ
theorem pe_own (O : Own X.prog X.w X.K X.mg X.base k x ps sp) (hr : Room k X.A) (hg : Gl X x) (hx : ∀ σ, PassesAt (L2.CX X.prog X.w) X σ (E σ)) (ha : PA X (e :: es) t)
    (hdb : (x == ("__debug__" : Str)) = false := by decide) (he : starEach (e :: es) X.env = (false, eval e X.env) :: starEach es X.env := by rfl) (hpl : (backTo pos (starEach es X.env)).any (·.1) = false := by rfl) :
    PE X (.Call (.Name x p) (e :: es) [] pos) (tCallS sp E t) := by
  obtain ⟨f, fd, F, hm, hk, hb⟩ := O.ex
  exact pe_callS F hr hg hm hk hb hx ha hdb he hpl

def tMethS (C : Addr) (m : Str) (sp : Sp) (E : L2.St → XK) (ta : TE) (t : TA) : TE := fun σ H Q => ta σ H fun x H1 => ∃ a dx fs, x = .ref a ∧ H1 a = some (.ins C dx fs) ∧ fs.lookup m = none ∧
  t σ H1 fun vs H2 => sp (x :: vs) H2 Q (E σ)
theorem pe_ownm {pl : Sem Bool} (O : OwnM X.prog X.w X.K X.mg X.base k C m ps sp) (he : PE X o ta) (hr : Room k X.A) (hx : ∀ σ, PassesAt (L2.CX X.prog X.w) X σ (E σ)) (ha : PA X (e :: es) t)
    (hst : starEach (e :: es) X.env = (false, eval e X.env) :: starEach es X.env := by rfl) (hpl : (backTo pos (starEach es X.env)).any (·.1) = false := by rfl)
    (ht : eval (.Call (.Attribute o m apos) (e :: es) [] pos) X.env = (do
      let ov ← eval o X.env
      standAt apos.atName
      let (f, first) ← holding [ov] (getMethod ov m pl)
      callWith pos f first (backTo pos (starEach (e :: es) X.env)) (backToKw pos (keywordEach [] X.env))) := by rfl) :
    PE X (.Call (.Attribute o m apos) (e :: es) [] pos) (tMethS C m sp E ta t) := by
  obtain ⟨f, fd, F, hm, hb⟩ := O.ex
  refine ⟨fun pins s σ H Q I h => ?_⟩
  refine PySem.W.methodCall_KW (pl := pl) (thn (he.run pins s σ H _ I h) fun u s1 ⟨x, H1, I1, rx, a, dx, fs, ex, ea, l, q⟩ => ?_) ht
  subst ex
  obtain rfl : u = Value.ref a := rx
  refine getmeth_ok I1 ea O.cl hm l ?_
  refine PySem.W.callWith_K (first := [.ref a]) (h₀ := X.base) I.ok.mod.kin hm.kp (thn (ha.run pos pins s1 σ H1 _ I1 q) fun us s2 ⟨vs, H2, I2, r, q2⟩ => ⟨I2.kIn, ?_⟩) hst hpl
  exact run_fnS (us := .ref a :: us) (vs := .ref a :: vs) F hr hb (hx σ) I2 (.cons rfl r) q2
theorem pe_ownm0 {pl : Sem Bool} (O : OwnM X.prog X.w X.K X.mg X.base k C m ps sp) (he : PE X o ta) (hr : Room k X.A) (hx : ∀ σ, PassesAt (L2.CX X.prog X.w) X σ (E σ))
    (ht : eval (.Call (.Attribute o m apos) [] [] pos) X.env = (do
      let ov ← eval o X.env
      standAt apos.atName
      let (f, first) ← holding [ov] (getMethod ov m pl)
      callWith pos f first (backTo pos (starEach [] X.env)) (backToKw pos (keywordEach [] X.env))) := by rfl) :
    PE X (.Call (.Attribute o m apos) [] [] pos) (tMethS C m sp E ta tNil) := by
  obtain ⟨f, fd, F, hm, hb⟩ := O.ex
  refine ⟨fun pins s σ H Q I h => ?_⟩
  refine PySem.W.methodCall_KW (pl := pl) (thn (he.run pins s σ H _ I h) fun u s1 ⟨x, H1, I1, rx, a, dx, fs, ex, ea, l, q⟩ => ?_) ht
  subst ex
  obtain rfl : u = Value.ref a := rx
  refine getmeth_ok I1 ea O.cl hm l ?_
  exact PySem.W.callWith_K0 (first := [.ref a]) I1.kIn hm.kp (run_fnS (us := [.ref a]) (vs := [.ref a]) F hr hb (hx σ) I1 (.cons rfl .nil) q)

def tMakeS (C : Addr) (sp : Sp) (dvs : List V) (E : L2.St → XK) (t : TA) : TE := fun σ H Q => t σ H fun vs H1 => ∀ x dx, H1 x = none → H1 dx = none → dx ≠ x →
  sp (.ref x :: (vs ++ dvs)) (upd (upd H1 dx (.own x)) x (.ins C dx [])) (fun v H2 => v = .non ∧ Q (.ref x) H2) (E σ)
theorem run_makeS {f : Addr} {fd : FuncData} {ds : List Value} {pins : List (Addr × Obj)} {σ : L2.St} {H : Hp} {s : Shared} {Q : VK} {us : List Value} {vs : List V} (M : Mk X.K C f) (F : FnOk X.prog X.w X.K X.mg X.base (L2.CX X.prog X.w) k f fd ps sp)
    (hr : Room (k + 1) X.A) (hb : Binds X.K fd ps ds) (hd : Vals dvs ds) (hx : PassesAt (L2.CX X.prog X.w) X σ (E σ)) (I : Inv X pins σ H s) (r : Vals vs us)
    (h : ∀ x dx, H x = none → H dx = none → dx ≠ x → sp (.ref x :: (vs ++ dvs)) (upd (upd H dx (.own x)) x (.ins C dx [])) (fun v H2 => v = .non ∧ Q (.ref x) H2) (E σ)) :
    wpAny (model X.prog X.w) X.A (call (.ref C) us) (EP X pins σ Q) X.xe s := by
  have hq := h (s.heap.objs.size + 1) s.heap.objs.size (I.hok.fresh (Nat.le_succ _)) (I.hok.fresh (Nat.le_refl _)) (Nat.ne_of_lt (Nat.lt_succ_self _))
  have I2 := Inv.made (C := C) I
  have r2 : Vals (V.ref (s.heap.objs.size + 1) :: (vs ++ dvs)) (Value.ref (s.heap.objs.size + 1) :: (us ++ ds)) := .cons rfl (r.append hd)
  have hl : (Value.ref (s.heap.objs.size + 1) :: us ++ ds).length = ps.length := by
    have e := r2.length
    rw [F.len _ _ _ _ hq] at e
    exact e.symm
  refine wpAny_call (make_map (f := f) I.kIn M.makes M.init (beq_iff_eq.mp M.fn) (codeAny_mono (F.run _ X.stack _ _ ⟨Value.ref (s.heap.objs.size + 1) :: us, []⟩ (Value.ref (s.heap.objs.size + 1) :: (us ++ ds)) _ _ (E σ) (hr.make C us [])
    (I2.env0.make C us []) (hb _ (Value.ref (s.heap.objs.size + 1) :: us) I2.kIn hl) r2 hq) fun r s' hq' => ?_))
  cases r with
  | error e => exact hx pins _ _ e s' I2 hq'
  | ok fl =>
    cases fl with
    | ret u =>
      obtain ⟨v, H', I3, rv, ev, q3⟩ := I2.after hq'
      subst ev
      exact ⟨rv, ⟨V.ref (s.heap.objs.size + 1), H', I3, rfl, q3⟩⟩
    | next => exact False.elim hq'
    | brk => exact False.elim hq'
    | cont => exact False.elim hq'
theorem pe_owni (O : OwnI X.prog X.w X.K X.mg X.base k x C ps dvs sp) (hr : Room (k + 1) X.A) (hg : Gl X x) (hx : ∀ σ, PassesAt (L2.CX X.prog X.w) X σ (E σ)) (ha : PA X (e :: es) t)
    (hdb : (x == ("__debug__" : Str)) = false := by decide) (he : starEach (e :: es) X.env = (false, eval e X.env) :: starEach es X.env := by rfl) (hpl : (backTo pos (starEach es X.env)).any (·.1) = false := by rfl) :
    PE X (.Call (.Name x p) (e :: es) [] pos) (tMakeS C sp dvs E t) := by
  obtain ⟨f, fd, ds, F, M, hm, hb, hd⟩ := O.ex
  refine ⟨fun pins s σ H Q I h => ?_⟩
  refine wpAny_Call_Name_kw (ld_glob I hg hm ?_ hdb)
  refine PySem.W.callWith_K (h₀ := X.base) I.ok.mod.kin M.kp (thn (ha.run pos pins s σ H _ I h) fun us s1 ⟨vs, H1, I1, r, q⟩ => ⟨I1.kIn, ?_⟩) he hpl
  exact run_makeS M F hr hb hd (hx σ) I1 r q
end

def rLenSeq (K : PySem.W.Frag) : List V → Hp → VK → Prop := fun xs H Q => ∃ p ys, xs = [V.ref p] ∧ (SqL K H p ys ∨ SqT K H p ys) ∧ Q (.int ys.length) H
/-! ### own operators -/
section
open PySem.W
section
variable {prog : Program} {w : World} {A : Around} {E : Value → Shared → Prop} {s : Shared} {i : Int} {t : Tok} {x C dx f g : Addr} {K : Frag} {ox : Obj} {od : Option Obj} {nm : String} {Q : Option Value → Shared → Prop} {rc fo ro : Option Value}
theorem slot_fills {M : Model} {h : Heap} (X : K.In h) (hc : selfFirst K C = true) (hs : findIn K (.ref C) (PySem.dunder nm) = some (some (.ref f))) : Looks M h (fillsNumberSlot (.ref C) nm) true := by
  obtain ⟨cd, rest, hcd, hm⟩ := ksp_first hc
  exact fills_K X hcd hm hs
/-- what an own method answers is no NotImplemented -/
theorem bin1_same {b : Value} (X : K.In s.heap) (I : InstAt s.heap x ox C od) (hb : Looks (model prog w) s.heap (typeOf b) (.ref C)) (hc : selfFirst K C = true) (hs : findIn K (.ref C) (PySem.dunder nm) = some (some (.ref f))) (hf : isFn K (.ref f) = true)
    (h : wpAny (model prog w) A (call (.ref f) [.ref x, b]) (PySem.W.CmpBack fun v => Q (some v)) E s) : wpAny (model prog w) A (binaryOp1 nm (.ref x) b) Q E s := by
  have one := ksp_try X I hs hf h
  have L3 : Looks (model prog w) s.heap (fillsNumberSlot (.ref C) nm) true := slot_fills X hc hs
  have L1 : Looks (model prog w) s.heap (typeOf (.ref x)) (.ref C) := I.type
  obtain ⟨hh, gg, d, tt, os⟩ := s
  unfold binaryOp1
  refine wpAny_bind (L1.at (wpAny_bind (hb.at (wpAny_bind (L3.at ?_)))))
  simp only [beq_self_eq_true, if_true]
  ksp_lk
  refine wpAny_mono one (fun r s' hr => ?_) fun _ _ e => e
  obtain ⟨v, rfl, hq⟩ := hr
  ksp_lk
  exact hq
theorem bin1_int (X : K.In s.heap) (I : InstAt s.heap x ox C od) (hc : selfFirst K C = true) (hs : findIn K (.ref C) (PySem.dunder nm) = some (some (.ref f))) (hf : isFn K (.ref f) = true) (hr : findIn K (.ref C) (dunderR nm) = some rc) (hp : rc = none ∨ ∃ g : Addr, rc = some (.ref g))
    (h1 : findIn K (.type "int") (PySem.dunder nm) = some fo) (h2 : findIn K (.type "int") (dunderR nm) = some ro) (hsub : subIn K (.type "int") (.ref C) = some false)
    (h : wpAny (model prog w) A (call (.ref f) [.ref x, .int i t]) (PySem.W.CmpBack fun v => Q (some v)) E s) : wpAny (model prog w) A (binaryOp1 nm (.ref x) (.int i t)) Q E s := by
  have one := ksp_try X I hs hf h
  have L3 : Looks (model prog w) s.heap (fillsNumberSlot (.ref C) nm) true := slot_fills X hc hs
  have L1 : Looks (model prog w) s.heap (typeOf (.ref x)) (.ref C) := I.type
  have L2 : Looks (model prog w) s.heap (typeOf (.int i t)) (.type "int") := Looks.of_pure rfl
  have L4 : Looks (model prog w) s.heap (fillsNumberSlot (.type "int") nm) ((fo.isSome && !isSeqSlot fo) || (ro.isSome && !isSeqSlot ro)) := ksp_fillsT X h1 h2
  have L5 : Looks (model prog w) s.heap (isSubtype (.type "int") (.ref C)) false := looks_subIn X hsub
  have L6 : Looks (model prog w) s.heap (numberSlotInPython (.ref C) nm) true := ksp_inPy X hs hr hp
  have L7 : Looks (model prog w) s.heap (numberSlotInPython (.type "int") nm) false := Looks.of_pure rfl
  have L8 : Looks (model prog w) s.heap (typeLookup (.type "int") (dunderR nm)) ro := looks_findIn X h2
  have hne : (Value.ref C == Value.type "int") = false := Bool.eq_false_iff.mpr fun q => by cases beq_iff_eq.mp q
  obtain ⟨hh, gg, d, tt, os⟩ := s
  generalize ((fo.isSome && !isSeqSlot fo) || (ro.isSome && !isSeqSlot ro)) = right at L4
  unfold binaryOp1
  refine wpAny_bind (L1.at (wpAny_bind (L2.at (wpAny_bind (L3.at ?_)))))
  simp only [hne, Bool.false_eq_true, if_false]
  cases right <;>
  · ksp_lk
    refine wpAny_mono one (fun r s' hr => ?_) fun _ _ e => e
    obtain ⟨v, rfl, hq⟩ := hr
    ksp_lk
    exact hq
theorem bin1_refl (X : K.In s.heap) (I : InstAt s.heap x ox C od) (hc : selfFirst K C = true) (hs : findIn K (.ref C) (PySem.dunder nm) = some (some (.ref g))) (hr : findIn K (.ref C) (dunderR nm) = some (some (.ref f))) (hf : isFn K (.ref f) = true)
    (fills : fillsNumberSlot (.type "int") nm = pure true) (hsub : subIn K (.ref C) (.type "int") = some false)
    (decl : ∀ Q : Option Value → Shared → Prop, Q none s → wpAny (model prog w) A (tryMethod (.int i t) (PySem.dunder nm) (.ref x)) Q E s)
    (h : wpAny (model prog w) A (call (.ref f) [.ref x, .int i t]) (PySem.W.CmpBack fun v => Q (some v)) E s) : wpAny (model prog w) A (binaryOp1 nm (.int i t) (.ref x)) Q E s := by
  have one := ksp_try X I hr hf h
  have L3 : Looks (model prog w) s.heap (fillsNumberSlot (.ref C) nm) true := slot_fills X hc hs
  have L1 : Looks (model prog w) s.heap (typeOf (.ref x)) (.ref C) := I.type
  have L2 : Looks (model prog w) s.heap (typeOf (.int i t)) (.type "int") := Looks.of_pure rfl
  have L4 : Looks (model prog w) s.heap (fillsNumberSlot (.type "int") nm) true := Looks.of_pure fills
  have L5 : Looks (model prog w) s.heap (isSubtype (.ref C) (.type "int")) false := looks_subIn X hsub
  have L7 : Looks (model prog w) s.heap (numberSlotInPython (.type "int") nm) false := Looks.of_pure rfl
  have hne : (Value.type "int" == Value.ref C) = false := Bool.eq_false_iff.mpr fun q => by cases beq_iff_eq.mp q
  obtain ⟨hh, gg, d, tt, os⟩ := s
  unfold binaryOp1
  refine wpAny_bind (L2.at (wpAny_bind (L1.at (wpAny_bind (L4.at ?_)))))
  simp only [hne, Bool.false_eq_true, if_false]
  ksp_lk
  refine decl _ ?_
  ksp_lk
  refine wpAny_mono one (fun r s' hr => ?_) fun _ _ e => e
  obtain ⟨v, rfl, hq⟩ := hr
  ksp_lk
  exact hq
end
end

/-! ### own arithmetic -/
section
variable {prog : Program} {w : World} {A : Around} {E : Value → Shared → Prop} {s : Shared} {i : Int} {t : Tok} {x C dx : Addr}
theorem int_declines {id : String} {B : Builtin} {nm : Str} {name : String} {f : Int → Int → Sem Fin} (slot : Slot "int" nm id) (entry : entryFor table id = some B) (args : ∀ a b : Value, argsOk id ⟨[a, b], []⟩) (hB : B = Builtin.Int.intBinary name f) (hx : s.heap.get? x = some (PySem.W.instObj C dx))
    (Q : Option Value → Shared → Prop) (h : Q none s) : wpAny (model prog w) A (tryMethod (.int i t) nm (.ref x)) Q E s := by
  refine wpAny_tryMethod_declines (typeIs_int s i t) slot (wpAny_call_entry slot (typeIs_int s i t) entry ?_ (args _ _))
  rw [hB]
  unfold Builtin.Int.intBinary
  obtain ⟨hp, g, d, tk, os⟩ := s
  wp_walk using wpAny_load' hx
  exact ⟨_, rfl, rfl, h⟩
theorem bin_of1 {op : Operator} {a b : Value} {Q : Value → Shared → Prop} (h : wpAny (model prog w) A (binaryOp1 op.info.2 a b) (fun r s' => ∃ v, r = some v ∧ Q v s') E s) : wpAny (model prog w) A (binaryOp op a b) Q E s := by
  unfold binaryOp
  refine wpAny_holding (wpAny_bind (wpAny_mono h (fun r s' hr => ?_) fun _ _ e => e))
  obtain ⟨v, rfl, hq⟩ := hr
  exact wpAny_pure hq
theorem inp_of1 {op : Operator} {a b ta : Value} {Q : Value → Shared → Prop} (ht : PySem.W.Looks (model prog w) s.heap (typeOf a) ta) (hn : PySem.W.Looks (model prog w) s.heap (fillsInplaceSlot ta op.info.2 (op == .Add)) false)
    (h : wpAny (model prog w) A (binaryOp1 op.info.2 a b) (fun r s' => ∃ v, r = some v ∧ Q v s') E s) : wpAny (model prog w) A (inplaceOp op a b) Q E s := by
  unfold inplaceOp
  refine wpAny_holding (wpAny_bind (ht.here (wpAny_bind (hn.here ?_))))
  simp only [Bool.false_eq_true, if_false]
  refine wpAny_bind (wpAny_mono h (fun r s' hr => ?_) fun _ _ e => e)
  obtain ⟨v, rfl, hq⟩ := hr
  exact wpAny_pure hq
end
section
variable {prog : Program} {w : World} {A : Around} {E : Value → Shared → Prop} {s : Shared} {x C : Addr} {K : PySem.W.Frag} {cd : ClassData}
theorem no_inplace {M : Model} {h : Heap} {nm : String} {add : Bool} (X : K.In h) (hc : PySem.W.clsIn K C = some cd) (hm : cd.mro = [.ref C, .type "object"]) (h1 : PySem.W.findIn K (.ref C) (dunderI nm) = some none) (h2 : PySem.W.findIn K (.type "object") (dunderI nm) = some none) :
    PySem.W.Looks M h (fillsInplaceSlot (.ref C) nm add) false := by
  intro A Q E s k q
  have Lm : PySem.W.Looks M h (mroOf (.ref C)) cd.mro := (PySem.W.looks_clsIn X hc).andThen (f := fun cd => pure cd.mro) .now
  have L1 : PySem.W.Looks M h (typeLookup (.ref C) (dunderI nm)) none := PySem.W.looks_findIn X h1
  have L2 : PySem.W.Looks M h (typeLookup (.type "object") (dunderI nm)) none := PySem.W.looks_findIn X h2
  unfold fillsInplaceSlot
  refine wpAny_bind (Lm.keeps k |>.here ?_)
  rw [hm, List.anyM_cons]
  refine wpAny_bind (wpAny_bind ((L1.keeps k).here ?_))
  refine wpAny_pure ?_
  rw [List.anyM_cons]
  refine wpAny_bind (wpAny_bind ((L2.keeps k).here ?_))
  refine wpAny_pure ?_
  exact wpAny_pure q
end

/-- what the written part says of a class with own + - * -/
def refOr : Option Value → Bool
  | none => true
  | some (.ref _) => true
  | _ => false
theorem refOr_of {r : Option Value} (h : refOr r = true) : r = none ∨ ∃ g : Addr, r = some (.ref g) := by
  unfold refOr at h
  split at h
  · exact .inl rfl
  · exact .inr ⟨_, rfl⟩
  · cases h
structure Arith (K : PySem.W.Frag) (C : Addr) : Prop where
  sf : PySem.W.selfFirst K C = true
  s1 : PySem.W.subIn K (.type "int") (.ref C) = some false
  s2 : PySem.W.subIn K (.ref C) (.type "int") = some false
  mro : ∃ cd, PySem.W.clsIn K C = some cd ∧ cd.mro = [.ref C, .type "object"]
  ia : PySem.W.findIn K (.ref C) "__iadd__" = some none ∧ PySem.W.findIn K (.type "object") "__iadd__" = some none
  isb : PySem.W.findIn K (.ref C) "__isub__" = some none ∧ PySem.W.findIn K (.type "object") "__isub__" = some none
  im : PySem.W.findIn K (.ref C) "__imul__" = some none ∧ PySem.W.findIn K (.type "object") "__imul__" = some none
  ofInt : ∃ a b c d e f, PySem.W.findIn K (.type "int") "__add__" = some a ∧ PySem.W.findIn K (.type "int") "__radd__" = some b ∧ PySem.W.findIn K (.type "int") "__sub__" = some c ∧ PySem.W.findIn K (.type "int") "__rsub__" = some d ∧
    PySem.W.findIn K (.type "int") "__mul__" = some e ∧ PySem.W.findIn K (.type "int") "__rmul__" = some f
  refl : ∃ a b c, (PySem.W.findIn K (.ref C) "__radd__" = some a ∧ refOr a = true) ∧ (PySem.W.findIn K (.ref C) "__rsub__" = some b ∧ refOr b = true) ∧ PySem.W.findIn K (.ref C) "__rmul__" = some c ∧ refOr c = true
  has : ∃ a b c : Addr, PySem.W.findIn K (.ref C) "__add__" = some (some (.ref a)) ∧ PySem.W.findIn K (.ref C) "__sub__" = some (some (.ref b)) ∧ PySem.W.findIn K (.ref C) "__mul__" = some (some (.ref c))
inductive AOp | add | sub | mul
def AOp.op : AOp → Operator | .add => .Add | .sub => .Sub | .mul => .Mult
def AOp.m : AOp → Str | .add => "__add__" | .sub => "__sub__" | .mul => "__mul__"
def AOp.r : AOp → Str | .add => "__radd__" | .sub => "__rsub__" | .mul => "__rmul__"
def AOp.i : AOp → Str | .add => "__iadd__" | .sub => "__isub__" | .mul => "__imul__"
theorem AOp.em (o : AOp) : PySem.dunder o.op.info.2 = o.m := by cases o <;> decide +kernel
theorem AOp.er (o : AOp) : dunderR o.op.info.2 = o.r := by cases o <;> decide +kernel
theorem AOp.ei (o : AOp) : dunderI o.op.info.2 = o.i := by cases o <;> decide +kernel
theorem AOp.fills (o : AOp) : fillsNumberSlot (.type "int") o.op.info.2 = pure true := by
  cases o
  · exact F.fills_int_add
  · exact F.fills_int_sub
  · exact F.fills_int_mul
theorem AOp.decl {prog : Program} {w : World} {A : Around} {E : Value → Shared → Prop} {s : Shared} {i : Int} {t : Tok} {x C dx : Addr} (o : AOp) (hx : s.heap.get? x = some (PySem.W.instObj C dx)) (Q : Option Value → Shared → Prop) (h : Q none s) :
    wpAny (model prog w) A (tryMethod (.int i t) (PySem.dunder o.op.info.2) (.ref x)) Q E s := by
  cases o
  · exact int_declines F.slot_int_add F.entry_int_add F.args_int_add_2 rfl hx Q h
  · exact int_declines F.slot_int_sub F.entry_int_sub F.args_int_sub_2 rfl hx Q h
  · exact int_declines F.slot_int_mul F.entry_int_mul F.args_int_mul_2 rfl hx Q h
section
variable {X : Cx} {k k' : Nat} {C : Addr} {m : Str} {ps ps' : List Str} {sp sp' : Sp} {E : XK}
/-- an instance of C on the left, an int or such an instance on the right -/
def rOwn (C : Addr) (sp : Sp) (E : XK) : R2 := fun x y H Q => ∃ a dx fs, x = .ref a ∧ H a = some (.ins C dx fs) ∧ ((∃ i, y = .int i) ∨ ∃ b dy gs, y = .ref b ∧ H b = some (.ins C dy gs)) ∧ sp [x, y] H Q E
/-- an int on the left -/
def rRefl (C : Addr) (sp : Sp) (E : XK) : R2 := fun x y H Q => ∃ i b dy gs, x = .int i ∧ y = .ref b ∧ H b = some (.ins C dy gs) ∧ sp [y, x] H Q E
def rUna (C : Addr) (sp : Sp) (E : XK) : V → Hp → VK → Prop := fun x H Q => ∃ a dx fs, x = .ref a ∧ H a = some (.ins C dx fs) ∧ sp [x] H Q E
theorem back_of {pins : List (Addr × Obj)} {σ : L2.St} {Q : VK} {u : Value} {s' : Shared} {R : Value → Shared → Prop} (h : EP X pins σ Q u s') (k : ∀ u s', EP X pins σ Q u s' → R u s') : PySem.W.CmpBack R u s' := by
  obtain ⟨v, H', I, r, q⟩ := id h
  cases u with
  | notImplemented =>
    cases v <;> simp [L2.RelV] at r
  | _ => exact k _ _ h
theorem inst_at {pins : List (Addr × Obj)} {σ : L2.St} {H : Hp} {s : Shared} {a dx : Addr} {fs : List (Str × V)} (I : Inv X pins σ H s) (e : H a = some (.ins C dx fs)) : s.heap.get? a = some (PySem.W.instObj C dx) ∧ ∃ od, PySem.W.InstAt s.heap a (PySem.W.instObj C dx) C (some od) := by
  obtain ⟨mA, J, _⟩ := ins_get I.hok e
  obtain ⟨od, J2, _⟩ := J.look
  exact ⟨J.obj, od, J2⟩
theorem bin1_own (o : AOp) (A : Arith X.K C) (O : OwnM X.prog X.w X.K X.mg X.base k C o.m ps sp) (hr : Room k X.A) (hx : Passes (L2.CX X.prog X.w) X E)
    {pins : List (Addr × Obj)} {s : Shared} {σ : L2.St} {H : Hp} {x y : V} {v u : Value} {Q : VK} (I : Inv X pins σ H s) (rx : RelV x v) (ry : RelV y u) (h : rOwn C sp E x y H Q) :
    wpAny (model X.prog X.w) X.A (binaryOp1 o.op.info.2 v u) (fun r s' => ∃ z, r = some z ∧ EP X pins σ Q z s') X.xe s := by
  obtain ⟨a, dx, fs, rfl, ha, hy, hsp⟩ := h
  obtain rfl : v = Value.ref a := rx
  obtain ⟨f, fd, Fo, hm, hb⟩ := O.ex
  obtain ⟨_, od, J⟩ := inst_at I ha
  have h1 : PySem.W.findIn X.K (.ref C) (PySem.dunder o.op.info.2) = some (some (.ref f)) := by rw [o.em]; exact hm.at_
  obtain ⟨rc, h2, hrc⟩ : ∃ rc, PySem.W.findIn X.K (.ref C) (dunderR o.op.info.2) = some rc ∧ refOr rc = true := by
    rw [o.er]
    obtain ⟨a, b, c, q1, q2, q3⟩ := A.refl
    cases o
    · exact ⟨_, q1⟩
    · exact ⟨_, q2⟩
    · exact ⟨_, q3⟩
  have run := run_fn (us := [.ref a, u]) (vs := [.ref a, y]) (dvs := []) Fo hr hb .nil hx I (.cons rfl (.cons ry .nil)) hsp
  have run2 := wpAny_mono run (fun u s' q => back_of (R := fun v s' => ∃ z, some v = some z ∧ EP X pins σ Q z s') q fun v s' q => ⟨v, rfl, q⟩) fun _ _ e => e
  rcases hy with ⟨i, rfl⟩ | ⟨b, dy, gs, rfl, hb'⟩
  · obtain ⟨t, rfl⟩ := ry
    obtain ⟨fo, ro, e1, e2⟩ : ∃ fo ro, PySem.W.findIn X.K (.type "int") (PySem.dunder o.op.info.2) = some fo ∧ PySem.W.findIn X.K (.type "int") (dunderR o.op.info.2) = some ro := by
      rw [o.em, o.er]
      obtain ⟨p1, p2, p3, p4, p5, p6, q1, q2, q3, q4, q5, q6⟩ := A.ofInt
      cases o
      · exact ⟨_, _, q1, q2⟩
      · exact ⟨_, _, q3, q4⟩
      · exact ⟨_, _, q5, q6⟩
    exact bin1_int I.kIn J A.sf h1 hm.fn h2 (refOr_of hrc) e1 e2 A.s1 run2
  · obtain rfl : u = Value.ref b := ry
    obtain ⟨_, od', J'⟩ := inst_at I hb'
    exact bin1_same I.kIn J J'.type A.sf h1 hm.fn run2
theorem op_own (o : AOp) (A : Arith X.K C) (O : OwnM X.prog X.w X.K X.mg X.base k C o.m ps sp) (hr : Room k X.A) (hx : Passes (L2.CX X.prog X.w) X E) : OpR X (binaryOp o.op) (rOwn C sp E) :=
  fun _ _ _ _ _ _ _ _ _ I rx ry h => bin_of1 (bin1_own o A O hr hx I rx ry h)
theorem iop_own (o : AOp) (A : Arith X.K C) (O : OwnM X.prog X.w X.K X.mg X.base k C o.m ps sp) (hr : Room k X.A) (hx : Passes (L2.CX X.prog X.w) X E) : OpR X (inplaceOp o.op) (rOwn C sp E) := by
  intro pins s σ H x y v u Q I rx ry h
  have one := bin1_own o A O hr hx I rx ry h
  obtain ⟨a, dx, fs, rfl, ha, _, _⟩ := h
  obtain rfl : v = Value.ref a := rx
  obtain ⟨_, od, J⟩ := inst_at I ha
  obtain ⟨cd, hcd, hmro⟩ := A.mro
  refine inp_of1 J.type (no_inplace I.kIn hcd hmro ?_ ?_) one
  · rw [o.ei]
    cases o
    · exact A.ia.1
    · exact A.isb.1
    · exact A.im.1
  · rw [o.ei]
    cases o
    · exact A.ia.2
    · exact A.isb.2
    · exact A.im.2
theorem op_refl (o : AOp) (A : Arith X.K C) (R : OwnM X.prog X.w X.K X.mg X.base k C o.r ps sp) (hr : Room k X.A) (hx : Passes (L2.CX X.prog X.w) X E) : OpR X (binaryOp o.op) (rRefl C sp E) := by
  intro pins s σ H x y v u Q I rx ry h
  obtain ⟨i, b, dy, gs, rfl, rfl, hb, hsp⟩ := h
  obtain ⟨t, rfl⟩ := rx
  obtain rfl : u = Value.ref b := ry
  obtain ⟨f, fd, Fo, hm, hbd⟩ := R.ex
  obtain ⟨hobj, od, J⟩ := inst_at I hb
  obtain ⟨g, h1⟩ : ∃ g : Addr, PySem.W.findIn X.K (.ref C) (PySem.dunder o.op.info.2) = some (some (.ref g)) := by
    rw [o.em]
    obtain ⟨a, b, c, q1, q2, q3⟩ := A.has
    cases o
    · exact ⟨_, q1⟩
    · exact ⟨_, q2⟩
    · exact ⟨_, q3⟩
  have h2 : PySem.W.findIn X.K (.ref C) (dunderR o.op.info.2) = some (some (.ref f)) := by rw [o.er]; exact hm.at_
  have run := run_fn (us := [.ref b, .int i t]) (vs := [.ref b, .int i]) (dvs := []) Fo hr hbd .nil hx I (.cons rfl (.cons ⟨t, rfl⟩ .nil)) hsp
  exact bin_of1 (bin1_refl I.kIn J A.sf h1 h2 hm.fn o.fills A.s2 (fun Q h => o.decl hobj Q h) (wpAny_mono run (fun u s' q => back_of (R := fun v s' => ∃ z, some v = some z ∧ EP X pins σ Q z s') q fun v s' q => ⟨v, rfl, q⟩) fun _ _ e => e))
theorem un_negOwn (O : OwnM X.prog X.w X.K X.mg X.base k C "__neg__" ps sp) (hr : Room k X.A) (hx : Passes (L2.CX X.prog X.w) X E) : UnR X (unaryOp .USub) (rUna C sp E) := by
  intro pins s σ H x v Q I rx h
  obtain ⟨a, dx, fs, rfl, ha, hsp⟩ := h
  obtain rfl : v = Value.ref a := rx
  obtain ⟨f, fd, Fo, hm, hb⟩ := O.ex
  obtain ⟨_, od, J⟩ := inst_at I ha
  have run := run_fn (us := [.ref a]) (vs := [.ref a]) (dvs := []) Fo hr hb .nil hx I (.cons rfl .nil) hsp
  unfold unaryOp
  refine wpAny_holding ?_
  exact wpAny_bind (PySem.W.special_fn I.kIn J hm.at_ (beq_iff_eq.mp hm.fn) (wpAny_mono run (fun _ _ z => wpAny_pure z) fun _ _ z => z))
theorem call_absOwn (O : OwnM X.prog X.w X.K X.mg X.base k C "__abs__" ps sp) (hr : Room (k + 1) X.A) (hx : Passes (L2.CX X.prog X.w) X E) : CallR X (.builtin "abs") (fun xs H Q => ∃ a dx fs, xs = [.ref a] ∧ H a = some (.ins C dx fs) ∧ sp [.ref a] H Q E) := by
  intro pins s σ H xs us Q I r h
  obtain ⟨a, dx, fs, rfl, ha, hsp⟩ := h
  obtain ⟨u, rfl, r1⟩ := vals1 r
  obtain rfl : u = Value.ref a := r1
  obtain ⟨f, fd, Fo, hm, hb⟩ := O.ex
  obtain ⟨_, od, J⟩ := inst_at I ha
  refine PySem.Calls.call_function_entry kind_abs plain_abs entry_abs (args_abs _) ?_
  unfold Builtin.«abs»
  refine wpAny_bind (m := oneArg "abs" _) (wpAny_pure ?_)
  refine wpAny_bind (m := callSpecial? (.ref a) (Str.ofString "__abs__")) ?_
  refine PySem.W.special_fn I.kIn J hm.at_ (beq_iff_eq.mp hm.fn) ?_
  have bd := hb s [.ref a] I.kIn (Fo.len _ _ _ _ hsp)
  refine wpAny_call (codeAny_mono (Fo.run X.A.in1 X.stack s H ⟨[.ref a], []⟩ [.ref a] [.ref a] Q E hr.in1 I.env0.in1 bd (.cons rfl .nil) hsp) fun r s' hq => ?_)
  cases r with
  | error e => exact hx pins σ H s e s' I hq
  | ok fl =>
    cases fl with
    | ret u => exact wpAny_pure ⟨_, rfl, I.after hq⟩
    | next => exact False.elim hq
    | brk => exact False.elim hq
    | cont => exact False.elim hq
end
/-! ### operators on ints, further -/
section
variable {X : Cx}
theorem op_mulI : OpR X (binaryOp .Mult) (rI IntMulOk fun i j => .int (i * j)) := opI fun _ _ _ _ _ _ _ hc q => mul_int q hc
def CDivA (_ j : Int) : Prop := j ≠ 0 ∧ j.natAbs.log2 < 9000
theorem op_fdivA : OpR X (binaryOp .FloorDiv) (rI CDivA fun i j => .int (i.fdiv j)) := opI fun i j _ _ _ _ _ hc q => floordiv_int hc.1 q (.inl (PyProof.noPylong_of_log2 hc.2))
end
theorem mok_l {i j : Int} (h : i.natAbs < 2 ^ 64) : IntMulOk i j := by
  have e : (2 : Nat) ^ 64 = 18446744073709551616 := by decide
  rw [e] at h
  exact CMul.ok (.inl ⟨by omega, by omega⟩)
theorem mok_r {i j : Int} (h : j.natAbs < 2 ^ 64) : IntMulOk i j := by
  have e : (2 : Nat) ^ 64 = 18446744073709551616 := by decide
  rw [e] at h
  exact CMul.ok (.inr ⟨by omega, by omega⟩)
theorem mok_w {i j : Int} {a b : Nat} (ha : i.natAbs < 2 ^ a) (hb : j.natAbs < 2 ^ b) (h0 : 0 < a := by decide) (h1 : 0 < b := by decide) (h : a + b ≤ 1000000 := by decide) : IntMulOk i j := CMulW.ok (wide_mul ha hb h0 h1 h)
theorem une {H : Hp} {a p : Addr} {o u : HO} (n : a ≠ p) (h : H a = some o) : upd H p u a = some o := by rw [upd_ne n]; exact h
theorem sqL_of {K : PySem.W.Frag} {H : Hp} {a : Addr} {xs : List V} (h : H a = some (.lst xs)) : SqL K H a xs := SqL.of h
theorem ix_c {xs : List V} {z : Int} {v : V} (h : xs[z.toNat]? = some v) (h0 : 0 ≤ z := by decide) : atI xs z = some v := at_of (Int.toNat_of_nonneg h0).symm h

/-! ### tests whose outcome is open -/
theorem iteI {i j : Int} {A B : Prop} (h1 : i = j → A) (h2 : i ≠ j → B) : if decide (V.int i = V.int j) = true then A else B := by
  by_cases e : i = j
  · rw [decide_eq_true (congrArg V.int e)]
    exact iteT (h1 e)
  · rw [decide_eq_false fun z => e (V.int.inj z)]
    exact iteF (h2 e)
theorem iteIn {i j : Int} {A B : Prop} (h1 : i ≠ j → A) (h2 : i = j → B) : if (!decide (V.int i = V.int j)) = true then A else B := by
  by_cases e : i = j
  · rw [decide_eq_true (congrArg V.int e)]
    exact iteF (h2 e)
  · rw [decide_eq_false fun z => e (V.int.inj z)]
    exact iteT (h1 e)
theorem iteD {p : Prop} [Decidable p] {A B : Prop} (h1 : p → A) (h2 : ¬ p → B) : if decide p = true then A else B := by
  by_cases e : p
  · rw [decide_eq_true e]
    exact iteT (h1 e)
  · rw [decide_eq_false e]
    exact iteF (h2 e)
theorem iteDn {p : Prop} [Decidable p] {A B : Prop} (h1 : ¬ p → A) (h2 : p → B) : if (!decide p) = true then A else B := by
  by_cases e : p
  · rw [decide_eq_true e]
    exact iteF (h2 e)
  · rw [decide_eq_false e]
    exact iteT (h1 e)
theorem iteZ {y : Int} {A B : Prop} (h1 : y ≠ 0 → A) (h2 : y = 0 → B) : if (y != 0) = true then A else B := by
  by_cases e : y = 0
  · subst e
    exact iteF (h2 rfl)
  · rw [bne_iff_ne.mpr e]
    exact iteT (h1 e)
theorem iteDT {p : Prop} [Decidable p] {A B : Prop} (h : p) (a : A) : if decide p = true then A else B := iteD (fun _ => a) fun n => absurd h n
theorem iteDF {p : Prop} [Decidable p] {A B : Prop} (h : ¬ p) (a : B) : if decide p = true then A else B := iteD (fun n => absurd n h) fun _ => a
theorem iteDnT {p : Prop} [Decidable p] {A B : Prop} (h : p) (a : B) : if (!decide p) = true then A else B := iteDn (fun n => absurd h n) fun _ => a
theorem line_le {n : Nat} (h : n ≤ 16777216) : n ≤ sizeLine := by
  rw [sizeLine_eq]
  exact h

/-! ### the law's bag: what is drawn from it is any number below the size -/
/-- a bag stands at b, its script at L -/
def Bag (H : Hp) (L b : Addr) : Prop := ∃ (ns : List Int) (i : Nat) (big mix cnt : Int), H b = some (.lst [.ref L, .int i, .int big, .int mix, .int cnt]) ∧ H L = some (.lst (ns.map V.int)) ∧ L ≠ b
theorem Bag.same {H H' : Hp} {L b : Addr} (s : Same H H') (h : Bag H L b) : Bag H' L b := by
  obtain ⟨ns, i, big, mix, cnt, h1, h2, h3⟩ := h
  exact ⟨ns, i, big, mix, cnt, s _ _ h1, s _ _ h2, h3⟩
theorem Bag.some {H : Hp} {L b : Addr} (h : Bag H L b) : H b ≠ none := by
  obtain ⟨ns, i, big, mix, cnt, h1, h2, h3⟩ := h
  rw [h1]
  exact fun z => nomatch z
theorem Bag.someL {H : Hp} {L b : Addr} (h : Bag H L b) : H L ≠ none := by
  obtain ⟨ns, i, big, mix, cnt, h1, h2, h3⟩ := h
  rw [h2]
  exact fun z => nomatch z
/-- what was made behind the bag stands apart from it -/
theorem Bag.ne {H : Hp} {L b p : Addr} (h : Bag H L b) (n : H p = none) : p ≠ b := fun e => h.some (e ▸ n)
theorem Bag.neL {H : Hp} {L b p : Addr} (h : Bag H L b) (n : H p = none) : p ≠ L := fun e => h.someL (e ▸ n)
/-- another object was changed -/
theorem Bag.keep {H H' : Hp} {L b p : Addr} (h : Bag H L b) (k : Keep p H H') (n : p ≠ b) (n2 : p ≠ L) : Bag H' L b := by
  obtain ⟨ns, i, big, mix, cnt, h1, h2, h3⟩ := h
  exact ⟨ns, i, big, mix, cnt, k _ _ h1 n.symm, k _ _ h2 n2.symm, h3⟩
theorem Bag.mk {H : Hp} {L b : Addr} {ns : List Int} {i : Nat} {big mix cnt : Int} (hb : H b = Option.some (.lst [.ref L, .int i, .int big, .int mix, .int cnt])) (hL : H L = Option.some (.lst (ns.map V.int))) (n : L ≠ b) : Bag H L b :=
  ⟨ns, i, big, mix, cnt, hb, hL, n⟩

/-! ### fields by name -/
theorem lk0 {a : Str} {v : V} {r : List (Str × V)} : ((a, v) :: r).lookup a = some v := by simp [List.lookup]
theorem lk1 {a b : Str} {u : V} {o : Option V} {r : List (Str × V)} (h : (b == a) = false) (k : r.lookup b = o) : ((a, u) :: r).lookup b = o := by
  simp only [List.lookup, h]
  exact k
theorem lkn {b : Str} : ([] : List (Str × V)).lookup b = none := rfl
theorem putF_nil {f : Str} {v : V} : putF f v [] = [(f, v)] := rfl
theorem putF_ne {f g : Str} {u v : V} {r : List (Str × V)} (h : ¬ g = f) : putF f v ((g, u) :: r) = (g, u) :: putF f v r := if_neg h
theorem putF_eq {f : Str} {u v : V} {r : List (Str × V)} : putF f v ((f, u) :: r) = (f, v) :: r := if_pos rfl
theorem same_made {H H2 : Hp} {x dx C : Addr} (nx : H x = none) (nd : H dx = none) (ne : dx ≠ x) (k : Keep x (upd (upd H dx (.own x)) x (.ins C dx [])) H2) : Same H H2 := fun a o e => by
  have n1 := ne_of_none e nx
  have n2 := ne_of_none e nd
  exact k a o (by rw [upd_ne n1, upd_ne n2]; exact e) n1

/-! ### an own exception class, made without arguments -/
theorem pmk_own0 {X : Cx} {C : Addr} {bmB : List Value} {B newId initId : String} {x : Str} {p pos : Pos} (F : ExcBaseFacts B newId initId bmB) (q : PySem.W.excIn X.K C bmB newId = true) (gC : X.mg x = some (.ref C))
    (kC : PySem.W.keepIn X.K (.ref C) = true) (r : Raises X (.ref C)) (hg : Gl X x) (hdb : (x == ("__debug__" : Str)) = false := by decide) : PMk X (.Call (.Name x p) [] [] pos) (fun _ H Q => Q (.ref C) none H) := by
  intro pins s σ H Q I h
  refine wpAny_Call_Name_kw (ld_glob I hg gC ?_ hdb)
  refine PySem.W.callWith_K0 I.kIn kC ?_
  obtain ⟨bm, N, nm, qn, bs, hdct, sn, sub, ab, col, dd, k0, k1, k2, k3, k5, mN, hC, hN, hni, T⟩ := exc_obj I.kIn q
  refine wpAny_call_exc_subT F T hC hN hni (fun h' e hm => ?_) (Nat.zero_le _)
  exact mk_of I hm r h (I.hok.gone hm.new)

theorem erase_perm {α : Type} : ∀ {l : List α} {i : Nat} (h : i < l.length), (l[i] :: l.eraseIdx i).Perm l
  | a :: l, 0, _ => .refl _
  | a :: l, i + 1, h => by
    have ih := erase_perm (l := l) (i := i) (by simpa using h)
    simp only [List.getElem_cons_succ, List.eraseIdx_cons_succ]
    exact (List.Perm.swap _ _ _).trans (.cons _ ih)
/-! ### numbers in lowest terms -/
/-- a / b in lowest terms -/
def nrmC (a b : Int) : Int := if b < 0 then -((Nat.gcd a.natAbs b.natAbs : Nat) : Int) else ((Nat.gcd a.natAbs b.natAbs : Nat) : Int)
def nrm (a b : Int) : Int × Int := (a.fdiv (nrmC a b), b.fdiv (nrmC a b))
theorem nrmC_ne {a b : Int} (h : b ≠ 0) : nrmC a b ≠ 0 := by
  have g : 0 < Nat.gcd a.natAbs b.natAbs := Nat.gcd_pos_of_pos_right _ (by omega)
  unfold nrmC
  split <;> omega
theorem nrmC_abs {a b : Int} : (nrmC a b).natAbs = Nat.gcd a.natAbs b.natAbs := by
  unfold nrmC
  split <;> omega
theorem nrmC_log {a b : Int} (h : b ≠ 0) (hb : b.natAbs.log2 < 9000) : (nrmC a b).natAbs.log2 < 9000 := by
  rw [nrmC_abs]
  have g : Nat.gcd a.natAbs b.natAbs ≤ b.natAbs := Nat.gcd_le_right _ (by omega)
  have hb2 : b.natAbs < 2 ^ 9000 := (Nat.log2_lt (by omega)).mp hb
  exact (Nat.log2_lt (by have := Nat.gcd_pos_of_pos_right a.natAbs (show 0 < b.natAbs by omega); omega)).mpr (Nat.lt_of_le_of_lt g hb2)
theorem nrmC_dvd_a {a b : Int} : nrmC a b ∣ a := by
  have h : ((Nat.gcd a.natAbs b.natAbs : Nat) : Int) ∣ a := Int.ofNat_dvd_left.mpr (Nat.gcd_dvd_left _ _)
  unfold nrmC
  split
  · exact Int.neg_dvd.mpr h
  · exact h
theorem nrmC_dvd_b {a b : Int} : nrmC a b ∣ b := by
  have h : ((Nat.gcd a.natAbs b.natAbs : Nat) : Int) ∣ b := Int.ofNat_dvd_left.mpr (Nat.gcd_dvd_right _ _)
  unfold nrmC
  split
  · exact Int.neg_dvd.mpr h
  · exact h
theorem fdiv_mul {a c : Int} (h : c ∣ a) : a.fdiv c * c = a := Int.fdiv_mul_cancel h
theorem nrm_a {a b : Int} : (nrm a b).1 * nrmC a b = a := fdiv_mul nrmC_dvd_a
theorem nrm_b {a b : Int} : (nrm a b).2 * nrmC a b = b := fdiv_mul nrmC_dvd_b
/-- in lowest terms -/
structure Red (t b : Int) : Prop where
  pos : 0 < b
  cop : Nat.gcd t.natAbs b.natAbs = 1
theorem nrm_red {a b : Int} (h : b ≠ 0) : Red (nrm a b).1 (nrm a b).2 := by
  have e1 := nrm_a (a := a) (b := b)
  have e2 := nrm_b (a := a) (b := b)
  have hc := nrmC_ne (a := a) h
  refine ⟨?_, ?_⟩
  · have s : (0 < b ∧ 0 < nrmC a b) ∨ (b < 0 ∧ nrmC a b < 0) := by
      have g : 0 < Nat.gcd a.natAbs b.natAbs := Nat.gcd_pos_of_pos_right _ (by omega)
      unfold nrmC
      split <;> omega
    rcases s with ⟨s1, s2⟩ | ⟨s1, s2⟩
    · exact Int.pos_of_mul_pos_left (by rw [e2]; exact s1) s2
    · refine Int.pos_of_mul_pos_left (b := -nrmC a b) ?_ (by omega)
      rw [Int.mul_neg, e2]
      omega
  · have g : 0 < Nat.gcd a.natAbs b.natAbs := Nat.gcd_pos_of_pos_right _ (by omega)
    have f1 : (nrm a b).1.natAbs * Nat.gcd a.natAbs b.natAbs = a.natAbs := by
      have := congrArg Int.natAbs e1
      rw [Int.natAbs_mul, nrmC_abs] at this
      exact this
    have f2 : (nrm a b).2.natAbs * Nat.gcd a.natAbs b.natAbs = b.natAbs := by
      have := congrArg Int.natAbs e2
      rw [Int.natAbs_mul, nrmC_abs] at this
      exact this
    have f3 : Nat.gcd ((nrm a b).1.natAbs * Nat.gcd a.natAbs b.natAbs) ((nrm a b).2.natAbs * Nat.gcd a.natAbs b.natAbs) = Nat.gcd a.natAbs b.natAbs := by rw [f1, f2]
    rw [Nat.gcd_mul_right] at f3
    exact Nat.eq_of_mul_eq_mul_right g (by rw [f3, Nat.one_mul])
theorem nrm_cross {a b : Int} : (nrm a b).1 * b = a * (nrm a b).2 := by
  have e1 := nrm_a (a := a) (b := b)
  have e2 := nrm_b (a := a) (b := b)
  have h : (nrm a b).1 * ((nrm a b).2 * nrmC a b) = (nrm a b).1 * nrmC a b * (nrm a b).2 := by
    rw [Int.mul_assoc, Int.mul_comm (nrmC a b)]
  rw [e1, e2] at h
  exact h
theorem Red.uniq {t b t' b' : Int} (h : Red t b) (h' : Red t' b') (e : t * b' = t' * b) : t = t' ∧ b = b' := by
  have hb := h.pos
  have hb' := h'.pos
  have f : t.natAbs * b'.natAbs = t'.natAbs * b.natAbs := by
    have := congrArg Int.natAbs e
    rw [Int.natAbs_mul, Int.natAbs_mul] at this
    exact this
  have c : Nat.Coprime b.natAbs t.natAbs := (Nat.gcd_comm _ _).trans h.cop
  have c' : Nat.Coprime b'.natAbs t'.natAbs := (Nat.gcd_comm _ _).trans h'.cop
  have d1 : b.natAbs ∣ b'.natAbs := c.dvd_of_dvd_mul_left ⟨t'.natAbs, by rw [f, Nat.mul_comm]⟩
  have d2 : b'.natAbs ∣ b.natAbs := c'.dvd_of_dvd_mul_left ⟨t.natAbs, by rw [← f, Nat.mul_comm]⟩
  have eb : b = b' := by
    have := Nat.dvd_antisymm d1 d2
    omega
  subst eb
  exact ⟨Int.eq_of_mul_eq_mul_right (by omega) e, rfl⟩
/-- which fraction stands for the number doesn't matter -/
theorem nrm_same {a b c d : Int} (hb : b ≠ 0) (hd : d ≠ 0) (e : a * d = c * b) : nrm a b = nrm c d := by
  have h1 := nrm_cross (a := a) (b := b)
  have h2 := nrm_cross (a := c) (b := d)
  have k : (nrm a b).1 * (nrm c d).2 = (nrm c d).1 * (nrm a b).2 := by
    refine Int.eq_of_mul_eq_mul_right (a := b * d) (Int.mul_ne_zero hb hd) ?_
    calc (nrm a b).1 * (nrm c d).2 * (b * d) = ((nrm a b).1 * b) * (d * (nrm c d).2) := by ac_rfl
      _ = (a * (nrm a b).2) * (d * (nrm c d).2) := by rw [h1]
      _ = (a * d) * ((nrm a b).2 * (nrm c d).2) := by ac_rfl
      _ = (c * b) * ((nrm a b).2 * (nrm c d).2) := by rw [e]
      _ = (c * (nrm c d).2) * ((nrm a b).2 * b) := by ac_rfl
      _ = ((nrm c d).1 * d) * ((nrm a b).2 * b) := by rw [h2]
      _ = (nrm c d).1 * (nrm a b).2 * (b * d) := by ac_rfl
  obtain ⟨e1, e2⟩ := (nrm_red hb).uniq (nrm_red hd) k
  exact Prod.ext e1 e2
theorem nrm_id {t b : Int} (h : Red t b) : nrm t b = (t, b) := by
  have hb := h.pos
  obtain ⟨e1, e2⟩ := (nrm_red (a := t) (b := b) (by omega)).uniq h nrm_cross
  exact Prod.ext e1 e2
theorem red_one {t : Int} : Red t 1 := ⟨by decide, by simp⟩
theorem nrm_one {t : Int} : nrm t 1 = (t, 1) := nrm_id red_one

theorem nrm_zero {a b : Int} (h : b ≠ 0) : (nrm a b).1 = 0 ↔ a = 0 := by
  have e := nrm_a (a := a) (b := b)
  have c := nrmC_ne (a := a) h
  constructor
  · intro z
    rw [z, Int.zero_mul] at e
    exact e.symm
  · intro z
    rw [z] at e
    rcases Int.mul_eq_zero.mp e with u | u
    · rw [z]
      exact u
    · rw [z] at c
      exact absurd u c
theorem nrm_ne {a b : Int} (h : b ≠ 0) : (nrm a b).2 ≠ 0 := by
  have := (nrm_red (a := a) h).pos
  omega
/-- a quotient of numbers in lowest terms -/
theorem nrm_over {a b c d : Int} (hb : b ≠ 0) (hd : d ≠ 0) (hc : c ≠ 0) : nrm ((nrm a b).1 * (nrm c d).2) ((nrm a b).2 * (nrm c d).1) = nrm (a * d) (b * c) := by
  have h1 := nrm_cross (a := a) (b := b)
  have h2 := nrm_cross (a := c) (b := d)
  have n1 := nrm_ne (a := a) hb
  have n2 : (nrm c d).1 ≠ 0 := fun z => hc ((nrm_zero hd).mp z)
  refine nrm_same (Int.mul_ne_zero n1 n2) (Int.mul_ne_zero hb hc) ?_
  calc (nrm a b).1 * (nrm c d).2 * (b * c) = ((nrm a b).1 * b) * (c * (nrm c d).2) := by ac_rfl
    _ = (a * (nrm a b).2) * ((nrm c d).1 * d) := by rw [h1, h2]
    _ = a * d * ((nrm a b).2 * (nrm c d).1) := by ac_rfl

/-! ### Ratios -/
/-- the ratio t / b stands at p -/
def RatAt (ca : Nat → Addr) (H : Hp) (p : Addr) (t b : Int) : Prop := Red t b ∧ ∃ dx, H p = some (.ins (ca 2) dx [("top", .int t), ("bottom", .int b)])
theorem RatAt.same {ca : Nat → Addr} {H H' : Hp} {p : Addr} {t b : Int} (h : RatAt ca H p t b) (s : Same H H') : RatAt ca H' p t b := ⟨h.1, let ⟨dx, e⟩ := h.2; ⟨dx, s _ _ e⟩⟩
/-- a number: an int, or a ratio -/
def NumV (ca : Nat → Addr) (H : Hp) (x : V) (t b : Int) : Prop := (x = .int t ∧ b = 1) ∨ ∃ p, x = .ref p ∧ RatAt ca H p t b
theorem NumV.same {ca : Nat → Addr} {H H' : Hp} {x : V} {t b : Int} (h : NumV ca H x t b) (s : Same H H') : NumV ca H' x t b :=
  h.imp id fun ⟨p, e, r⟩ => ⟨p, e, r.same s⟩
theorem NumV.red {ca : Nat → Addr} {H : Hp} {x : V} {t b : Int} (h : NumV ca H x t b) : Red t b := by
  rcases h with ⟨_, rfl⟩ | ⟨p, _, r⟩
  · exact red_one
  · exact r.1
theorem kit_self {K : PySem.W.Frag} {v : Value} : PySem.W.kitOne K v v = some true := if_pos (beq_iff_eq.mpr rfl)
theorem put_rat {x y : V} : putF "bottom" y (putF "top" x []) = ([("top", x), ("bottom", y)] : List (Str × V)) := by
  rw [putF_nil, putF_ne (by decide +kernel), putF_nil]
theorem lt164 {z : Int} (h0 : -(10 ^ 49 + 2) < z) (h : z < 10 ^ 49 + 2) : z.natAbs < 2 ^ 164 := by
  have e : (2 : Nat) ^ 164 = 23384026197294446691258957323460528314494920687616 := by decide
  have e2 : (10 : Int) ^ 49 = 10000000000000000000000000000000000000000000000000 := by decide
  rw [e]
  rw [e2] at h0 h
  omega
theorem lg164 {z : Int} (h : z.natAbs < 2 ^ 164) : z.natAbs.log2 < 9000 := Nat.lt_trans (PySem.Flt.log2_lt_of (by decide) h) (by decide)
theorem RatAt.mk {ca : Nat → Addr} {H : Hp} {p dx : Addr} {t b : Int} (h : Red t b) (e : H p = some (.ins (ca 2) dx [("top", .int (nrm t b).1), ("bottom", .int (nrm t b).2)])) : RatAt ca H p t b := by
  rw [nrm_id h] at e
  exact ⟨h, dx, e⟩
theorem RatAt.of {ca : Nat → Addr} {H : Hp} {p dx : Addr} {t b : Int} (h : b ≠ 0) (e : H p = some (.ins (ca 2) dx [("top", .int (nrm t b).1), ("bottom", .int (nrm t b).2)])) : RatAt ca H p (nrm t b).1 (nrm t b).2 := ⟨nrm_red h, dx, e⟩
theorem nrm_le1 {a b : Int} (h : b ≠ 0) : (nrm a b).1.natAbs ≤ a.natAbs := by
  have e := congrArg Int.natAbs (nrm_a (a := a) (b := b))
  rw [Int.natAbs_mul] at e
  have c : 0 < (nrmC a b).natAbs := by have := nrmC_ne (a := a) h; omega
  rw [← e]
  exact Nat.le_mul_of_pos_right _ c
theorem nrm_le2 {a b : Int} (h : b ≠ 0) : (nrm a b).2.natAbs ≤ b.natAbs := by
  have e := congrArg Int.natAbs (nrm_b (a := a) (b := b))
  rw [Int.natAbs_mul] at e
  have c : 0 < (nrmC a b).natAbs := by have := nrmC_ne (a := a) h; omega
  rw [← e]
  exact Nat.le_mul_of_pos_right _ c
/-- a pair of ints in lowest terms, none of them large -/
structure TupR (H : Hp) (p : Addr) (t b : Int) : Prop where
  red : Red t b
  st : t.natAbs < 2 ^ 170
  sb : b.natAbs < 2 ^ 170
  at_ : H p = some (.tup [.int t, .int b])
theorem tup_ne {H : Hp} {L b p : Addr} {xs : List V} (B : Bag H L b) (e : H p = some (.tup xs)) : p ≠ b := by
  obtain ⟨ns, i, big, mix, cnt, h1, _⟩ := B
  exact ne_of e h1 fun z => nomatch z
theorem TupR.keep {H H' : Hp} {L b p : Addr} {t u : Int} (h : TupR H p t u) (B : Bag H L b) (k : Keep b H H') : TupR H' p t u := ⟨h.red, h.st, h.sb, k _ _ h.at_ (tup_ne B h.at_)⟩
theorem TupR.same {H H' : Hp} {p : Addr} {t u : Int} (h : TupR H p t u) (s : Same H H') : TupR H' p t u := ⟨h.red, h.st, h.sb, s _ _ h.at_⟩
theorem TupR.of {H : Hp} {p : Addr} {a b : Int} (hb : b ≠ 0) (sa : a.natAbs < 2 ^ 164) (sb : b.natAbs < 2 ^ 164) (e : H p = some (.tup [.int (nrm a b).1, .int (nrm a b).2])) : TupR H p (nrm a b).1 (nrm a b).2 :=
  ⟨nrm_red hb, Nat.lt_of_le_of_lt (nrm_le1 hb) (Nat.lt_trans sa (by decide)), Nat.lt_of_le_of_lt (nrm_le2 hb) (Nat.lt_trans sb (by decide)), e⟩
theorem lg170 {z : Int} (h : z.natAbs < 2 ^ 170) : z.natAbs.log2 < 9000 := Nat.lt_trans (PySem.Flt.log2_lt_of (by decide) h) (by decide)
theorem m170 {x y : Int} (h : x.natAbs < 2 ^ 170) (h2 : y.natAbs < 2 ^ 170) : IntMulOk x y := mok_w h h2
theorem eqv2 {a b c d : Int} : PyData.eqv (.tuple [.int a, .int b]) (.tuple [.int c, .int d]) = decide (a = c ∧ b = d) := by
  by_cases h1 : a = c <;> by_cases h2 : b = d <;> simp [PyData.eqv, PyData.eqvAll, h1, h2]
/-- two pairs of ints, compared -/
theorem eqT {K : PySem.W.Frag} {H : Hp} {p q : Addr} {a b c d : Int} {Q : VK} (hp : H p = some (.tup [.int a, .int b])) (hq : H q = some (.tup [.int c, .int d])) (k : Q (.bl (decide (a = c ∧ b = d))) H) : rEqD K (.ref p) (.ref q) H Q := by
  refine ⟨.tuple [.int a, .int b], .tuple [.int c, .int d], .tup (SqT.of hp) (.cons (.int _) (.cons (.int _) .nil)), .tup (SqT.of hq) (.cons (.int _) (.cons (.int _) .nil)), rfl, rfl, ?_⟩
  rw [eqv2]
  exact k
theorem neT {K : PySem.W.Frag} {H : Hp} {p q : Addr} {a b c d : Int} {Q : VK} (hp : H p = some (.tup [.int a, .int b])) (hq : H q = some (.tup [.int c, .int d])) (k : Q (.bl (!decide (a = c ∧ b = d))) H) : rNeD K (.ref p) (.ref q) H Q := by
  refine ⟨.tuple [.int a, .int b], .tuple [.int c, .int d], .tup (SqT.of hp) (.cons (.int _) (.cons (.int _) .nil)), .tup (SqT.of hq) (.cons (.int _) (.cons (.int _) .nil)), rfl, rfl, ?_⟩
  rw [eqv2]
  exact k
theorem iteNv {x y : V} {A B : Prop} (h : x = y) (b : B) : if (!decide (x = y)) = true then A else B := by
  rw [decide_eq_true h]
  exact iteF b
def dueN (w a0 a1 b0 b1 : Int) : Int × Int := if w = 0 then (a0, b0) else if w = 1 then (a0 * b1, a1 * b0) else if w = 2 then (a0, a1 * b0) else (a0 * b1, b0)
theorem due_ne {w a0 a1 b0 b1 : Int} (h1 : a1 ≠ 0) (h3 : b1 ≠ 0) (h2 : b0 ≠ 0) : (dueN w a0 a1 b0 b1).2 ≠ 0 := by
  unfold dueN
  split
  · exact h2
  · split
    · exact Int.mul_ne_zero h1 h2
    · split
      · exact Int.mul_ne_zero h1 h2
      · exact h2
theorem due_log {w a0 a1 b0 b1 : Int} (s1 : a1.natAbs < 2 ^ 170) (s2 : b0.natAbs < 2 ^ 170) (_ : b1.natAbs < 2 ^ 170) : (dueN w a0 a1 b0 b1).2.natAbs.log2 < 9000 := by
  have m3 : (a1 * b0).natAbs.log2 < 9000 := Nat.lt_trans (PySem.Flt.log2_lt_of (by decide) (wide_lt s1 s2)) (by decide)
  unfold dueN
  split
  · exact lg170 s2
  · split
    · exact m3
    · split
      · exact m3
      · exact lg170 s2
/-! ### sizes -/
def Sz (n : Nat) (z : Int) : Prop := z.natAbs < 2 ^ n
theorem Sz.mono {n m : Nat} {z : Int} (h : Sz n z) (l : n ≤ m := by decide) : Sz m z := Nat.lt_of_lt_of_le h (Nat.pow_le_pow_right (by decide) l)
theorem Sz.mul {n m : Nat} {x y : Int} (h : Sz n x) (k : Sz m y) : Sz (n + m) (x * y) := by
  unfold Sz
  rw [Int.natAbs_mul, Nat.pow_add]
  exact Nat.mul_lt_mul_of_lt_of_le h (Nat.le_of_lt k) (Nat.two_pow_pos _)
theorem Sz.add {n m : Nat} {x y : Int} (h : Sz n x) (k : Sz m y) : Sz (n + m + 1) (x + y) := by
  unfold Sz at *
  have a : 2 ^ n ≤ 2 ^ (n + m) := Nat.pow_le_pow_right (by decide) (Nat.le_add_right _ _)
  have b : 2 ^ m ≤ 2 ^ (n + m) := Nat.pow_le_pow_right (by decide) (Nat.le_add_left _ _)
  rw [Nat.pow_succ]
  omega
/-- both of the same size -/
theorem Sz.add' {n : Nat} {x y : Int} (h : Sz n x) (k : Sz n y) : Sz (n + 1) (x + y) := by
  unfold Sz at *
  rw [Nat.pow_succ]
  omega
theorem Sz.neg {n : Nat} {x : Int} (h : Sz n x) : Sz n (-x) := by
  unfold Sz at *
  omega
theorem Sz.sub {n m : Nat} {x y : Int} (h : Sz n x) (k : Sz m y) : Sz (n + m + 1) (x - y) := by
  rw [Int.sub_eq_add_neg]
  exact h.add k.neg
theorem Sz.sub' {n : Nat} {x y : Int} (h : Sz n x) (k : Sz n y) : Sz (n + 1) (x - y) := by
  unfold Sz at *
  rw [Nat.pow_succ]
  omega
theorem Sz.lg {n : Nat} {x : Int} (h : Sz n x) (l : n ≤ 8999 := by decide) (l0 : 0 < n := by decide) : x.natAbs.log2 < 9000 :=
  Nat.lt_of_lt_of_le (PySem.Flt.log2_lt_of l0 h) (Nat.le_succ_of_le l)
theorem Sz.mok {n m : Nat} {x y : Int} (h : Sz n x) (k : Sz m y) (h0 : 0 < n := by decide) (h1 : 0 < m := by decide) (l : n + m ≤ 1000000 := by decide) : IntMulOk x y := mok_w h k h0 h1 l
theorem Sz.le {n : Nat} {x y : Int} (h : Sz n x) (l : y.natAbs ≤ x.natAbs) : Sz n y := Nat.lt_of_le_of_lt l h
theorem Sz.one : Sz 1 1 := show (1 : Int).natAbs < 2 ^ 1 by decide
theorem Sz.zero : Sz 1 0 := show (0 : Int).natAbs < 2 ^ 1 by decide

/-! ### fractions, and the ratios that stand for them -/
theorem nrm_add {a b c d : Int} (hb : b ≠ 0) (hd : d ≠ 0) : nrm ((nrm a b).1 * (nrm c d).2 + (nrm c d).1 * (nrm a b).2) ((nrm a b).2 * (nrm c d).2) = nrm (a * d + c * b) (b * d) := by
  have h1 := nrm_cross (a := a) (b := b)
  have h2 := nrm_cross (a := c) (b := d)
  refine nrm_same (Int.mul_ne_zero (nrm_ne hb) (nrm_ne hd)) (Int.mul_ne_zero hb hd) ?_
  rw [Int.add_mul, Int.add_mul]
  congr 1
  · calc (nrm a b).1 * (nrm c d).2 * (b * d) = ((nrm a b).1 * b) * (d * (nrm c d).2) := by ac_rfl
      _ = a * (nrm a b).2 * (d * (nrm c d).2) := by rw [h1]
      _ = a * d * ((nrm a b).2 * (nrm c d).2) := by ac_rfl
  · calc (nrm c d).1 * (nrm a b).2 * (b * d) = ((nrm c d).1 * d) * (b * (nrm a b).2) := by ac_rfl
      _ = c * (nrm c d).2 * (b * (nrm a b).2) := by rw [h2]
      _ = c * b * ((nrm a b).2 * (nrm c d).2) := by ac_rfl
theorem nrm_neg {a b : Int} (hb : b ≠ 0) : nrm (-a) b = (-(nrm a b).1, (nrm a b).2) := by
  have h1 := nrm_cross (a := a) (b := b)
  have r := nrm_red (a := a) hb
  rw [← nrm_id (t := -(nrm a b).1) (b := (nrm a b).2) ⟨r.pos, by rw [Int.natAbs_neg]; exact r.cop⟩]
  refine nrm_same hb (nrm_ne hb) ?_
  rw [Int.neg_mul, Int.neg_mul, h1]
theorem nrm_sub {a b c d : Int} (hb : b ≠ 0) (hd : d ≠ 0) : nrm ((nrm a b).1 * (nrm c d).2 - (nrm c d).1 * (nrm a b).2) ((nrm a b).2 * (nrm c d).2) = nrm (a * d - c * b) (b * d) := by
  have h := nrm_add (a := a) (c := -c) hb hd
  rw [nrm_neg hd] at h
  simp only [Int.neg_mul, ← Int.sub_eq_add_neg] at h
  exact h
theorem nrm_mul {a b c d : Int} (hb : b ≠ 0) (hd : d ≠ 0) : nrm ((nrm a b).1 * (nrm c d).1) ((nrm a b).2 * (nrm c d).2) = nrm (a * c) (b * d) := by
  have h1 := nrm_cross (a := a) (b := b)
  have h2 := nrm_cross (a := c) (b := d)
  refine nrm_same (Int.mul_ne_zero (nrm_ne hb) (nrm_ne hd)) (Int.mul_ne_zero hb hd) ?_
  calc (nrm a b).1 * (nrm c d).1 * (b * d) = ((nrm a b).1 * b) * ((nrm c d).1 * d) := by ac_rfl
    _ = a * (nrm a b).2 * (c * (nrm c d).2) := by rw [h1, h2]
    _ = a * c * ((nrm a b).2 * (nrm c d).2) := by ac_rfl
/-- the amount of a number -/
def iab (a : Int) : Int := if a < 0 then -a else a
theorem iab_nat {a : Int} : iab a = (a.natAbs : Int) := by unfold iab; split <;> omega
theorem Sz.iab {n : Nat} {x : Int} (h : Sz n x) : Sz n (iab x) := h.le (by rw [iab_nat]; exact Nat.le_of_eq (Int.natAbs_natCast _))
theorem nrm_abs {a b : Int} (hb : b ≠ 0) : nrm (iab (nrm a b).1) (nrm a b).2 = nrm (iab a) (iab b) := by
  have h1 := congrArg Int.natAbs (nrm_cross (a := a) (b := b))
  have r := nrm_red (a := a) hb
  rw [Int.natAbs_mul, Int.natAbs_mul] at h1
  have e : ((nrm a b).2.natAbs : Int) = (nrm a b).2 := Int.natAbs_of_nonneg (Int.le_of_lt r.pos)
  refine nrm_same (nrm_ne hb) (by rw [iab_nat]; omega) ?_
  rw [iab_nat, iab_nat, iab_nat, ← e, ← Int.natCast_mul, ← Int.natCast_mul, h1]
/-- the ratio of a / b stands at p -/
structure RatQ (ca : Nat → Addr) (H : Hp) (p : Addr) (a b : Int) : Prop where
  ne : b ≠ 0
  at_ : RatAt ca H p (nrm a b).1 (nrm a b).2
theorem RatQ.same {ca : Nat → Addr} {H H' : Hp} {p : Addr} {a b : Int} (h : RatQ ca H p a b) (s : Same H H') : RatQ ca H' p a b := ⟨h.ne, h.at_.same s⟩
theorem rsame {ca : Nat → Addr} {H H' : Hp} {p : Addr} {a b : Int} (s : Same H H') (h : RatQ ca H p a b) : RatQ ca H' p a b := h.same s
theorem strans {H H1 H2 : Hp} (t : Same H1 H2) (s : Same H H1) : Same H H2 := s.trans t
theorem RatQ.to {ca : Nat → Addr} {H : Hp} {p : Addr} {a b c d : Int} (h : RatQ ca H p a b) (hd : d ≠ 0) (e : a * d = c * b) : RatQ ca H p c d := ⟨hd, by rw [← nrm_same h.ne hd e]; exact h.at_⟩
theorem RatQ.ins {ca : Nat → Addr} {H : Hp} {p : Addr} {a b : Int} (h : RatQ ca H p a b) : ∃ dx, H p = some (.ins (ca 2) dx [("top", .int (nrm a b).1), ("bottom", .int (nrm a b).2)]) := h.at_.2
theorem RatQ.of {ca : Nat → Addr} {H : Hp} {p dx : Addr} {a b a' b' : Int} (hb : b ≠ 0) (e : H p = some (.ins (ca 2) dx [("top", .int (nrm a' b').1), ("bottom", .int (nrm a' b').2)])) (n : nrm a' b' = nrm a b) : RatQ ca H p a b :=
  ⟨hb, by rw [n] at e; exact RatAt.of hb e⟩
/-- a number that is a / b: an int, or a ratio -/
def NumQ (ca : Nat → Addr) (H : Hp) (x : V) (a b : Int) : Prop := (x = .int a ∧ b = 1) ∨ ∃ p, x = .ref p ∧ RatQ ca H p a b
theorem NumQ.same {ca : Nat → Addr} {H H' : Hp} {x : V} {a b : Int} (h : NumQ ca H x a b) (s : Same H H') : NumQ ca H' x a b := h.imp id fun ⟨p, e, r⟩ => ⟨p, e, r.same s⟩
theorem NumQ.ne {ca : Nat → Addr} {H : Hp} {x : V} {a b : Int} (h : NumQ ca H x a b) : b ≠ 0 := by
  rcases h with ⟨_, rfl⟩ | ⟨_, _, r⟩
  · decide
  · exact r.ne
theorem NumQ.num {ca : Nat → Addr} {H : Hp} {x : V} {a b : Int} (h : NumQ ca H x a b) : NumV ca H x (nrm a b).1 (nrm a b).2 := by
  rcases h with ⟨rfl, rfl⟩ | ⟨p, e, r⟩
  · rw [nrm_one]
    exact .inl ⟨rfl, rfl⟩
  · exact .inr ⟨p, e, r.at_⟩
theorem RatQ.num {ca : Nat → Addr} {H : Hp} {p : Addr} {a b : Int} (h : RatQ ca H p a b) : NumQ ca H (.ref p) a b := .inr ⟨p, rfl, h⟩
theorem NumQ.int {ca : Nat → Addr} {H : Hp} {a : Int} : NumQ ca H (.int a) a 1 := .inl ⟨rfl, rfl⟩
theorem rOwn_of {ca : Nat → Addr} {H : Hp} {p : Addr} {x : V} {a b a' b' : Int} {sp : Sp} {E : XK} {Q : VK} (h : RatQ ca H p a b) (n : NumQ ca H x a' b') (k : sp [.ref p, x] H Q E) : rOwn (ca 2) sp E (.ref p) x H Q := by
  obtain ⟨dx, e⟩ := h.ins
  refine ⟨p, dx, _, rfl, e, ?_, k⟩
  rcases n with ⟨rfl, rfl⟩ | ⟨q, rfl, r⟩
  · exact .inl ⟨_, rfl⟩
  · obtain ⟨dy, e2⟩ := r.ins
    exact .inr ⟨q, dy, _, rfl, e2⟩
theorem rRefl_of {ca : Nat → Addr} {H : Hp} {p : Addr} {i a b : Int} {sp : Sp} {E : XK} {Q : VK} (h : RatQ ca H p a b) (k : sp [.ref p, .int i] H Q E) : rRefl (ca 2) sp E (.int i) (.ref p) H Q := by
  obtain ⟨dx, e⟩ := h.ins
  exact ⟨i, p, dx, _, rfl, rfl, e, k⟩
theorem rUna_of {ca : Nat → Addr} {H : Hp} {p : Addr} {a b : Int} {sp : Sp} {E : XK} {Q : VK} (h : RatQ ca H p a b) (k : sp [.ref p] H Q E) : rUna (ca 2) sp E (.ref p) H Q := by
  obtain ⟨dx, e⟩ := h.ins
  exact ⟨p, dx, _, rfl, e, k⟩
/-- sums of fractions, from the left -/
def sumQ : Int × Int → List (Int × Int) → Int × Int := List.foldl fun x y => (x.1 * y.2 + y.1 * x.2, x.2 * y.2)
theorem sumQ_size : ∀ (fs : List (Int × Int)) (z : Int × Int) (n : Nat), (∀ f ∈ fs, Sz 200 f.1 ∧ Sz 200 f.2) → Sz n z.1 → Sz n z.2 → Sz (n + 201 * fs.length) (sumQ z fs).1 ∧ Sz (n + 201 * fs.length) (sumQ z fs).2
  | [], z, n, _, h1, h2 => ⟨h1, h2⟩
  | f :: fs, z, n, hf, h1, h2 => by
    obtain ⟨f1, f2⟩ := hf f List.mem_cons_self
    have g1 : Sz (n + 201) (z.1 * f.2 + f.1 * z.2) := ((h1.mul f2).add' ((f1.mul h2).mono (by omega))).mono (by omega)
    have g2 : Sz (n + 201) (z.2 * f.2) := (h2.mul f2).mono (by omega)
    obtain ⟨r1, r2⟩ := sumQ_size fs (z.1 * f.2 + f.1 * z.2, z.2 * f.2) (n + 201) (fun g hg => hf g (List.mem_cons_of_mem _ hg)) g1 g2
    rw [List.length_cons]
    exact ⟨r1.mono (by omega), r2.mono (by omega)⟩
theorem sumQ_ne : ∀ (fs : List (Int × Int)) (z : Int × Int), (∀ f ∈ fs, f.2 ≠ 0) → z.2 ≠ 0 → (sumQ z fs).2 ≠ 0
  | [], _, _, h => h
  | f :: fs, z, hf, h => sumQ_ne fs (z.1 * f.2 + f.1 * z.2, z.2 * f.2) (fun g hg => hf g (List.mem_cons_of_mem _ hg)) (Int.mul_ne_zero h (hf f List.mem_cons_self))
theorem sumQ_app {fs : List (Int × Int)} {z f : Int × Int} : sumQ z (fs ++ [f]) = ((sumQ z fs).1 * f.2 + f.1 * (sumQ z fs).2, (sumQ z fs).2 * f.2) := by
  unfold sumQ
  rw [List.foldl_append]
  rfl
/-- a sum whose first part alone is in lowest terms -/
theorem nrm_addL {a b c d : Int} (hb : b ≠ 0) (hd : d ≠ 0) : nrm ((nrm a b).1 * d + c * (nrm a b).2) ((nrm a b).2 * d) = nrm (a * d + c * b) (b * d) := by
  have h1 := nrm_cross (a := a) (b := b)
  refine nrm_same (Int.mul_ne_zero (nrm_ne hb) hd) (Int.mul_ne_zero hb hd) ?_
  rw [Int.add_mul, Int.add_mul]
  congr 1
  · calc (nrm a b).1 * d * (b * d) = ((nrm a b).1 * b) * (d * d) := by ac_rfl
      _ = a * (nrm a b).2 * (d * d) := by rw [h1]
      _ = a * d * ((nrm a b).2 * d) := by ac_rfl
  · ac_rfl
theorem RatQ.low {ca : Nat → Addr} {H : Hp} {p : Addr} {a b : Int} (h : RatQ ca H p a b) : RatQ ca H p (nrm a b).1 (nrm a b).2 := h.to (nrm_ne h.ne) nrm_cross.symm
/-! ### what another object's change leaves -/
theorem Bag.lst {H : Hp} {L b : Addr} (h : Bag H L b) : ∃ xs, H b = Option.some (.lst xs) := by
  obtain ⟨ns, i, big, mix, cnt, h1, _⟩ := h
  exact ⟨_, h1⟩
theorem RatQ.put {ca : Nat → Addr} {H H' : Hp} {p c : Addr} {a b : Int} {xs : List V} (h : RatQ ca H p a b) (e : H c = some (.lst xs)) (k : Keep c H H') : RatQ ca H' p a b :=
  ⟨h.ne, h.at_.1, let ⟨dx, q⟩ := h.at_.2; ⟨dx, k _ _ q (ne_of q e fun z => nomatch z)⟩⟩
theorem NumQ.put {ca : Nat → Addr} {H H' : Hp} {c : Addr} {x : V} {a b : Int} {xs : List V} (h : NumQ ca H x a b) (e : H c = some (.lst xs)) (k : Keep c H H') : NumQ ca H' x a b := h.imp id fun ⟨p, q, r⟩ => ⟨p, q, r.put e k⟩
theorem tput {H H' : Hp} {p c : Addr} {ys xs : List V} (h : H p = some (.tup ys)) (e : H c = some (.lst xs)) (k : Keep c H H') : H' p = some (.tup ys) := k _ _ h (ne_of h e fun z => nomatch z)
/-- a number with its fraction -/
def Item (ca : Nat → Addr) (H : Hp) (z : V) : Prop := ∃ t x v a b, z = .ref t ∧ H t = some (.tup [x, .ref v]) ∧ H v = some (.tup [.int a, .int b]) ∧ NumQ ca H x a b ∧ Sz 200 a ∧ Sz 200 b
theorem Item.put {ca : Nat → Addr} {H H' : Hp} {c : Addr} {z : V} {xs : List V} (h : Item ca H z) (e : H c = some (.lst xs)) (k : Keep c H H') : Item ca H' z := by
  obtain ⟨t, x, v, a, b, rfl, h1, h2, n, s⟩ := h
  exact ⟨t, x, v, a, b, rfl, tput h1 e k, tput h2 e k, n.put e k, s⟩
theorem Item.same {ca : Nat → Addr} {H H' : Hp} {z : V} (h : Item ca H z) (s : Same H H') : Item ca H' z := by
  obtain ⟨t, x, v, a, b, rfl, h1, h2, n, z⟩ := h
  exact ⟨t, x, v, a, b, rfl, s _ _ h1, s _ _ h2, n.same s, z⟩
/-- the numbers of a list and their fractions, beside each other -/
def Nums (ca : Nat → Addr) (H : Hp) : List V → List (Int × Int) → Prop := Paired fun x f => NumQ ca H x f.1 f.2 ∧ Sz 200 f.1 ∧ Sz 200 f.2
theorem paired_get {α β : Type} {F : α → β → Prop} : ∀ {xs : List α} {fs : List β} {i : Nat} {x : α} {f : β}, Paired F xs fs → xs[i]? = some x → fs[i]? = some f → F x f
  | _, _, 0, _, _, .cons r _, h1, h2 => by
    simp at h1 h2
    subst h1; subst h2
    exact r
  | _, _, i + 1, _, _, .cons _ t, h1, h2 => paired_get (i := i) t (by simpa using h1) (by simpa using h2)
theorem paired_mem {α β : Type} {F : α → β → Prop} : ∀ {xs : List α} {fs : List β}, Paired F xs fs → ∀ f ∈ fs, ∃ x, F x f
  | _, _, .cons r t, f, h => by
    rcases List.mem_cons.mp h with rfl | h
    · exact ⟨_, r⟩
    · exact paired_mem t f h
theorem Nums.same {ca : Nat → Addr} {H H' : Hp} {xs : List V} {fs : List (Int × Int)} (h : Nums ca H xs fs) (s : Same H H') : Nums ca H' xs fs := Paired.mapP h fun _ _ n => ⟨n.1.same s, n.2⟩
theorem Nums.put {ca : Nat → Addr} {H H' : Hp} {c : Addr} {xs ys : List V} {fs : List (Int × Int)} (h : Nums ca H xs fs) (e : H c = some (.lst ys)) (k : Keep c H H') : Nums ca H' xs fs := Paired.mapP h fun _ _ n => ⟨n.1.put e k, n.2⟩
theorem Nums.ne {ca : Nat → Addr} {H : Hp} {xs : List V} {fs : List (Int × Int)} (h : Nums ca H xs fs) : ∀ f ∈ fs, f.2 ≠ 0 := fun f m => let ⟨_, n⟩ := paired_mem h f m; n.1.ne
theorem Nums.sz {ca : Nat → Addr} {H : Hp} {xs : List V} {fs : List (Int × Int)} (h : Nums ca H xs fs) : ∀ f ∈ fs, Sz 200 f.1 ∧ Sz 200 f.2 := fun f m => let ⟨_, n⟩ := paired_mem h f m; n.2
/-! ### lists of the same things -/
def DId : Eqv := fun x y H => DFlat x y H ∨ ∃ a, x = .ref a ∧ y = .ref a
theorem mon_id : Mon DId := fun _ _ _ _ _ d => d
theorem eqG_id {X : Cx} : EqG X 0 DId := EqG.or eqG_flat fun A pins s σ H x y u v sb I rx ry d => by
  obtain ⟨a, rfl, rfl⟩ := d
  cases rx
  cases ry
  exact SeqAt.EqAt.same (A := A) (s := s) (.ref a) X.prog X.w X.xe _ ⟨rfl, H, I, Ext.rfl'⟩
theorem op_eqId {X : Cx} (hr : Room 1 X.A) : OpR X (compareOp .Eq) (rEqG (DList DId)) := op_eqG (rcG_list mon_id eqG_id) hr
/-! ### a static method, called on its class -/
structure OwnS (P : Program) (w : World) (K : PySem.W.Frag) (mg : Str → Option Value) (base : Heap) (k : Nat) (C : Addr) (m : Str) (ps : List Str) (sp : Sp) : Prop where
  ex : ∃ f fd p mc, FnOk P w K mg base (L2.CX P w) k f fd ps sp ∧ ClX.CRead K C mc ∧ PySem.W.findCls K (.ref C) mc m = some (.get (.builtin "staticmethod.__get__") (.ref p) .none (.ref C)) ∧ (∃ rest, PySem.W.recIn K p "staticmethod" = some (.ref f :: rest)) ∧
    PySem.W.keepIn K (.ref f) = true ∧ Binds K fd ps []
def tStatS (C : Addr) (sp : Sp) (E : L2.St → XK) (ta : TE) (t : TA) : TE := fun σ H Q => ta σ H fun x H1 => x = .ref C ∧ t σ H1 fun vs H2 => sp vs H2 Q (E σ)
theorem pe_owns {X : Cx} {k : Nat} {C : Addr} {m : Str} {ps : List Str} {sp : Sp} {E : L2.St → XK} {pos apos : Pos} {e o : Expr} {es : List Expr} {ta : TE} {t : TA} {pl : Sem Bool} (O : OwnS X.prog X.w X.K X.mg X.base k C m ps sp) (he : PE X o ta) (hr : Room k X.A)
    (hx : ∀ σ, PassesAt (L2.CX X.prog X.w) X σ (E σ)) (ha : PA X (e :: es) t)
    (hst : starEach (e :: es) X.env = (false, eval e X.env) :: starEach es X.env := by rfl) (hpl : (backTo pos (starEach es X.env)).any (·.1) = false := by rfl)
    (ht : eval (.Call (.Attribute o m apos) (e :: es) [] pos) X.env = (do
      let ov ← eval o X.env
      standAt apos.atName
      let (f, first) ← holding [ov] (getMethod ov m pl)
      callWith pos f first (backTo pos (starEach (e :: es) X.env)) (backToKw pos (keywordEach [] X.env))) := by rfl) :
    PE X (.Call (.Attribute o m apos) (e :: es) [] pos) (tStatS C sp E ta t) := by
  obtain ⟨f, fd, q, mc, F, r, hc, ⟨rest, hp⟩, hk, hb⟩ := O.ex
  refine ⟨fun pins s σ H Q I h => ?_⟩
  refine PySem.W.methodCall_KW (pl := pl) (thn (he.run pins s σ H _ I h) fun u s1 ⟨x, H1, I1, rx, ex, q1⟩ => ?_) ht
  subst ex
  obtain rfl : u = Value.ref C := rx
  refine PySem.W.method_cls I1.kIn r.ga (PySem.W.cls_bind I1.kIn r.rd hc ?_)
  refine wpAny_call (PySem.W.sm_get (s := { s1 with toks := s1.toks + 1 }) I1.kIn hp (PySem.W.handed_on rfl ?_))
  have I2 := I1.tok (s1.toks + 1)
  refine PySem.W.callWith_K (first := []) (h₀ := X.base) I.ok.mod.kin hk (thn (ha.run pos pins _ σ H1 _ I2 q1) fun us s2 ⟨vs, H2, I3, rv, q2⟩ => ⟨I3.kIn, ?_⟩) hst hpl
  exact run_fnS F hr hb (hx σ) I3 rv q2
/-! ### an own error that is caught -/
theorem exm1 {K : PySem.W.Frag} {C : Addr} (h1 : PySem.W.subIn K (.ref C) (.type "BaseException") = some true) (h2 : PySem.W.isClsIn K C = true) (h3 : PySem.W.typeIn K (.ref C) = some (.type "type")) (h4 : PySem.W.subIn K (.ref C) (.ref C) = some true) :
    PySem.W.exmOne K (.ref C) (.ref C) = some true := by
  have h2' : (PySem.W.clsIn K C).isSome = true := h2
  unfold PySem.W.exmOne PySem.W.kitCls
  rw [if_pos (by rw [h1]; rfl)]
  simp only [h2', h3, h4]
  rfl
def tGuard (p : Prop) (t : TS) : TS := fun D σ H => p ∧ t D σ H
theorem pss_err {X : Cx} {st : List Stmt} {t : TS} {cls : Value} {d : Option Addr} {oe : Obj} {C : Addr} (hz : Zc cls d oe) (h : Zc (.ref C) none oe → PSs X st t) : PSs X st (tGuard (cls = .ref C ∧ d = none) t) :=
  ⟨fun pins s σ H D I q => (h (q.1.1 ▸ q.1.2 ▸ hz)).run pins s σ H D I q.2⟩
/-! ### the law's own promise, and the end -/
def sp_law (K : PySem.W.Frag) (_ : Nat → Addr) : Sp := fun vs H Q _ => ∃ (a : Addr) (ns : List Int), vs = [.ref a] ∧ SqL K H a (ns.map V.int) ∧ ∀ H' : Hp, Q (.bl true) H'
theorem walk {l : PySem.W.OpenLaw} {q : Program} {loose : List Str} {XP : (Str → Option Value) → Heap → Prop} {YP : World → Heap → Prop} {d : DefRec} {K : Params → PySem.W.Frag} (k : Nat) (hk : Room k callerA) (hn : l.most = some 63) (hdf : d.params.defaults = [])
    (hY : ∀ (w : World) (h : Heap), YP w h → (K w.params).In h)
    (F : ∀ (w : World) (mg : Str → Option Value) (fa : Addr) (h : Heap), (K w.params).In h → h.Ns mainGlobals mg → mg d.name = some (.ref fa) →
      ∃ fd : FuncData, (∀ (s : Shared) (u : Value), BindsTo s fd ⟨[u], []⟩ [("_law_script", u)]) ∧ ∀ base : Heap, (K w.params).In base → base.Ns mainGlobals mg → FnOk l.prog w (K w.params) mg base (L2.CX l.prog w) k fa fd ["_law_script"] (sp_law (K w.params) fun _ => 0)) :
    PySem.W.WalkO q loose XP YP l.row.toRowW d [] (fun f vs => PySem.call f vs) :=
  L2.walk_of (n := 63) (k := k) (x := "_law_script") (CX := fun w => L2.CX l.prog w) (sp := fun w => sp_law (K w.params) fun _ => 0) hn (by decide) hdf hk hY F (fun _ _ a ns _ _ hS => ⟨a, ns, rfl, hS, fun _ => rfl⟩)
    fun _ _ _ _ _ h => by
      obtain ⟨_, _, _, _, _, _, _, _, _, _, _, _, z⟩ := h
      exact z
theorem binds_all {K : PySem.W.Frag} {fd : FuncData} {ps : List Str} {ds : List Value} (v : Vals [] ds) (b : L2.Binds K fd ps ds) : L2.Binds K fd ps [] := by
  cases v
  exact b
end Lo
set_option Elab.async false
set_option linter.all false
set_option maxRecDepth 100000
set_option maxHeartbeats 4000000
local macro_rules | `(tactic| fail "lo_ne") => `(tactic| first
  | assumption
  | exact Ne.symm (by assumption))
local macro_rules | `(tactic| fail "lo_hq") => `(tactic| ((with_reducible show @Eq (Option L2.HO) _ _); first
  | (with_reducible exact L2.upd_same)
  | (with_reducible assumption)
  | exact Lo.sget (by with_reducible assumption) (by fail "lo_hq")
  | exact Lo.kget (by with_reducible assumption) (by fail "lo_ne") (by fail "lo_hq")
  | ((with_reducible show L2.upd _ _ _ _ = _); exact Lo.une (by fail "lo_ne") (by fail "lo_hq"))
  | assumption))
local macro_rules | `(tactic| fail "lo_R") => `(tactic| first
  | (with_reducible assumption)
  | exact Lo.rsame (by with_reducible assumption) (by fail "lo_R"))
local macro_rules | `(tactic| fail "lo_S") => `(tactic| first
  | (with_reducible assumption)
  | exact Lo.strans (by with_reducible assumption) (by fail "lo_S")
  | exact L2.Same.refl _)
local macro_rules | `(tactic| fail "lo_hp") => `(tactic| first
  | ((with_reducible show L2.SqT _ _ _ _); first | exact L2.SqT.of (by fail "lo_hq") | assumption)
  | ((with_reducible show L2.SqL _ _ _ _); first | exact L2.SqL.of (by fail "lo_hq") | assumption | exact L2.Same.seq (by assumption) (by fail "lo_hp")))
local macro_rules | `(tactic| fail "lo_mok") => `(tactic| first
  | exact Lo.mok_r (by decide)
  | exact Lo.mok_l (by decide)
  | exact Lo.mok_r (by omega)
  | exact Lo.mok_l (by omega)
  | assumption)
local macro_rules | `(tactic| fail "lo_cond") => `(tactic| first
  | (show PySem.IntMulOk _ _; fail "lo_mok")
  | (show (0 : Int) < _; first | decide | omega | assumption)
  | (show L2.CPow _ _; exact ⟨by decide, by decide, by first | decide | omega⟩)
  | (show Lo.CDivA _ _; exact ⟨by first | assumption | omega, by assumption⟩)
  | (show L2.CDivW _ _; exact ⟨by first | decide | omega, by first | decide | assumption⟩))
local macro_rules | `(tactic| fail "lo_lk") => `(tactic| ((with_reducible show @Eq (Option L2.V) _ _); first
  | exact Lo.lk0
  | exact Lo.lkn
  | exact Lo.lk1 (by decide +kernel) (by fail "lo_lk")))
/- one step of a reading that has one way only -/
local macro_rules | `(tactic| fail "lo_rd1") => `(tactic| first
  | (refine ⟨_, rfl, ?_⟩)
  | (refine ⟨_, _, rfl, rfl, (by fail "lo_cond"), ?_⟩)
  | (refine ⟨_, _, rfl, rfl, ?_⟩)
  | (refine ⟨_, _, _, _, rfl, rfl, (by fail "lo_hp"), Lo.ix_c (by rfl), ?_⟩)
  | (refine ⟨_, _, _, _, rfl, rfl, (by fail "lo_hq"), (by rfl), ?_⟩)
  | (refine ⟨_, _, _, _, _, rfl, (by fail "lo_hq"), (by fail "lo_cl"), (by fail "lo_na"), (by fail "lo_lk"), ?_⟩)
  | (refine ⟨_, _, _, _, rfl, (by fail "lo_hq"), (by fail "lo_cl"), (by fail "lo_na"), Nat.le_of_ble_eq_true rfl, ?_⟩)
  | (refine ⟨_, _, _, rfl, (by fail "lo_hq"), (by fail "lo_lk"), ?_⟩)
  | ((with_reducible show L2.rEqD _ (L2.V.ref _) (L2.V.ref _) _ _); refine Lo.eqT (by fail "lo_hq") (by fail "lo_hq") ?_)
  | ((with_reducible show L2.rNeD _ (L2.V.ref _) (L2.V.ref _) _ _); refine Lo.neT (by fail "lo_hq") (by fail "lo_hq") ?_)
  | (refine ⟨Or.inl ⟨rfl, _, (by fail "lo_hp")⟩, ?_⟩)
  | (refine Or.inl ⟨_, rfl, ?_⟩)
  | (refine Or.inr ⟨_, rfl, ?_⟩)
  | (refine ⟨rfl, ?_⟩)
  | (refine ⟨_, _, rfl, Or.inl (by fail "lo_hp"), ?_⟩)
  | (refine ⟨_, _, rfl, (by fail "lo_hp"), rfl, ?_⟩)
  | (refine ⟨_, _, rfl, ?_⟩)
  | (refine ⟨⟨_, (by fail "lo_hp")⟩, ?_⟩)
  | (refine ⟨Lo.line_le (Nat.le_of_ble_eq_true rfl), ?_⟩)
  | (with_reducible show L2.tNil _ _ _; dsimp only [L2.tNil]))
/- as many such steps as there are -/
local macro_rules | `(tactic| fail "rd") => `(tactic| repeat fail "lo_rd1")

namespace Lo
open PySem PySem.Spec PyProof.Rows L2
def top (i : Nat) : Stmt := PySem.Challenge.pw_lotcosts_k11_ratios_exact.main.body.getD i (.Pass ⟨0, 0, 0, 0⟩)
structure Txt (K : PySem.W.Frag) (mg : Str → Option Value) (ca : Nat → Addr) : Prop where
  b_abs : mg "abs" = none
  b_bool : mg "bool" = none
  b_int : mg "int" = none
  b_isinstance : mg "isinstance" = none
  b_len : mg "len" = none
  b_list : mg "list" = none
  b_range : mg "range" = none
  gcd : mg "gcd" = some (.builtin "math.gcd")
  g_NoRatio : mg "NoRatio" = some (.ref (ca 1))
  kp_NoRatio : PySem.W.keepIn K (.ref (ca 1)) = true
  ex_NoRatio : PySem.W.excIn K (ca 1) [.type "ValueError", .type "Exception", .type "BaseException", .type "object"] "ValueError.__new__" = true
  sb_NoRatio : PySem.W.subIn K (.ref (ca 1)) (.type "BaseException") = some true
  ty_NoRatio : PySem.W.typeIn K (.ref (ca 1)) = some (.type "type")
  g_Ratio : mg "Ratio" = some (.ref (ca 2))
  cl_Ratio : Cls K (ca 2)
  na_Ratio_top : NoAttr K (ca 2) "top"
  na_Ratio_bottom : NoAttr K (ca 2) "bottom"
  ic_Ratio : PySem.W.findIn K (.ref (ca 2)) "__class__" = some (some (.builtin "object.__class__"))
  in_Ratio : PySem.W.specialIn K (.builtin "object.__class__") "__get__" = some (some (.builtin "getset_descriptor.__get__"))
  it_Ratio : PySem.W.takesIn K (.builtin "object.__class__") = some true
  im_Ratio : PySem.W.mroIn K (ca 2) (.type "object") = some true
  ar_Ratio : Arith K (ca 2)
  ki_int_Ratio : PySem.W.kitOne K (.type "int") (.ref (ca 2)) = some false
local macro_rules | `(tactic| fail "lo_cl") => `(tactic| ((with_reducible show L2.Cls _ _); first
  | exact (show Txt _ _ _ by assumption).cl_Ratio))
local macro_rules | `(tactic| fail "lo_na") => `(tactic| ((with_reducible show L2.NoAttr _ _ _); first
  | exact (show Txt _ _ _ by assumption).na_Ratio_top
  | exact (show Txt _ _ _ by assumption).na_Ratio_bottom))
section
variable {P : Program} {w : World} {K : PySem.W.Frag} {mg : Str → Option Value} {base : Heap} {ca : Nat → Addr}
abbrev s_l_bag : Stmt := top 9
theorem sc_l_bag : FnScope ["_law_script"] ["_law_script"] (defScope s_l_bag) := ⟨rfl, rfl, rfl, by decide +kernel, rfl, by decide +kernel, by decide +kernel⟩
def sp_l_bag (K : PySem.W.Frag) (_ : Nat → Addr) : Sp := fun vs H Q _ => ∃ (a : Addr) (ns : List Int), vs = [.ref a] ∧ SqL K H a (ns.map V.int) ∧ ∀ (L b : Addr) (H' : Hp), H b = none → H L = none → Same H H' → Bag H' L b → Q (.ref b) H'
theorem ok_l_bag {f : Addr} {fd : FuncData} (F : Fun K "_law_bag" "_law_bag" s_l_bag f fd) (T : Txt K mg ca)  : FnOk P w K mg base (L2.CX P w) 1 f fd ["_law_script"] (sp_l_bag K ca) := by
  refine F.okX sc_l_bag (fun vs H Q E h => ?_) (fun cdv A outer s H vs Q E hr h => ?_)
  · obtain ⟨_, _, rfl, _⟩ := h
    rfl
  · obtain ⟨a, ns, rfl, hs, k⟩ := h
    refine ⟨_, pss_one (ps_ret (pe_lst (pa_cons (pe_callTy call_list_of (by rfl) T.b_list (by decide +kernel) (pa_cons (pv 0) pa_nil)) (pa_cons pe_int (pa_cons pe_int (pa_cons pe_int (pa_cons pe_int pa_nil))))))), ?_⟩
    fail "rd"
    intro L n_L
    generalize g_H1 : upd _ L _ = H1
    obtain ⟨s_H1, e_L⟩ := gen_new n_L g_H1
    clear g_H1
    fail "rd"
    intro b n_b
    generalize g_H2 : upd _ b _ = H2
    obtain ⟨s_H2, e_b⟩ := gen_new n_b g_H2
    clear g_H2
    exact k L b H2 (s_H1.free n_b) n_L (s_H1.trans s_H2) (Bag.mk (i := 0) e_b (s_H2 _ _ e_L) (ne_of_none e_L n_b))

abbrev s_l_draw : Stmt := top 10
theorem sc_l_draw : FnScope ["_law_bag_here", "_law_size", "_law_cell", "_law_digit", "_law_mixed"] ["_law_bag_here", "_law_size"] (defScope s_l_draw) := ⟨rfl, rfl, rfl, by decide +kernel, rfl, by decide +kernel, by decide +kernel⟩
def sp_l_draw (_ : PySem.W.Frag) (_ : Nat → Addr) : Sp := fun vs H Q _ => ∃ (b : Addr) (n : Int), vs = [.ref b, .int n] ∧ ∃ L : Addr, Bag H L b ∧ 0 < n ∧ n.natAbs.log2 < 9000 ∧ ∀ (d : Int) (H' : Hp), 0 ≤ d → d < n → Keep b H H' → Bag H' L b → Q (.int d) H'
theorem ok_l_draw {f : Addr} {fd : FuncData} (F : Fun K "_law_draw" "_law_draw" s_l_draw f fd) (T : Txt K mg ca)  : FnOk P w K mg base (L2.CX P w) 1 f fd ["_law_bag_here", "_law_size"] (sp_l_draw K ca) := by
  refine F.okX sc_l_draw (fun vs H Q E h => ?_) (fun cdv A outer s H vs Q E hr h => ?_)
  · obtain ⟨_, _, rfl, _⟩ := h
    rfl
  · obtain ⟨b, n, rfl, L, hB, h0, hn, k⟩ := h
    refine ⟨_, pss_cons (ps_asg (pe_op op_add (pe_ix ix_list (pv 0) pe_int (fun _ _ => rfl)) pe_int) (pg_sub (pv 0) pe_int set_list)) (Evl.pss_cut (ps_if (PW.pt (pw_and (pt_cmpR op_eq (pe_ix ix_list (pv 0) pe_int (fun _ _ => rfl)) pe_int (nomark _)) (pw_and1 (pt_cmpR op_lt (pe_ix ix_list (pv 0) pe_int (fun _ _ => rfl)) (pe_callB call_len_seq (by rfl) T.b_len (by decide +kernel) (pa_cons (pe_ix ix_list (pv 0) pe_int (fun _ _ => rfl)) pa_nil)) (nomark _))))) (pss_cons (ps_set (i := 2) sc_l_draw.nd rfl (Or.inl rfl) (pe_ix ix_list (pe_ix ix_list (pv 0) pe_int (fun _ _ => rfl)) (pe_ix ix_list (pv 0) pe_int (fun _ _ => rfl)) (fun _ _ => rfl))) (pss_cons (ps_asg (pe_op op_add (pe_ix ix_list (pv 0) pe_int (fun _ _ => rfl)) pe_int) (pg_sub (pv 0) pe_int set_list)) (pss_cons (ps_asg (pe_op op_mulI (pe_op op_add (pe_op op_mulI pe_int (pe_callB call_abs (by rfl) T.b_abs (by decide +kernel) (pa_cons (pv 2) pa_nil))) (pe_callTy call_int1 (by rfl) T.b_int (by decide +kernel) (pa_cons (pe_cmpR op_lt (pv 2) pe_int (nomark _)) pa_nil))) (pe_callTy call_int1 (by rfl) T.b_int (by decide +kernel) (pa_cons (pe_cmpR op_ge (pe_callB call_abs (by rfl) T.b_abs (by decide +kernel) (pa_cons (pv 2) pa_nil)) (pe_op op_pow pe_int pe_int) (nomark _)) pa_nil))) (pg_sub (pv 0) pe_int set_list)) (pss_one (ps_asg (pe_op op_mod (pe_callTy call_int1 (by rfl) T.b_int (by decide +kernel) (pa_cons (pe_op op_add (pe_op op_add (pe_op op_mulI (pe_ix ix_list (pv 0) pe_int (fun _ _ => rfl)) pe_int) (pe_op op_mulI (pv 2) pe_int)) pe_int) pa_nil)) pe_int) (pg_sub (pv 0) pe_int set_list)))))) pss_nil) (pss_cons (ps_set (i := 3) sc_l_draw.nd rfl (Or.inl rfl) (pe_op op_mod (pe_callTy call_int1 (by rfl) T.b_int (by decide +kernel) (pa_cons (pe_ix ix_list (pv 0) pe_int (fun _ _ => rfl)) pa_nil)) (pv 1))) (pss_cons (ps_if (pt_cmpR op_gt (pe_ix ix_list (pv 0) pe_int (fun _ _ => rfl)) pe_int (nomark _)) (pss_cons (ps_asg (pe_op op_fdivW (pe_ix ix_list (pv 0) pe_int (fun _ _ => rfl)) (pv 1)) (pg_sub (pv 0) pe_int set_list)) (pss_one (ps_ret (pv 3)))) pss_nil) (pss_cons (ps_set (i := 4) sc_l_draw.nd rfl (Or.inl rfl) (pe_op op_mod (pe_callTy call_int1 (by rfl) T.b_int (by decide +kernel) (pa_cons (pe_op op_add (pe_ix ix_list (pv 0) pe_int (fun _ _ => rfl)) (pe_op op_mulI (pe_ix ix_list (pv 0) pe_int (fun _ _ => rfl)) pe_int)) pa_nil)) pe_int)) (pss_cons (ps_set (i := 4) sc_l_draw.nd rfl (Or.inl rfl) (pe_op op_mod (pe_callTy call_int1 (by rfl) T.b_int (by decide +kernel) (pa_cons (pe_op op_add (pe_op op_add (pe_op op_pow (pv 4) pe_int) (pe_op op_mulI (pe_ix ix_list (pv 0) pe_int (fun _ _ => rfl)) pe_int)) pe_int) pa_nil)) pe_int)) (pss_one (ps_ret (pe_op op_mod (pe_op op_fdivW (pe_op op_mod (pe_callTy call_int1 (by rfl) T.b_int (by decide +kernel) (pa_cons (pe_op op_pow (pv 4) pe_int) pa_nil)) pe_int) pe_int) (pv 1))))))))), ?_⟩
    obtain ⟨ns, i, big, mix, cnt, hb, hL, hne⟩ := hB
    iterate 5 fail "lo_rd1"
    generalize g_H1 : upd _ b _ = H1
    obtain ⟨k_H1, e_H1⟩ := gen_put g_H1
    clear g_H1
    refine ⟨fun σ' H' => ∃ (v : Option V) (i : Nat) (big mix cnt : Int), σ' = [some (.ref b), some (.int n), v, none, none] ∧ Keep b H H' ∧ H' b = some (.lst [.ref L, .int i, .int big, .int mix, .int cnt]), ?_, ?_⟩
    · fail "rd"
      refine iteI (fun z1 => ?_) (fun z1 => ?_)
      · fail "rd"
        refine iteD (fun z2 => ?_) (fun z2 => ?_)
        · fail "rd"
          have hi : i < ns.length := by
            have z3 : (i : Int) < ((ns.map V.int).length : Nat) := z2
            rw [List.length_map] at z3
            omega
          refine ⟨_, _, _, _, rfl, rfl, (by fail "lo_hp"), atI_nat (v := .int ns[i]) (by simp [hi]), ?_⟩
          fail "rd"
          exact ⟨_, i + 1, _, _, _, rfl, ((k_H1.trans keep_upd).trans keep_upd).trans keep_upd, upd_same⟩
        · exact ⟨_, _, _, _, _, rfl, k_H1, e_H1⟩
      · exact ⟨_, _, _, _, _, rfl, k_H1, e_H1⟩
    · rintro σ' H' ⟨v, i, big, mix, cnt, rfl, kp, hb'⟩
      have hL' : H' L = some (.lst (ns.map V.int)) := kp _ _ hL hne
      fail "rd"
      refine iteD (fun z3 => ?_) (fun z3 => ?_)
      · fail "rd"
        exact k _ _ (Int.emod_nonneg _ (by omega)) (Int.emod_lt_of_pos _ h0) (kp.trans keep_upd) (Bag.mk upd_same (une hne hL') hne)
      · fail "rd"
        exact k _ _ (Int.emod_nonneg _ (by omega)) (Int.emod_lt_of_pos _ h0) kp (Bag.mk hb' hL' hne)

abbrev s_l_integer : Stmt := top 13
theorem sc_l_integer : FnScope ["_law_bag_here", "_law_choice", "_law_size", "_law_value"] ["_law_bag_here"] (defScope s_l_integer) := ⟨rfl, rfl, rfl, by decide +kernel, rfl, by decide +kernel, by decide +kernel⟩
def sp_l_integer (_ : PySem.W.Frag) (_ : Nat → Addr) : Sp := fun vs H Q _ => ∃ b : Addr, vs = [.ref b] ∧ ∃ L : Addr, Bag H L b ∧ ∀ (z : Int) (H' : Hp), z.natAbs < 2 ^ 164 → Keep b H H' → Bag H' L b → Q (.int z) H'
theorem ok_l_integer {f : Addr} {fd : FuncData} (F : Fun K "_law_integer" "_law_integer" s_l_integer f fd) (T : Txt K mg ca) (O__law_draw : Own P w K mg base 1 "_law_draw" ["_law_bag_here", "_law_size"] (sp_l_draw K ca)) : FnOk P w K mg base (L2.CX P w) 2 f fd ["_law_bag_here"] (sp_l_integer K ca) := by
  refine F.okX sc_l_integer (fun vs H Q E h => ?_) (fun cdv A outer s H vs Q E hr h => ?_)
  · obtain ⟨_, rfl, _⟩ := h
    rfl
  · obtain ⟨b, rfl, L, hB, k⟩ := h
    refine ⟨_, pss_cons (ps_set (i := 1) sc_l_integer.nd rfl (Or.inl rfl) (pe_own O__law_draw (hr.mono (by decide)) rfl pas0 (pa_cons (pv 0) (pa_cons pe_int pa_nil)))) (pss_cons (ps_if (pt_cmpR op_eq (pv 1) pe_int (nomark _)) (pss_one (ps_ret pe_int)) pss_nil) (pss_cons (ps_set (i := 2) sc_l_integer.nd rfl (Or.inl rfl) (pe_ix ix_list (pe_lst (pa_cons pe_int (pa_cons pe_int (pa_cons pe_int (pa_cons pe_int (pa_cons pe_int (pa_cons (pe_op op_pow pe_int pe_int) pa_nil))))))) (pv 1) (fun _ _ => rfl))) (pss_cons (ps_set (i := 3) sc_l_integer.nd rfl (Or.inl rfl) (pe_op op_add pe_int (pe_own O__law_draw (hr.mono (by decide)) rfl pas0 (pa_cons (pv 0) (pa_cons (pv 2) pa_nil))))) (pss_cons (ps_if (pt_cmpR op_eq (pe_own O__law_draw (hr.mono (by decide)) rfl pas0 (pa_cons (pv 0) (pa_cons pe_int pa_nil))) pe_int (nomark _)) (pss_one (ps_ret (pe_un un_neg (pv 3)))) pss_nil) (pss_one (ps_ret (pv 3))))))), ?_⟩
    fail "rd"
    refine ⟨L, hB, by decide, by decide, fun c H1 c0 c1 k1 B1 => ?_⟩
    fail "rd"
    refine iteI (fun z => ?_) (fun z => ?_)
    · fail "rd"
      exact k 0 H1 (by decide) k1 B1
    · fail "rd"
      intro l n_l
      generalize g_H2 : upd _ l _ = H2
      obtain ⟨s_H2, e_l⟩ := gen_new n_l g_H2
      clear g_H2
      have e_l : H2 l = some (.lst [.int 1, .int 2, .int 3, .int 12, .int 1000, .int (10 ^ 49)]) := e_l
      have B2 := B1.same s_H2
      obtain ⟨n, hn, n0, n1⟩ : ∃ n : Int, atI [V.int 1, .int 2, .int 3, .int 12, .int 1000, .int (10 ^ 49)] c = some (.int n) ∧ 0 < n ∧ n ≤ 10 ^ 49 := by
        have hc : c = 1 ∨ c = 2 ∨ c = 3 ∨ c = 4 ∨ c = 5 := by omega
        rcases hc with rfl | rfl | rfl | rfl | rfl
        · exact ⟨2, ix_c rfl, by decide, by decide⟩
        · exact ⟨3, ix_c rfl, by decide, by decide⟩
        · exact ⟨12, ix_c rfl, by decide, by decide⟩
        · exact ⟨1000, ix_c rfl, by decide, by decide⟩
        · exact ⟨10 ^ 49, ix_c rfl, by decide, by decide⟩
      refine ⟨_, rfl, _, _, _, _, rfl, rfl, SqL.of e_l, hn, ?_⟩
      fail "rd"
      have n2 : n.natAbs < 2 ^ 164 := lt164 (by omega) (by omega)
      refine ⟨L, B2, n0, lg164 n2, fun d H3 d0 d1 k3 B3 => ?_⟩
      have k03 := (k1.trans (.of s_H2)).trans k3
      fail "rd"
      refine ⟨L, B3, by decide, by decide, fun e H4 _ _ k4 B4 => ?_⟩
      fail "rd"
      refine iteI (fun y => ?_) (fun y => ?_)
      · fail "rd"
        exact k _ H4 (lt164 (by omega) (by omega)) (k03.trans k4) B4
      · fail "rd"
        exact k _ H4 (lt164 (by omega) (by omega)) (k03.trans k4) B4

abbrev s_l_pick : Stmt := top 12
theorem sc_l_pick : FnScope ["_law_bag_here", "_law_items"] ["_law_bag_here", "_law_items"] (defScope s_l_pick) := ⟨rfl, rfl, rfl, by decide +kernel, rfl, by decide +kernel, by decide +kernel⟩
def sp_l_pick (_ : PySem.W.Frag) (_ : Nat → Addr) : Sp := fun vs H Q _ => ∃ (b a : Addr) (xs : List V), vs = [.ref b, .ref a] ∧ ∃ L : Addr, Bag H L b ∧ H a = some (.lst xs) ∧ a ≠ b ∧ xs ≠ [] ∧ xs.length < 1000 ∧
  ∀ (i : Nat) (x : V) (H' : Hp), xs[i]? = some x → Keep b H H' → Bag H' L b → Q x H'
theorem ok_l_pick {f : Addr} {fd : FuncData} (F : Fun K "_law_pick" "_law_pick" s_l_pick f fd) (T : Txt K mg ca) (O__law_draw : Own P w K mg base 1 "_law_draw" ["_law_bag_here", "_law_size"] (sp_l_draw K ca)) : FnOk P w K mg base (L2.CX P w) 2 f fd ["_law_bag_here", "_law_items"] (sp_l_pick K ca) := by
  refine F.okX sc_l_pick (fun vs H Q E h => ?_) (fun cdv A outer s H vs Q E hr h => ?_)
  · obtain ⟨_, _, _, rfl, _⟩ := h
    rfl
  · obtain ⟨b, a, xs, rfl, L, hB, ha, hne, h0, h1, k⟩ := h
    refine ⟨_, pss_one (ps_ret (pe_ix ix_list (pv 1) (pe_own O__law_draw (hr.mono (by decide)) rfl pas0 (pa_cons (pv 0) (pa_cons (pe_callB call_len_seq (by rfl) T.b_len (by decide +kernel) (pa_cons (pv 1) pa_nil)) pa_nil))) (fun _ _ => rfl))), ?_⟩
    have hu : (0 : Int) < (xs.length : Nat) := by have := List.length_pos_iff.mpr h0; omega
    have h64 : (xs.length : Int).natAbs < 2 ^ 164 := Nat.lt_of_le_of_lt (show (xs.length : Int).natAbs ≤ 1000 by omega) (by decide)
    fail "rd"
    refine ⟨L, hB, hu, lg164 h64, fun d H1 d0 d1 k1 B1 => ?_⟩
    have ha := k1 _ _ ha hne
    obtain ⟨D, rfl⟩ := Int.eq_ofNat_of_zero_le d0
    have hD : D < xs.length := by omega
    refine ⟨a, xs, _, xs[D], rfl, rfl, SqL.of ha, atI_nat (by simp [hD]), ?_⟩
    exact k D _ H1 (by simp [hD]) k1 B1

abbrev s_l_divisor : Stmt := top 14
theorem sc_l_divisor : FnScope ["_law_one", "_law_other", "_law_rest"] ["_law_one", "_law_other"] (defScope s_l_divisor) := ⟨rfl, rfl, rfl, by decide +kernel, rfl, by decide +kernel, by decide +kernel⟩
def sp_l_divisor (_ : PySem.W.Frag) (_ : Nat → Addr) : Sp := fun vs H Q _ => ∃ a b : Int, vs = [.int a, .int b] ∧ 0 ≤ a ∧ 0 ≤ b ∧ Q (.int ((Nat.gcd a.natAbs b.natAbs : Nat) : Int)) H
theorem ok_l_divisor {f : Addr} {fd : FuncData} (F : Fun K "_law_divisor" "_law_divisor" s_l_divisor f fd) (T : Txt K mg ca)  : FnOk P w K mg base (L2.CX P w) 1 f fd ["_law_one", "_law_other"] (sp_l_divisor K ca) := by
  refine F.okX sc_l_divisor (fun vs H Q E h => ?_) (fun cdv A outer s H vs Q E hr h => ?_)
  · obtain ⟨_, _, rfl, _⟩ := h
    rfl
  · obtain ⟨a, b, rfl, ha, hb, k⟩ := h
    refine ⟨_, pss_cons (ps_while (passes_of rfl) (pt_cmpR op_ne (pv 1) pe_int (nomark _)) (pss_cons (ps_set (i := 2) sc_l_divisor.nd rfl (Or.inl rfl) (pe_op op_mod (pe_callTy call_int1 (by rfl) T.b_int (by decide +kernel) (pa_cons (pv 0) pa_nil)) (pv 1))) (pss_cons (ps_set (i := 0) sc_l_divisor.nd rfl (Or.inl rfl) (pv 1)) (pss_one (ps_set (i := 1) sc_l_divisor.nd rfl (Or.inl rfl) (pv 2)))))) (pss_one (ps_ret (pv 0))), ?_⟩
    refine while_by (fun σ' H' => ∃ (x y : Int) (v : Option V), σ' = [some (.int x), some (.int y), v] ∧ H' = H ∧ 0 ≤ x ∧ 0 ≤ y ∧ Nat.gcd x.natAbs y.natAbs = Nat.gcd a.natAbs b.natAbs)
      (fun σ' _ => match σ' with | [_, some (.int y), _] => y.toNat | _ => 0) ⟨a, b, none, rfl, rfl, ha, hb, rfl⟩ ?_ ?_
    · rintro σ' H' ⟨x, y, v, rfl, rfl, hx, hy, hg⟩
      fail "rd"
      refine iteIn (fun z => ?_) (fun z => ?_)
      · fail "rd"
        have z1 : 0 < y := by omega
        refine ⟨⟨y, x % y, _, rfl, rfl, hy, Int.emod_nonneg _ z, ?_⟩, ?_⟩
        · obtain ⟨X, rfl⟩ := Int.eq_ofNat_of_zero_le hx
          obtain ⟨Y, rfl⟩ := Int.eq_ofNat_of_zero_le hy
          rw [← hg]
          show Nat.gcd Y (X % Y) = Nat.gcd X Y
          rw [Nat.gcd_comm X Y, Nat.gcd_rec Y X, Nat.gcd_comm]
        · have z2 := Int.emod_lt_of_pos x z1
          have z3 := Int.emod_nonneg x z
          show (x % y).toNat < y.toNat
          omega
      · subst z
        fail "rd"
        have e : (Nat.gcd a.natAbs b.natAbs : Nat) = x.natAbs := by rw [← hg]; exact Nat.gcd_zero_right _
        rw [e] at k
        have e2 : ((x.natAbs : Nat) : Int) = x := by omega
        rw [e2] at k
        exact k
    · rintro σ H Q Q' hq ⟨v, e, s, c, e2, h⟩
      exact ⟨v, e, s, c, e2, hq _ _ h⟩

abbrev s_l_lowest : Stmt := top 15
theorem sc_l_lowest : FnScope ["_law_top", "_law_bottom", "_law_divisor_here"] ["_law_top", "_law_bottom"] (defScope s_l_lowest) := ⟨rfl, rfl, rfl, by decide +kernel, rfl, by decide +kernel, by decide +kernel⟩
def sp_l_lowest (_ : PySem.W.Frag) (_ : Nat → Addr) : Sp := fun vs H Q _ => ∃ a b : Int, vs = [.int a, .int b] ∧ b ≠ 0 ∧ b.natAbs.log2 < 9000 ∧
  ∀ (p : Addr) (H' : Hp), Same H H' → H p = none → H' p = some (.tup [.int (nrm a b).1, .int (nrm a b).2]) → Q (.ref p) H'
theorem ok_l_lowest {f : Addr} {fd : FuncData} (F : Fun K "_law_lowest" "_law_lowest" s_l_lowest f fd) (T : Txt K mg ca) (O__law_divisor : Own P w K mg base 1 "_law_divisor" ["_law_one", "_law_other"] (sp_l_divisor K ca)) : FnOk P w K mg base (L2.CX P w) 2 f fd ["_law_top", "_law_bottom"] (sp_l_lowest K ca) := by
  refine F.okX sc_l_lowest (fun vs H Q E h => ?_) (fun cdv A outer s H vs Q E hr h => ?_)
  · obtain ⟨_, _, rfl, _⟩ := h
    rfl
  · obtain ⟨a, b, rfl, h0, hs, k⟩ := h
    refine ⟨_, pss_cons (ps_set (i := 2) sc_l_lowest.nd rfl (Or.inl rfl) (pe_own O__law_divisor (hr.mono (by decide)) rfl pas0 (pa_cons (pe_callB call_abs (by rfl) T.b_abs (by decide +kernel) (pa_cons (pv 0) pa_nil)) (pa_cons (pe_callB call_abs (by rfl) T.b_abs (by decide +kernel) (pa_cons (pv 1) pa_nil)) pa_nil)))) (pss_cons (ps_if (pt_cmpR op_lt (pv 1) pe_int (nomark _)) (pss_one (ps_set (i := 2) sc_l_lowest.nd rfl (Or.inl rfl) (pe_un un_neg (pv 2)))) pss_nil) (pss_one (ps_ret (pe_tup (pa_cons (pe_op op_fdivA (pv 0) (pv 2)) (pa_cons (pe_op op_fdivA (pv 1) (pv 2)) pa_nil)))))), ?_⟩
    fail "rd"
    have ea : (if a < 0 then -a else a).natAbs = a.natAbs := by split <;> omega
    have eb : (if b < 0 then -b else b).natAbs = b.natAbs := by split <;> omega
    refine ⟨by split <;> omega, by split <;> omega, ?_⟩
    rw [ea, eb]
    have c1 := nrmC_ne (a := a) h0
    have c2 := nrmC_log (a := a) h0 hs
    unfold nrm nrmC at k
    unfold nrmC at c1 c2
    fail "rd"
    refine iteD (fun y => ?_) (fun y => ?_)
    · rw [if_pos y] at k c1 c2
      fail "rd"
      intro p n_p
      generalize g_H1 : upd _ p _ = H1
      obtain ⟨s_H1, e_p⟩ := gen_new n_p g_H1
      clear g_H1
      exact k p H1 s_H1 n_p e_p
    · rw [if_neg y] at k c1 c2
      fail "rd"
      intro p n_p
      generalize g_H1 : upd _ p _ = H1
      obtain ⟨s_H1, e_p⟩ := gen_new n_p g_H1
      clear g_H1
      exact k p H1 s_H1 n_p e_p

abbrev s_l_number : Stmt := top 11
theorem sc_l_number : FnScope ["_law_value"] ["_law_value"] (defScope s_l_number) := ⟨rfl, rfl, rfl, by decide +kernel, rfl, by decide +kernel, by decide +kernel⟩
def sp_l_number (_ : PySem.W.Frag) (_ : Nat → Addr) : Sp := fun vs H Q _ => ∃ i : Int, vs = [.int i] ∧ Q (.bl true) H
theorem ok_l_number {f : Addr} {fd : FuncData} (F : Fun K "_law_number" "_law_number" s_l_number f fd) (T : Txt K mg ca)  : FnOk P w K mg base (L2.CX P w) 1 f fd ["_law_value"] (sp_l_number K ca) := by
  refine F.okX sc_l_number (fun vs H Q E h => ?_) (fun cdv A outer s H vs Q E hr h => ?_)
  · obtain ⟨_, rfl, _⟩ := h
    rfl
  · obtain ⟨i, rfl, k⟩ := h
    refine ⟨_, pss_one (ps_ret (pe_and (pe_callB call_isi (by rfl) T.b_isinstance (by decide +kernel) (pa_cons (pv 0) (pa_cons (pe_bltn (v := .ty "int") (by rfl) T.b_int (by decide +kernel) rfl) pa_nil))) (pe_one (pe_not (pe_callB call_isi (by rfl) T.b_isinstance (by decide +kernel) (pa_cons (pv 0) (pa_cons (pe_bltn (v := .ty "bool") (by rfl) T.b_bool (by decide +kernel) rfl) pa_nil))))))), ?_⟩
    fail "rd"
    refine ⟨_, _, _, _, true, rfl, .ty "int", .base (.int _), kit_ty (by decide +kernel), ?_⟩
    fail "rd"
    refine ⟨_, _, _, _, false, rfl, .ty "bool", .base (.int _), kit_ty (by decide +kernel), ?_⟩
    fail "rd"
    exact k

abbrev s_l_is : Stmt := top 16
theorem sc_l_is : FnScope ["_law_told", "_law_top", "_law_bottom"] ["_law_told", "_law_top", "_law_bottom"] (defScope s_l_is) := ⟨rfl, rfl, rfl, by decide +kernel, rfl, by decide +kernel, by decide +kernel⟩
def sp_l_is (_ : PySem.W.Frag) (ca : Nat → Addr) : Sp := fun vs H Q _ => ∃ (p : Addr) (a b : Int), vs = [.ref p, .int a, .int b] ∧ RatQ ca H p a b ∧ Sz 4000 b ∧ ∀ H' : Hp, Same H H' → Q (.bl true) H'
theorem ok_l_is {f : Addr} {fd : FuncData} (F : Fun K "_law_is" "_law_is" s_l_is f fd) (T : Txt K mg ca) (O__law_lowest : Own P w K mg base 2 "_law_lowest" ["_law_top", "_law_bottom"] (sp_l_lowest K ca)) (O__law_number : Own P w K mg base 1 "_law_number" ["_law_value"] (sp_l_number K ca)) : FnOk P w K mg base (L2.CX P w) 3 f fd ["_law_told", "_law_top", "_law_bottom"] (sp_l_is K ca) := by
  refine F.okX sc_l_is (fun vs H Q E h => ?_) (fun cdv A outer s H vs Q E hr h => ?_)
  · obtain ⟨_, _, _, rfl, _⟩ := h
    rfl
  · obtain ⟨p, a, b, rfl, hR, hz, k⟩ := h
    refine ⟨_, pss_cons (ps_if (PW.pt (pw_or (pt_not (pt_val (pe_callB call_isi (by rfl) T.b_isinstance (by decide +kernel) (pa_cons (pv 0) (pa_cons (pe_glob (v := .ref (ca 2)) (by rfl) T.g_Ratio rfl) pa_nil))))) (pw_or (pt_not (pt_val (pe_own O__law_number (hr.mono (by decide)) rfl pas0 (pa_cons (pe_fld (pv 0) rfl) pa_nil)))) (pw_or1 (pt_not (pt_val (pe_own O__law_number (hr.mono (by decide)) rfl pas0 (pa_cons (pe_fld (pv 0) rfl) pa_nil)))))))) (pss_one (ps_ret pe_bl)) pss_nil) (pss_one (ps_ret (pe_cmpR (op_eqD (Room.units (hr.mono (Nat.zero_le _)))) (pe_tup (pa_cons (pe_fld (pv 0) rfl) (pa_cons (pe_fld (pv 0) rfl) pa_nil))) (pe_own O__law_lowest (hr.mono (by decide)) rfl pas0 (pa_cons (pv 1) (pa_cons (pv 2) pa_nil))) (nomark _)))), ?_⟩
    obtain ⟨dx, hp⟩ := hR.ins
    fail "rd"
    refine ⟨_, _, _, _, _, rfl, .own _, .base (.ins hp T.cl_Ratio T.ic_Ratio T.in_Ratio T.it_Ratio T.im_Ratio), kit_self, ?_⟩
    fail "rd"
    intro t n_t
    generalize g_H1 : upd _ t _ = H1
    obtain ⟨s_H1, e_t⟩ := gen_new n_t g_H1
    clear g_H1
    fail "rd"
    refine ⟨hR.ne, hz.lg, fun q H2 s2 nq e2 => ?_⟩
    have e_t := s2 _ _ e_t
    fail "rd"
    rw [decide_eq_true ⟨rfl, rfl⟩]
    exact k H2 (s_H1.trans s2)

abbrev s_Ratio_init : Stmt := inClass (top 7) 0
theorem sc_Ratio_init : FnScope ["self", "top", "bottom", "common"] ["self", "top", "bottom"] (defScope s_Ratio_init) := ⟨rfl, rfl, rfl, by decide +kernel, rfl, by decide +kernel, by decide +kernel⟩
def sp_Ratio_init (_ : PySem.W.Frag) (ca : Nat → Addr) : Sp := fun vs H Q E => ∃ (p dx : Addr) (a b : Int), vs = [.ref p, .int a, .int b] ∧ H p = some (.ins (ca 2) dx []) ∧ b.natAbs.log2 < 9000 ∧ (b = 0 → E (.ref (ca 1)) none H) ∧
  (b ≠ 0 → ∀ H' : Hp, Keep p H H' → H' p = some (.ins (ca 2) dx [("top", .int (nrm a b).1), ("bottom", .int (nrm a b).2)]) → Q .non H')
theorem ok_Ratio_init {f : Addr} {fd : FuncData} (F : FunD K "__init__" "Ratio.__init__" (defArgs s_Ratio_init) (defBody s_Ratio_init) (defScope s_Ratio_init) [.int 1] [] f fd) (T : Txt K mg ca)  : FnOk P w K mg base (L2.CX P w) 1 f fd ["self", "top", "bottom"] (sp_Ratio_init K ca) := by
  refine F.ok sc_Ratio_init (fun vs H Q E h => ?_) (fun cdv A outer s H vs Q E hr h => ?_)
  · obtain ⟨_, _, _, _, rfl, _⟩ := h
    rfl
  · obtain ⟨p, dx, a, b, rfl, hp, hs, h0, h1⟩ := h
    refine ⟨_, pss_cons (ps_if (pt_cmpR op_eq (pv 2) pe_int (nomark _)) (pss_one (ps_raise rfl (takes_of rfl rfl rfl rfl) (pmk_own0 PySem.F.excBase_ValueError T.ex_NoRatio T.g_NoRatio T.kp_NoRatio (raises_own T.sb_NoRatio T.ty_NoRatio) rfl))) pss_nil) (pss_cons (ps_set (i := 3) sc_Ratio_init.nd rfl (Or.inl rfl) (pe_callBfun cr_gcd rfl T.gcd (pa_cons (pv 1) (pa_cons (pv 2) pa_nil)))) (pss_cons (ps_if (pt_cmpR op_lt (pv 2) pe_int (nomark _)) (pss_one (ps_set (i := 3) sc_Ratio_init.nd rfl (Or.inl rfl) (pe_un un_neg (pv 3)))) pss_nil) (pss_cons (ps_fld (pv 0) (pe_op op_fdivA (pv 1) (pv 3)) rfl) (pss_one (ps_fld (pv 0) (pe_op op_fdivA (pv 2) (pv 3)) rfl))))), ?_⟩
    fail "rd"
    refine iteI (fun z => ?_) (fun z => ?_)
    · exact h0 z
    · have c1 := nrmC_ne (a := a) z
      have c2 := nrmC_log (a := a) z hs
      have fin : ∀ H' : Hp, H' = upd (upd H p (.ins (ca 2) dx (putF "top" (.int (nrm a b).1) []))) p (.ins (ca 2) dx (putF "bottom" (.int (nrm a b).2) (putF "top" (.int (nrm a b).1) []))) → Q .non H' := fun H' e => by
        subst e
        refine h1 z _ (keep_upd.trans keep_upd) ?_
        rw [upd_same, put_rat]
      unfold nrm nrmC at fin
      unfold nrmC at c1 c2
      fail "rd"
      refine iteD (fun y => ?_) (fun y => ?_)
      · rw [if_pos y] at fin c1 c2
        fail "rd"
        exact fin _ rfl
      · rw [if_neg y] at fin c1 c2
        fail "rd"
        exact fin _ rfl

abbrev s_as_ratio : Stmt := top 6
theorem sc_as_ratio : FnScope ["number"] ["number"] (defScope s_as_ratio) := ⟨rfl, rfl, rfl, by decide +kernel, rfl, by decide +kernel, by decide +kernel⟩
def sp_as_ratio (_ : PySem.W.Frag) (ca : Nat → Addr) : Sp := fun vs H Q _ => ∃ (x : V) (t b : Int), vs = [x] ∧ NumV ca H x t b ∧ ∀ (p : Addr) (H' : Hp), Same H H' → RatAt ca H' p t b → Q (.ref p) H'
theorem ok_as_ratio {f : Addr} {fd : FuncData} (F : Fun K "as_ratio" "as_ratio" s_as_ratio f fd) (T : Txt K mg ca) (O_Ratio_2 : OwnI P w K mg base 1 "Ratio" (ca 2) ["self", "top", "bottom"] [] (sp_Ratio_init K ca)) (O_Ratio_1 : OwnI P w K mg base 1 "Ratio" (ca 2) ["self", "top", "bottom"] [.int 1] (sp_Ratio_init K ca)) : FnOk P w K mg base (L2.CX P w) 3 f fd ["number"] (sp_as_ratio K ca) := by
  refine F.okX sc_as_ratio (fun vs H Q E h => ?_) (fun cdv A outer s H vs Q E hr h => ?_)
  · obtain ⟨_, _, _, rfl, _⟩ := h
    rfl
  · obtain ⟨x, t, b, rfl, hn, k⟩ := h
    refine ⟨_, pss_cons (ps_if (pt_val (pe_callB call_isi (by rfl) T.b_isinstance (by decide +kernel) (pa_cons (pv 0) (pa_cons (pe_glob (v := .ref (ca 2)) (by rfl) T.g_Ratio rfl) pa_nil)))) (pss_one (ps_ret (pv 0))) pss_nil) (pss_one (ps_ret (pe_owni O_Ratio_1 (hr.mono (by decide)) rfl pas0 (pa_cons (pv 0) pa_nil)))), ?_⟩
    rcases hn with ⟨rfl, rfl⟩ | ⟨p, rfl, hR⟩
    · fail "rd"
      refine ⟨_, _, _, _, _, rfl, .own _, .base (.int _), T.ki_int_Ratio, ?_⟩
      fail "rd"
      intro p dx np nd ne
      refine ⟨p, dx, t, 1, rfl, upd_same, by decide, fun z => absurd z (by decide), fun _ H2 k2 e2 => ⟨rfl, ?_⟩⟩
      refine k p H2 (same_made np nd ne k2) ⟨red_one, dx, ?_⟩
      rw [e2, nrm_one]
    · obtain ⟨hr1, dx, hp⟩ := id hR
      fail "rd"
      refine ⟨_, _, _, _, _, rfl, .own _, .base (.ins hp T.cl_Ratio T.ic_Ratio T.in_Ratio T.it_Ratio T.im_Ratio), kit_self, ?_⟩
      fail "rd"
      exact k p H (Same.refl H) hR

abbrev s_Ratio_add : Stmt := inClass (top 7) 1
theorem sc_Ratio_add : FnScope ["self", "other", "number"] ["self", "other"] (defScope s_Ratio_add) := ⟨rfl, rfl, rfl, by decide +kernel, rfl, by decide +kernel, by decide +kernel⟩
def sp_Ratio_add (_ : PySem.W.Frag) (ca : Nat → Addr) : Sp := fun vs H Q _ => ∃ (p : Addr) (x : V) (a b a' b' : Int), vs = [.ref p, x] ∧ RatQ ca H p a b ∧ NumQ ca H x a' b' ∧ Sz 4000 a ∧ Sz 4000 b ∧ Sz 4000 a' ∧ Sz 4000 b' ∧
  ∀ (q : Addr) (H' : Hp), H q = none → Same H H' → RatQ ca H' q (a * b' + a' * b) (b * b') → Q (.ref q) H'
theorem ok_Ratio_add {f : Addr} {fd : FuncData} (F : Fun K "__add__" "Ratio.__add__" s_Ratio_add f fd) (T : Txt K mg ca) (O_as_ratio : Own P w K mg base 3 "as_ratio" ["number"] (sp_as_ratio K ca)) (O_Ratio_2 : OwnI P w K mg base 1 "Ratio" (ca 2) ["self", "top", "bottom"] [] (sp_Ratio_init K ca)) (O_Ratio_1 : OwnI P w K mg base 1 "Ratio" (ca 2) ["self", "top", "bottom"] [.int 1] (sp_Ratio_init K ca)) : FnOk P w K mg base (L2.CX P w) 4 f fd ["self", "other"] (sp_Ratio_add K ca) := by
  refine F.okX sc_Ratio_add (fun vs H Q E h => ?_) (fun cdv A outer s H vs Q E hr h => ?_)
  · obtain ⟨_, _, _, _, _, _, rfl, _⟩ := h
    rfl
  · obtain ⟨p, x, a, b, a', b', rfl, hR, hn, s1, s2, s3, s4, k⟩ := h
    refine ⟨_, pss_cons (ps_set (i := 2) sc_Ratio_add.nd rfl (Or.inl rfl) (pe_own O_as_ratio (hr.mono (by decide)) rfl pas0 (pa_cons (pv 1) pa_nil))) (pss_one (ps_ret (pe_owni O_Ratio_2 (hr.mono (by decide)) rfl pas0 (pa_cons (pe_op op_add (pe_op op_mulI (pe_fld (pv 0) rfl) (pe_fld (pv 2) rfl)) (pe_op op_mulI (pe_fld (pv 2) rfl) (pe_fld (pv 0) rfl))) (pa_cons (pe_op op_mulI (pe_fld (pv 0) rfl) (pe_fld (pv 2) rfl)) pa_nil))))), ?_⟩
    fail "rd"
    refine ⟨x, _, _, rfl, hn.num, fun q H1 sm hq => ?_⟩
    obtain ⟨dx, hp⟩ := (hR.same sm).ins
    obtain ⟨_, dy, hq⟩ := hq
    have t1 := s1.le (nrm_le1 (a := a) hR.ne)
    have t2 := s2.le (nrm_le2 (a := a) hR.ne)
    have t3 := s3.le (nrm_le1 (a := a') hn.ne)
    have t4 := s4.le (nrm_le2 (a := a') hn.ne)
    have m1 : IntMulOk (nrm a b).1 (nrm a' b').2 := t1.mok t4
    have m2 : IntMulOk (nrm a' b').1 (nrm a b).2 := t3.mok t2
    have m3 : IntMulOk (nrm a b).2 (nrm a' b').2 := t2.mok t4
    have m4 : IntMulOk (nrm a b).1 (nrm a' b').1 := t1.mok t3
    have n0 : (nrm a b).2 * (nrm a' b').2 ≠ 0 := Int.mul_ne_zero (nrm_ne hR.ne) (nrm_ne hn.ne)
    fail "rd"
    intro r d_r n_r nd_r ne_r
    refine ⟨r, d_r, _, _, rfl, upd_same, ((t2.mul t4).lg), fun z => absurd z n0, fun _ H2 k_r e_r => ⟨rfl, ?_⟩⟩
    have s_H2 := same_made n_r nd_r ne_r k_r
    exact k r H2 (sm.free n_r) (sm.trans s_H2) (.of (Int.mul_ne_zero hR.ne hn.ne) e_r (nrm_add hR.ne hn.ne))

abbrev s_Ratio_sum_of : Stmt := inClass (top 7) 15
theorem sc_Ratio_sum_of : FnScope ["items", "total", "item"] ["items"] (defScope s_Ratio_sum_of) := ⟨rfl, rfl, rfl, by decide +kernel, rfl, by decide +kernel, by decide +kernel⟩
/-- what sum_of needs: the items are numbers, and all sums on the way are small -/
def sp_Ratio_sum_of (K : PySem.W.Frag) (ca : Nat → Addr) : Sp := fun vs H Q _ => ∃ (l : Addr) (xs : List V) (fs : List (Int × Int)), vs = [.ref l] ∧ SqL K H l xs ∧ xs.length = fs.length ∧ (∀ (i : Nat) (x : V) (f : Int × Int), xs[i]? = some x → fs[i]? = some f → NumQ ca H x f.1 f.2 ∧ Sz 4000 f.1 ∧ Sz 4000 f.2) ∧
  (∀ i, i < fs.length → Sz 4000 (sumQ (0, 1) (fs.take i)).1 ∧ Sz 4000 (sumQ (0, 1) (fs.take i)).2) ∧ ∀ (q : Addr) (H' : Hp), Same H H' → RatQ ca H' q (sumQ (0, 1) fs).1 (sumQ (0, 1) fs).2 → Q (.ref q) H'
theorem ok_Ratio_sum_of {f : Addr} {fd : FuncData} (F : Fun K "sum_of" "Ratio.sum_of" s_Ratio_sum_of f fd) (T : Txt K mg ca) (O_Ratio_2 : OwnI P w K mg base 1 "Ratio" (ca 2) ["self", "top", "bottom"] [] (sp_Ratio_init K ca)) (O_Ratio_1 : OwnI P w K mg base 1 "Ratio" (ca 2) ["self", "top", "bottom"] [.int 1] (sp_Ratio_init K ca)) (O_Ratio___add__ : OwnM P w K mg base 4 (ca 2) "__add__" ["self", "other"] (sp_Ratio_add K ca)) : FnOk P w K mg base (L2.CX P w) 5 f fd ["items"] (sp_Ratio_sum_of K ca) := by
  refine F.okX sc_Ratio_sum_of (fun vs H Q E h => ?_) (fun cdv A outer s H vs Q E hr h => ?_)
  · obtain ⟨_, _, _, rfl, _⟩ := h
    rfl
  · obtain ⟨l, xs, fs, rfl, hl, hlen, hf, hz, k⟩ := h
    refine ⟨_, pss_cons (ps_set (i := 1) sc_Ratio_sum_of.nd rfl (Or.inl rfl) (pe_owni O_Ratio_1 (hr.mono (by decide)) rfl pas0 (pa_cons pe_int pa_nil))) (pss_cons (ps_for (passes_of rfl) rfl (pi_list (pv 0)) (pg_name (i := 2) sc_Ratio_sum_of.nd rfl (Or.inl rfl)) (pss_one (ps_set (i := 1) sc_Ratio_sum_of.nd rfl (Or.inl rfl) (pe_op (op_own .add T.ar_Ratio O_Ratio___add__ (hr.mono (by decide)) passL) (pv 1) (pv 2))))) (pss_one (ps_ret (pv 1)))), ?_⟩
    fail "rd"
    intro t d_t n_t nd_t ne_t
    refine ⟨t, d_t, _, _, rfl, upd_same, (by decide), fun z => absurd z (by decide), fun _ H1 k_t e_t => ⟨rfl, ?_⟩⟩
    have s_H1 := same_made n_t nd_t ne_t k_t
    have R1 : RatQ ca H1 t 0 1 := ⟨by decide, nrm_red (by decide), _, e_t⟩
    fail "rd"
    refine for_list (K := K) (a := l) (xs := xs) (fun i σ' H' => ∃ (p : Addr) (v : Option V), σ' = [some (.ref l), some (.ref p), v] ∧ Same H1 H' ∧ RatQ ca H' p (sumQ (0, 1) (fs.take i)).1 (sumQ (0, 1) (fs.take i)).2) ⟨t, none, rfl, Same.refl _, R1⟩
      (fun i σ' H' _ ⟨_, _, _, s, _⟩ => SqL.same (s_H1.trans s) hl) ?_ ?_
    · rintro i x σ' H' hx ⟨p, v, rfl, sH, R⟩
      have hi : i < fs.length := by
        have := (List.getElem?_eq_some_iff.mp hx).1
        omega
      obtain ⟨n1, z1, z2⟩ := hf i x fs[i] hx (by simp [hi])
      have n1 := n1.same (s_H1.trans sH)
      obtain ⟨z3, z4⟩ := hz i hi
      fail "rd"
      refine rOwn_of R n1 ⟨p, x, _, _, _, _, rfl, R, n1, z3, z4, z1, z2, fun q H2 nq sm hq => ?_⟩
      fail "rd"
      refine ⟨sH.trans sm, ?_⟩
      rw [List.take_succ_eq_append_getElem hi]
      unfold sumQ at hq ⊢
      rw [List.foldl_append]
      exact hq
    · rintro σ' H' ⟨p, v, rfl, sH, R⟩
      fail "rd"
      rw [hlen, List.take_length] at R
      exact k p H' (s_H1.trans sH) R

abbrev s_l_list_right : Stmt := top 19
theorem sc_l_list_right : FnScope ["_law_bag_here", "_law_pairs", "_law_items", "_law_top", "_law_bottom", "_law_k", "_law_item", "_law_value", "_law_kept", "_law_turn"] ["_law_bag_here", "_law_pairs"] (defScope s_l_list_right) := ⟨rfl, rfl, rfl, by decide +kernel, rfl, by decide +kernel, by decide +kernel⟩
def sp_l_list_right (_ : PySem.W.Frag) (ca : Nat → Addr) : Sp := fun vs H Q _ => ∃ (b lp : Addr) (ps : List V), vs = [.ref b, .ref lp] ∧ ∃ L : Addr, Bag H L b ∧ H lp = some (.lst ps) ∧ lp ≠ b ∧ ps ≠ [] ∧ ps.length < 1000 ∧ (∀ x ∈ ps, Item ca H x) ∧
  ∀ H' : Hp, Q (.bl true) H'
theorem ok_l_list_right {f : Addr} {fd : FuncData} (F : Fun K "_law_list_right" "_law_list_right" s_l_list_right f fd) (T : Txt K mg ca) (O__law_draw : Own P w K mg base 1 "_law_draw" ["_law_bag_here", "_law_size"] (sp_l_draw K ca)) (O__law_pick : Own P w K mg base 2 "_law_pick" ["_law_bag_here", "_law_items"] (sp_l_pick K ca)) (O__law_lowest : Own P w K mg base 2 "_law_lowest" ["_law_top", "_law_bottom"] (sp_l_lowest K ca)) (O__law_is : Own P w K mg base 3 "_law_is" ["_law_told", "_law_top", "_law_bottom"] (sp_l_is K ca)) (O_Ratio_sum_of : OwnS P w K mg base 5 (ca 2) "sum_of" ["items"] (sp_Ratio_sum_of K ca)) : FnOk P w K mg base (L2.CX P w) 6 f fd ["_law_bag_here", "_law_pairs"] (sp_l_list_right K ca) := by
  refine F.okX sc_l_list_right (fun vs H Q E h => ?_) (fun cdv A outer s H vs Q E hr h => ?_)
  · obtain ⟨_, _, _, rfl, _⟩ := h
    rfl
  · obtain ⟨b, lp, ps, rfl, L, hB, hlp, hne, h0, h1, hit, k⟩ := h
    refine ⟨_, pss_cons (ps_set (i := 2) sc_l_list_right.nd rfl (Or.inl rfl) (pe_lst pa_nil)) (pss_cons (ps_set (i := 3) sc_l_list_right.nd rfl (Or.inl rfl) pe_int) (pss_cons (ps_set (i := 4) sc_l_list_right.nd rfl (Or.inl rfl) pe_int) (pss_cons (ps_for (passes_of rfl) rfl (pi_range1 rfl T.b_range (pa_cons (pe_own O__law_draw (hr.mono (by decide)) rfl pas0 (pa_cons (pv 0) (pa_cons pe_int pa_nil))) pa_nil)) (pg_name (i := 5) sc_l_list_right.nd rfl (Or.inl rfl)) (pss_cons (ps_asg (pe_own O__law_pick (hr.mono (by decide)) rfl pas0 (pa_cons (pv 0) (pa_cons (pv 1) pa_nil))) (pg_tup rfl (pgs_cons (pg_name (i := 6) sc_l_list_right.nd rfl (Or.inl rfl)) (pgs_cons (pg_name (i := 7) sc_l_list_right.nd rfl (Or.inl rfl)) pgs_nil)))) (pss_cons (ps_expr (pe_bm PySem.F.plainAttrs_list PySem.F.slot_list_append PySem.F.type_list_append mt_append (pv 2) (pa_cons (pv 6) pa_nil))) (pss_one (ps_asg (pe_own O__law_lowest (hr.mono (by decide)) rfl pas0 (pa_cons (pe_op op_add (pe_op op_mulI (pv 3) (pe_ix ix_tup (pv 7) pe_int (fun _ _ => rfl))) (pe_op op_mulI (pe_ix ix_tup (pv 7) pe_int (fun _ _ => rfl)) (pv 4))) (pa_cons (pe_op op_mulI (pv 4) (pe_ix ix_tup (pv 7) pe_int (fun _ _ => rfl))) pa_nil))) (pg_tup rfl (pgs_cons (pg_name (i := 3) sc_l_list_right.nd rfl (Or.inl rfl)) (pgs_cons (pg_name (i := 4) sc_l_list_right.nd rfl (Or.inl rfl)) pgs_nil)))))))) (pss_cons (ps_set (i := 8) sc_l_list_right.nd rfl (Or.inl rfl) (pe_callTy call_list_of (by rfl) T.b_list (by decide +kernel) (pa_cons (pv 2) pa_nil))) (pss_cons (ps_for (passes_of rfl) rfl (pi_range1 rfl T.b_range (pa_cons pe_int pa_nil)) (pg_name (i := 9) sc_l_list_right.nd rfl (Or.inl rfl)) (pss_one (ps_if (pt_not (pt_val (pe_own O__law_is (hr.mono (by decide)) rfl pas0 (pa_cons (pe_owns O_Ratio_sum_of (pe_glob (v := .ref (ca 2)) (by rfl) T.g_Ratio rfl) (hr.mono (by decide)) pas0 (pa_cons (pv 2) pa_nil)) (pa_cons (pv 3) (pa_cons (pv 4) pa_nil)))))) (pss_one (ps_ret pe_bl)) pss_nil))) (pss_one (ps_ret (pe_cmpR (op_eqId (hr.mono (by decide))) (pv 2) (pv 8) (nomark _))))))))), ?_⟩
    fail "rd"
    intro l n_l
    generalize g_H1 : upd _ l _ = H1
    obtain ⟨s_H1, e_l⟩ := gen_new n_l g_H1
    clear g_H1
    have B1 := hB.same s_H1
    fail "rd"
    refine ⟨L, B1, by decide, by decide, fun n H2 n0 n1 k2 B2 => ?_⟩
    have lb := hB.ne n_l
    have lL := hB.neL n_l
    have lne : lp ≠ l := ne_of_none hlp n_l
    have e_l := k2 _ _ e_l lb
    have hlp := k2 _ _ (s_H1 _ _ hlp) hne
    obtain ⟨xb, hxb⟩ := B1.lst
    have hit : ∀ x ∈ ps, Item ca H2 x := fun x hx => ((hit x hx).same s_H1).put hxb k2
    obtain ⟨N, rfl⟩ := Int.eq_ofNat_of_zero_le n0
    have hz : (N : Int) < 2 ^ 62 := by
      have e : (2 : Int) ^ 62 = 4611686018427387904 := by decide
      omega
    fail "rd"
    refine ⟨by omega, hz, for_range (n := N) (fun i σ' H' => ∃ (xs : List V) (fs : List (Int × Int)) (v1 v2 v3 : Option V), σ' = [some (.ref b), some (.ref lp), some (.ref l), some (.int (nrm (sumQ (0, 1) fs).1 (sumQ (0, 1) fs).2).1), some (.int (nrm (sumQ (0, 1) fs).1 (sumQ (0, 1) fs).2).2), v1, v2, v3, none, none] ∧
        Bag H' L b ∧ H' lp = some (.lst ps) ∧ H' l = some (.lst xs) ∧ (∀ x ∈ ps, Item ca H' x) ∧ xs.length = i ∧ fs.length = i ∧ Nums ca H' xs fs)
      ⟨[], [], none, none, none, rfl, B2, hlp, e_l, hit, rfl, rfl, .nil⟩ ?_ ?_⟩
    · rintro i σ' H' hi ⟨xs, fs, v1, v2, v3, rfl, B', hlp, hl, hit, u1, u2, hN⟩
      have nS : (sumQ (0, 1) fs).2 ≠ 0 := sumQ_ne fs (0, 1) hN.ne (by decide)
      obtain ⟨zS1, zS2⟩ := sumQ_size fs (0, 1) 1 hN.sz Sz.zero Sz.one
      have zS1 : Sz 2000 _ := (zS1.le (nrm_le1 nS)).mono (by omega)
      have zS2 : Sz 2000 _ := (zS2.le (nrm_le2 (a := (sumQ (0, 1) fs).1) nS)).mono (by omega)
      have nB := nrm_ne (a := (sumQ (0, 1) fs).1) nS
      fail "rd"
      refine ⟨b, lp, ps, rfl, L, B', hlp, hne, h0, h1, fun j x H3 hx k3 B3 => ?_⟩
      obtain ⟨xb, hxb⟩ := B'.lst
      obtain ⟨t, y, v, a, c, rfl, ht, hv, hn, z1, z2⟩ := (hit x (List.mem_of_getElem? hx)).put hxb k3
      have hit : ∀ x ∈ ps, Item ca H3 x := fun x hx => (hit x hx).put hxb k3
      have hN := hN.put hxb k3
      have hlp := k3 _ _ hlp hne
      have hl := k3 _ _ hl lb
      have m1 : IntMulOk (nrm (sumQ (0, 1) fs).1 (sumQ (0, 1) fs).2).1 c := zS1.mok z2
      have m2 : IntMulOk a (nrm (sumQ (0, 1) fs).1 (sumQ (0, 1) fs).2).2 := z1.mok zS2
      have m3 : IntMulOk (nrm (sumQ (0, 1) fs).1 (sumQ (0, 1) fs).2).2 c := zS2.mok z2
      fail "rd"
      refine ⟨l, xs, _, rfl, rfl, hl, Nat.lt_of_lt_of_le (show xs.length < 2000 by omega) (line_le (by decide)), ?_⟩
      generalize g_H4 : upd _ l _ = H4
      obtain ⟨k_H4, e_H4⟩ := gen_put g_H4
      clear g_H4
      have B4 := B3.keep k_H4 lb lL
      have hv := k_H4 _ _ hv (ne_of hv hl fun z => nomatch z)
      have hit : ∀ x ∈ ps, Item ca H4 x := fun x hx => (hit x hx).put hl k_H4
      have hN := hN.put hl k_H4
      have hn := hn.put hl k_H4
      have hlp := k_H4 _ _ hlp lne
      fail "rd"
      refine ⟨Int.mul_ne_zero nB hn.ne, (zS2.mul z2).lg, fun p H5 s5 n5 e5 => ?_⟩
      rw [nrm_addL nS hn.ne] at e5
      fail "rd"
      have hN2 : Nums ca H4 (xs ++ [y]) (fs ++ [(a, c)]) := Paired.snoc hN ⟨hn, z1, z2⟩
      refine ⟨xs ++ [y], fs ++ [(a, c)], _, _, _, by rw [sumQ_app]; rfl, B4.same s5, s5 _ _ hlp, s5 _ _ e_H4, fun x hx => (hit x hx).same s5, ?_, ?_, hN2.same s5⟩
      · rw [List.length_append, u1]
        rfl
      · rw [List.length_append, u2]
        rfl
    · rintro σ' H' ⟨xs, fs, v1, v2, v3, rfl, B', hlp, hl, hit, u1, u2, hN⟩
      have nS : (sumQ (0, 1) fs).2 ≠ 0 := sumQ_ne fs (0, 1) hN.ne (by decide)
      obtain ⟨zS1, zS2⟩ := sumQ_size fs (0, 1) 1 hN.sz Sz.zero Sz.one
      have zB : Sz 4000 _ := (zS2.le (nrm_le2 (a := (sumQ (0, 1) fs).1) nS)).mono (by omega)
      fail "rd"
      intro q n_q
      generalize g_H3 : upd _ q _ = H3
      obtain ⟨s_H3, e_q⟩ := gen_new n_q g_H3
      clear g_H3
      have hl := s_H3 _ _ hl
      have hN := hN.same s_H3
      fail "rd"
      refine ⟨by decide, by decide, for_range (n := 2) (fun i σ' H' => ∃ (v : Option V) (v1 v2 v3 : Option V), σ' = [some (.ref b), some (.ref lp), some (.ref l), some (.int (nrm (sumQ (0, 1) fs).1 (sumQ (0, 1) fs).2).1), some (.int (nrm (sumQ (0, 1) fs).1 (sumQ (0, 1) fs).2).2), v1, v2, v3, some (.ref q), v] ∧ Same H3 H')
        ⟨none, _, _, _, rfl, Same.refl _⟩ ?_ ?_⟩
      · rintro i σ' H' hi ⟨v, v1, v2, v3, rfl, sH⟩
        have hl := sH _ _ hl
        have hN := hN.same sH
        fail "rd"
        refine ⟨l, xs, fs, rfl, SqL.of hl, hN.length, fun j x f hx hf => ?_, fun j hj => ?_, fun r H4 s4 hr => ?_⟩
        · obtain ⟨n, z1, z2⟩ := paired_get hN hx hf
          exact ⟨n, z1.mono, z2.mono⟩
        · have hN' : ∀ f ∈ fs.take j, Sz 200 f.1 ∧ Sz 200 f.2 := fun f hf => hN.sz f (List.mem_of_mem_take hf)
          obtain ⟨w1, w2⟩ := sumQ_size (fs.take j) (0, 1) 1 hN' Sz.zero Sz.one
          have : (fs.take j).length ≤ j := by rw [List.length_take]; omega
          exact ⟨w1.mono (by omega), w2.mono (by omega)⟩
        · fail "rd"
          refine ⟨r, _, _, rfl, hr.low, zB, fun H5 s5 => ?_⟩
          fail "rd"
          exact ⟨_, _, _, _, rfl, sH.trans (s4.trans s5)⟩
      · rintro σ' H' ⟨v, v1, v2, v3, rfl, sH⟩
        fail "rd"
        refine ⟨⟨l, q, xs, xs, rfl, rfl, sH _ _ hl, sH _ _ e_q, rfl, fun i x y h1 h2 => ?_⟩, fun H4 _ => k H4⟩
        rw [h1] at h2
        cases h2
        have hl := hN.length
        obtain ⟨f, hf⟩ : ∃ f, fs[i]? = some f := by
          have := (List.getElem?_eq_some_iff.mp h1).1
          exact ⟨fs[i]'(by omega), List.getElem?_eq_getElem (by omega)⟩
        rcases (paired_get hN h1 hf).1 with ⟨e, _⟩ | ⟨p, e, _⟩
        · subst e
          exact .inl ⟨rfl, rfl, by simp [eqV]⟩
        · exact .inr ⟨p, e, e⟩

abbrev s_Ratio_sub : Stmt := inClass (top 7) 3
theorem sc_Ratio_sub : FnScope ["self", "other", "number"] ["self", "other"] (defScope s_Ratio_sub) := ⟨rfl, rfl, rfl, by decide +kernel, rfl, by decide +kernel, by decide +kernel⟩
def sp_Ratio_sub (_ : PySem.W.Frag) (ca : Nat → Addr) : Sp := fun vs H Q _ => ∃ (p : Addr) (x : V) (a b a' b' : Int), vs = [.ref p, x] ∧ RatQ ca H p a b ∧ NumQ ca H x a' b' ∧ Sz 4000 a ∧ Sz 4000 b ∧ Sz 4000 a' ∧ Sz 4000 b' ∧
  ∀ (q : Addr) (H' : Hp), H q = none → Same H H' → RatQ ca H' q (a * b' - a' * b) (b * b') → Q (.ref q) H'
theorem ok_Ratio_sub {f : Addr} {fd : FuncData} (F : Fun K "__sub__" "Ratio.__sub__" s_Ratio_sub f fd) (T : Txt K mg ca) (O_as_ratio : Own P w K mg base 3 "as_ratio" ["number"] (sp_as_ratio K ca)) (O_Ratio_2 : OwnI P w K mg base 1 "Ratio" (ca 2) ["self", "top", "bottom"] [] (sp_Ratio_init K ca)) (O_Ratio_1 : OwnI P w K mg base 1 "Ratio" (ca 2) ["self", "top", "bottom"] [.int 1] (sp_Ratio_init K ca)) : FnOk P w K mg base (L2.CX P w) 4 f fd ["self", "other"] (sp_Ratio_sub K ca) := by
  refine F.okX sc_Ratio_sub (fun vs H Q E h => ?_) (fun cdv A outer s H vs Q E hr h => ?_)
  · obtain ⟨_, _, _, _, _, _, rfl, _⟩ := h
    rfl
  · obtain ⟨p, x, a, b, a', b', rfl, hR, hn, s1, s2, s3, s4, k⟩ := h
    refine ⟨_, pss_cons (ps_set (i := 2) sc_Ratio_sub.nd rfl (Or.inl rfl) (pe_own O_as_ratio (hr.mono (by decide)) rfl pas0 (pa_cons (pv 1) pa_nil))) (pss_one (ps_ret (pe_owni O_Ratio_2 (hr.mono (by decide)) rfl pas0 (pa_cons (pe_op op_sub (pe_op op_mulI (pe_fld (pv 0) rfl) (pe_fld (pv 2) rfl)) (pe_op op_mulI (pe_fld (pv 2) rfl) (pe_fld (pv 0) rfl))) (pa_cons (pe_op op_mulI (pe_fld (pv 0) rfl) (pe_fld (pv 2) rfl)) pa_nil))))), ?_⟩
    fail "rd"
    refine ⟨x, _, _, rfl, hn.num, fun q H1 sm hq => ?_⟩
    obtain ⟨dx, hp⟩ := (hR.same sm).ins
    obtain ⟨_, dy, hq⟩ := hq
    have t1 := s1.le (nrm_le1 (a := a) hR.ne)
    have t2 := s2.le (nrm_le2 (a := a) hR.ne)
    have t3 := s3.le (nrm_le1 (a := a') hn.ne)
    have t4 := s4.le (nrm_le2 (a := a') hn.ne)
    have m1 : IntMulOk (nrm a b).1 (nrm a' b').2 := t1.mok t4
    have m2 : IntMulOk (nrm a' b').1 (nrm a b).2 := t3.mok t2
    have m3 : IntMulOk (nrm a b).2 (nrm a' b').2 := t2.mok t4
    have m4 : IntMulOk (nrm a b).1 (nrm a' b').1 := t1.mok t3
    have n0 : (nrm a b).2 * (nrm a' b').2 ≠ 0 := Int.mul_ne_zero (nrm_ne hR.ne) (nrm_ne hn.ne)
    fail "rd"
    intro r d_r n_r nd_r ne_r
    refine ⟨r, d_r, _, _, rfl, upd_same, ((t2.mul t4).lg), fun z => absurd z n0, fun _ H2 k_r e_r => ⟨rfl, ?_⟩⟩
    have s_H2 := same_made n_r nd_r ne_r k_r
    exact k r H2 (sm.free n_r) (sm.trans s_H2) (.of (Int.mul_ne_zero hR.ne hn.ne) e_r (nrm_sub hR.ne hn.ne))

abbrev s_Ratio_mul : Stmt := inClass (top 7) 5
theorem sc_Ratio_mul : FnScope ["self", "other", "number"] ["self", "other"] (defScope s_Ratio_mul) := ⟨rfl, rfl, rfl, by decide +kernel, rfl, by decide +kernel, by decide +kernel⟩
def sp_Ratio_mul (_ : PySem.W.Frag) (ca : Nat → Addr) : Sp := fun vs H Q _ => ∃ (p : Addr) (x : V) (a b a' b' : Int), vs = [.ref p, x] ∧ RatQ ca H p a b ∧ NumQ ca H x a' b' ∧ Sz 4000 a ∧ Sz 4000 b ∧ Sz 4000 a' ∧ Sz 4000 b' ∧
  ∀ (q : Addr) (H' : Hp), H q = none → Same H H' → RatQ ca H' q (a * a') (b * b') → Q (.ref q) H'
theorem ok_Ratio_mul {f : Addr} {fd : FuncData} (F : Fun K "__mul__" "Ratio.__mul__" s_Ratio_mul f fd) (T : Txt K mg ca) (O_as_ratio : Own P w K mg base 3 "as_ratio" ["number"] (sp_as_ratio K ca)) (O_Ratio_2 : OwnI P w K mg base 1 "Ratio" (ca 2) ["self", "top", "bottom"] [] (sp_Ratio_init K ca)) (O_Ratio_1 : OwnI P w K mg base 1 "Ratio" (ca 2) ["self", "top", "bottom"] [.int 1] (sp_Ratio_init K ca)) : FnOk P w K mg base (L2.CX P w) 4 f fd ["self", "other"] (sp_Ratio_mul K ca) := by
  refine F.okX sc_Ratio_mul (fun vs H Q E h => ?_) (fun cdv A outer s H vs Q E hr h => ?_)
  · obtain ⟨_, _, _, _, _, _, rfl, _⟩ := h
    rfl
  · obtain ⟨p, x, a, b, a', b', rfl, hR, hn, s1, s2, s3, s4, k⟩ := h
    refine ⟨_, pss_cons (ps_set (i := 2) sc_Ratio_mul.nd rfl (Or.inl rfl) (pe_own O_as_ratio (hr.mono (by decide)) rfl pas0 (pa_cons (pv 1) pa_nil))) (pss_one (ps_ret (pe_owni O_Ratio_2 (hr.mono (by decide)) rfl pas0 (pa_cons (pe_op op_mulI (pe_fld (pv 0) rfl) (pe_fld (pv 2) rfl)) (pa_cons (pe_op op_mulI (pe_fld (pv 0) rfl) (pe_fld (pv 2) rfl)) pa_nil))))), ?_⟩
    fail "rd"
    refine ⟨x, _, _, rfl, hn.num, fun q H1 sm hq => ?_⟩
    obtain ⟨dx, hp⟩ := (hR.same sm).ins
    obtain ⟨_, dy, hq⟩ := hq
    have t1 := s1.le (nrm_le1 (a := a) hR.ne)
    have t2 := s2.le (nrm_le2 (a := a) hR.ne)
    have t3 := s3.le (nrm_le1 (a := a') hn.ne)
    have t4 := s4.le (nrm_le2 (a := a') hn.ne)
    have m1 : IntMulOk (nrm a b).1 (nrm a' b').2 := t1.mok t4
    have m2 : IntMulOk (nrm a' b').1 (nrm a b).2 := t3.mok t2
    have m3 : IntMulOk (nrm a b).2 (nrm a' b').2 := t2.mok t4
    have m4 : IntMulOk (nrm a b).1 (nrm a' b').1 := t1.mok t3
    have n0 : (nrm a b).2 * (nrm a' b').2 ≠ 0 := Int.mul_ne_zero (nrm_ne hR.ne) (nrm_ne hn.ne)
    fail "rd"
    intro r d_r n_r nd_r ne_r
    refine ⟨r, d_r, _, _, rfl, upd_same, ((t2.mul t4).lg), fun z => absurd z n0, fun _ H2 k_r e_r => ⟨rfl, ?_⟩⟩
    have s_H2 := same_made n_r nd_r ne_r k_r
    exact k r H2 (sm.free n_r) (sm.trans s_H2) (.of (Int.mul_ne_zero hR.ne hn.ne) e_r (nrm_mul hR.ne hn.ne))

abbrev s_Ratio_over : Stmt := inClass (top 7) 9
theorem sc_Ratio_over : FnScope ["self", "other", "number"] ["self", "other"] (defScope s_Ratio_over) := ⟨rfl, rfl, rfl, by decide +kernel, rfl, by decide +kernel, by decide +kernel⟩
def sp_Ratio_over (_ : PySem.W.Frag) (ca : Nat → Addr) : Sp := fun vs H Q E => ∃ (p : Addr) (x : V) (t b t' b' : Int), vs = [.ref p, x] ∧ RatAt ca H p t b ∧ NumV ca H x t' b' ∧ IntMulOk t b' ∧ IntMulOk b t' ∧ (b * t').natAbs.log2 < 9000 ∧
  (t' = 0 → ∀ H' : Hp, Same H H' → E (.ref (ca 1)) none H') ∧ (t' ≠ 0 → ∀ (q : Addr) (H' : Hp), H q = none → Same H H' → RatAt ca H' q (nrm (t * b') (b * t')).1 (nrm (t * b') (b * t')).2 → Q (.ref q) H')
theorem over_of {K : PySem.W.Frag} {ca : Nat → Addr} {H : Hp} {p : Addr} {x : V} {a b a' b' : Int} {Q : VK} {E : XK} (hR : RatQ ca H p a b) (hn : NumQ ca H x a' b') (s1 : Sz 4000 a) (s2 : Sz 4000 b) (s3 : Sz 4000 a') (s4 : Sz 4000 b') (h0 : a' ≠ 0)
    (k : ∀ (q : Addr) (H' : Hp), H q = none → Same H H' → RatQ ca H' q (a * b') (b * a') → Q (.ref q) H') : sp_Ratio_over K ca [.ref p, x] H Q E := by
  have t1 := s1.le (nrm_le1 (a := a) hR.ne)
  have t2 := s2.le (nrm_le2 (a := a) hR.ne)
  have t3 := s3.le (nrm_le1 (a := a') hn.ne)
  have t4 := s4.le (nrm_le2 (a := a') hn.ne)
  refine ⟨p, x, _, _, _, _, rfl, hR.at_, hn.num, t1.mok t4, t2.mok t3, (t2.mul t3).lg, fun z => absurd ((nrm_zero hn.ne).mp z) h0, fun _ q H' nq sm hq => k q H' nq sm ⟨Int.mul_ne_zero hR.ne h0, ?_⟩⟩
  rw [nrm_over hR.ne hn.ne h0] at hq
  exact hq
theorem ok_Ratio_over {f : Addr} {fd : FuncData} (F : Fun K "over" "Ratio.over" s_Ratio_over f fd) (T : Txt K mg ca) (O_as_ratio : Own P w K mg base 3 "as_ratio" ["number"] (sp_as_ratio K ca)) (O_Ratio_2 : OwnI P w K mg base 1 "Ratio" (ca 2) ["self", "top", "bottom"] [] (sp_Ratio_init K ca)) (O_Ratio_1 : OwnI P w K mg base 1 "Ratio" (ca 2) ["self", "top", "bottom"] [.int 1] (sp_Ratio_init K ca)) : FnOk P w K mg base (L2.CX P w) 4 f fd ["self", "other"] (sp_Ratio_over K ca) := by
  refine F.okX sc_Ratio_over (fun vs H Q E h => ?_) (fun cdv A outer s H vs Q E hr h => ?_)
  · obtain ⟨_, _, _, _, _, _, rfl, _⟩ := h
    rfl
  · obtain ⟨p, x, t, b, t', b', rfl, hR, hn, m1, m2, hs, k0, k1⟩ := h
    refine ⟨_, pss_cons (ps_set (i := 2) sc_Ratio_over.nd rfl (Or.inl rfl) (pe_own O_as_ratio (hr.mono (by decide)) rfl (pasE (takes_of rfl rfl rfl rfl)) (pa_cons (pv 1) pa_nil))) (pss_one (ps_ret (pe_owni O_Ratio_2 (hr.mono (by decide)) rfl (pasE (takes_of rfl rfl rfl rfl)) (pa_cons (pe_op op_mulI (pe_fld (pv 0) rfl) (pe_fld (pv 2) rfl)) (pa_cons (pe_op op_mulI (pe_fld (pv 0) rfl) (pe_fld (pv 2) rfl)) pa_nil))))), ?_⟩
    fail "rd"
    refine ⟨x, t', b', rfl, hn, fun q H1 s1 hq => ?_⟩
    have hb := hR.1.pos
    obtain ⟨_, dx, hp⟩ := hR.same s1
    obtain ⟨_, dy, hq⟩ := hq
    fail "rd"
    intro r d_r n_r nd_r ne_r
    refine ⟨r, d_r, _, _, rfl, upd_same, hs, fun z => ?_, fun z H2 k_r e_r => ⟨rfl, ?_⟩⟩
    · have z' : b * t' = 0 := z
      have z2 : t' = 0 := by
        rcases Int.mul_eq_zero.mp z' with u | u
        · omega
        · exact u
      refine k0 z2 _ (s1.trans fun a o e => ?_)
      rw [upd_ne (ne_of_none e n_r), upd_ne (ne_of_none e nd_r)]
      exact e
    · have s2 := same_made n_r nd_r ne_r k_r
      have z2 : t' ≠ 0 := fun u => z (by rw [u]; exact Int.mul_zero _)
      exact k1 z2 r H2 (s1.free n_r) (s1.trans s2) (RatAt.of z e_r)

abbrev s_Ratio_neg : Stmt := inClass (top 7) 7
theorem sc_Ratio_neg : FnScope ["self"] ["self"] (defScope s_Ratio_neg) := ⟨rfl, rfl, rfl, by decide +kernel, rfl, by decide +kernel, by decide +kernel⟩
def sp_Ratio_neg (_ : PySem.W.Frag) (ca : Nat → Addr) : Sp := fun vs H Q _ => ∃ (p : Addr) (a b : Int), vs = [.ref p] ∧ RatQ ca H p a b ∧ Sz 4000 b ∧ ∀ (q : Addr) (H' : Hp), H q = none → Same H H' → RatQ ca H' q (-a) b → Q (.ref q) H'
theorem ok_Ratio_neg {f : Addr} {fd : FuncData} (F : Fun K "__neg__" "Ratio.__neg__" s_Ratio_neg f fd) (T : Txt K mg ca) (O_Ratio_2 : OwnI P w K mg base 1 "Ratio" (ca 2) ["self", "top", "bottom"] [] (sp_Ratio_init K ca)) (O_Ratio_1 : OwnI P w K mg base 1 "Ratio" (ca 2) ["self", "top", "bottom"] [.int 1] (sp_Ratio_init K ca)) : FnOk P w K mg base (L2.CX P w) 3 f fd ["self"] (sp_Ratio_neg K ca) := by
  refine F.okX sc_Ratio_neg (fun vs H Q E h => ?_) (fun cdv A outer s H vs Q E hr h => ?_)
  · obtain ⟨_, _, _, rfl, _⟩ := h
    rfl
  · obtain ⟨p, a, b, rfl, hR, s2, k⟩ := h
    refine ⟨_, pss_one (ps_ret (pe_owni O_Ratio_2 (hr.mono (by decide)) rfl pas0 (pa_cons (pe_un un_neg (pe_fld (pv 0) rfl)) (pa_cons (pe_fld (pv 0) rfl) pa_nil)))), ?_⟩
    obtain ⟨dx, hp⟩ := hR.ins
    have t2 := s2.le (nrm_le2 (a := a) hR.ne)
    fail "rd"
    intro r d_r n_r nd_r ne_r
    refine ⟨r, d_r, _, _, rfl, upd_same, (t2.lg), fun z => absurd z (nrm_ne hR.ne), fun _ H2 k_r e_r => ⟨rfl, ?_⟩⟩
    have s_H2 := same_made n_r nd_r ne_r k_r
    exact k r H2 n_r s_H2 (.of hR.ne e_r (nrm_same (nrm_ne hR.ne) hR.ne (by rw [Int.neg_mul, Int.neg_mul, nrm_cross])))

abbrev s_Ratio_abs : Stmt := inClass (top 7) 8
theorem sc_Ratio_abs : FnScope ["self"] ["self"] (defScope s_Ratio_abs) := ⟨rfl, rfl, rfl, by decide +kernel, rfl, by decide +kernel, by decide +kernel⟩
def sp_Ratio_abs (_ : PySem.W.Frag) (ca : Nat → Addr) : Sp := fun vs H Q _ => ∃ (p : Addr) (a b : Int), vs = [.ref p] ∧ RatQ ca H p a b ∧ Sz 4000 b ∧ ∀ (q : Addr) (H' : Hp), H q = none → Same H H' → RatQ ca H' q (iab a) (iab b) → Q (.ref q) H'
theorem ok_Ratio_abs {f : Addr} {fd : FuncData} (F : Fun K "__abs__" "Ratio.__abs__" s_Ratio_abs f fd) (T : Txt K mg ca) (O_Ratio_2 : OwnI P w K mg base 1 "Ratio" (ca 2) ["self", "top", "bottom"] [] (sp_Ratio_init K ca)) (O_Ratio_1 : OwnI P w K mg base 1 "Ratio" (ca 2) ["self", "top", "bottom"] [.int 1] (sp_Ratio_init K ca)) : FnOk P w K mg base (L2.CX P w) 3 f fd ["self"] (sp_Ratio_abs K ca) := by
  refine F.okX sc_Ratio_abs (fun vs H Q E h => ?_) (fun cdv A outer s H vs Q E hr h => ?_)
  · obtain ⟨_, _, _, rfl, _⟩ := h
    rfl
  · obtain ⟨p, a, b, rfl, hR, s2, k⟩ := h
    refine ⟨_, pss_one (ps_ret (pe_owni O_Ratio_2 (hr.mono (by decide)) rfl pas0 (pa_cons (pe_callB call_abs (by rfl) T.b_abs (by decide +kernel) (pa_cons (pe_fld (pv 0) rfl) pa_nil)) (pa_cons (pe_fld (pv 0) rfl) pa_nil)))), ?_⟩
    obtain ⟨dx, hp⟩ := hR.ins
    have t2 := s2.le (nrm_le2 (a := a) hR.ne)
    fail "rd"
    intro r d_r n_r nd_r ne_r
    refine ⟨r, d_r, _, _, rfl, upd_same, (t2.lg), fun z => absurd z (nrm_ne hR.ne), fun _ H2 k_r e_r => ⟨rfl, ?_⟩⟩
    have s_H2 := same_made n_r nd_r ne_r k_r
    exact k r H2 n_r s_H2 (.of (by have := hR.ne; rw [iab_nat]; omega) e_r (nrm_abs hR.ne))

abbrev s_l_sums_right : Stmt := top 17
theorem sc_l_sums_right : FnScope ["_law_a", "_law_b", "_law_one", "_law_other", "_law_top", "_law_bottom", "_law_second", "_law_under"] ["_law_a", "_law_b", "_law_one", "_law_other"] (defScope s_l_sums_right) := ⟨rfl, rfl, rfl, by decide +kernel, rfl, by decide +kernel, by decide +kernel⟩
def sp_l_sums_right (_ : PySem.W.Frag) (ca : Nat → Addr) : Sp := fun vs H Q _ => ∃ (pa pb p q : Addr) (a b c d : Int), vs = [.ref pa, .ref pb, .ref p, .ref q] ∧ H pa = some (.tup [.int a, .int b]) ∧ H pb = some (.tup [.int c, .int d]) ∧ RatQ ca H p a b ∧ RatQ ca H q c d ∧
  Sz 200 a ∧ Sz 200 b ∧ Sz 200 c ∧ Sz 200 d ∧ ∀ H' : Hp, Same H H' → Q (.bl true) H'
theorem ok_l_sums_right {f : Addr} {fd : FuncData} (F : Fun K "_law_sums_right" "_law_sums_right" s_l_sums_right f fd) (T : Txt K mg ca) (O__law_is : Own P w K mg base 3 "_law_is" ["_law_told", "_law_top", "_law_bottom"] (sp_l_is K ca)) (O_Ratio___add__ : OwnM P w K mg base 4 (ca 2) "__add__" ["self", "other"] (sp_Ratio_add K ca)) (O_Ratio___sub__ : OwnM P w K mg base 4 (ca 2) "__sub__" ["self", "other"] (sp_Ratio_sub K ca)) (O_Ratio___mul__ : OwnM P w K mg base 4 (ca 2) "__mul__" ["self", "other"] (sp_Ratio_mul K ca)) (O_Ratio_over : OwnM P w K mg base 4 (ca 2) "over" ["self", "other"] (sp_Ratio_over K ca)) (O_Ratio___neg__ : OwnM P w K mg base 3 (ca 2) "__neg__" ["self"] (sp_Ratio_neg K ca)) (O_Ratio___abs__ : OwnM P w K mg base 3 (ca 2) "__abs__" ["self"] (sp_Ratio_abs K ca)) : FnOk P w K mg base (L2.CX P w) 5 f fd ["_law_a", "_law_b", "_law_one", "_law_other"] (sp_l_sums_right K ca) := by
  refine F.okX sc_l_sums_right (fun vs H Q E h => ?_) (fun cdv A outer s H vs Q E hr h => ?_)
  · obtain ⟨_, _, _, _, _, _, _, _, rfl, _⟩ := h
    rfl
  · obtain ⟨pa, pb, p, q, a, b, c, d, rfl, hpa, hpb, R1, R2, z1, z2, z3, z4, k⟩ := h
    refine ⟨_, pss_cons (ps_asg (pv 0) (pg_tup rfl (pgs_cons (pg_name (i := 4) sc_l_sums_right.nd rfl (Or.inl rfl)) (pgs_cons (pg_name (i := 5) sc_l_sums_right.nd rfl (Or.inl rfl)) pgs_nil)))) (pss_cons (ps_asg (pv 1) (pg_tup rfl (pgs_cons (pg_name (i := 6) sc_l_sums_right.nd rfl (Or.inl rfl)) (pgs_cons (pg_name (i := 7) sc_l_sums_right.nd rfl (Or.inl rfl)) pgs_nil)))) (pss_cons (ps_if (pt_not (pt_val (pe_own O__law_is (hr.mono (by decide)) rfl pas0 (pa_cons (pe_op (op_own .add T.ar_Ratio O_Ratio___add__ (hr.mono (by decide)) passL) (pv 2) (pv 3)) (pa_cons (pe_op op_add (pe_op op_mulI (pv 4) (pv 7)) (pe_op op_mulI (pv 6) (pv 5))) (pa_cons (pe_op op_mulI (pv 5) (pv 7)) pa_nil)))))) (pss_one (ps_ret pe_bl)) pss_nil) (pss_cons (ps_if (pt_not (pt_val (pe_own O__law_is (hr.mono (by decide)) rfl pas0 (pa_cons (pe_op (op_own .sub T.ar_Ratio O_Ratio___sub__ (hr.mono (by decide)) passL) (pv 2) (pv 3)) (pa_cons (pe_op op_sub (pe_op op_mulI (pv 4) (pv 7)) (pe_op op_mulI (pv 6) (pv 5))) (pa_cons (pe_op op_mulI (pv 5) (pv 7)) pa_nil)))))) (pss_one (ps_ret pe_bl)) pss_nil) (pss_cons (ps_if (pt_not (pt_val (pe_own O__law_is (hr.mono (by decide)) rfl pas0 (pa_cons (pe_op (op_own .mul T.ar_Ratio O_Ratio___mul__ (hr.mono (by decide)) passL) (pv 2) (pv 3)) (pa_cons (pe_op op_mulI (pv 4) (pv 6)) (pa_cons (pe_op op_mulI (pv 5) (pv 7)) pa_nil)))))) (pss_one (ps_ret pe_bl)) pss_nil) (pss_cons (ps_if (PW.pt (pw_and (pt_cmpR op_ne (pv 6) pe_int (nomark _)) (pw_and1 (pt_not (pt_val (pe_own O__law_is (hr.mono (by decide)) rfl pas0 (pa_cons (pe_ownm O_Ratio_over (pv 2) (hr.mono (by decide)) pas0 (pa_cons (pv 3) pa_nil)) (pa_cons (pe_op op_mulI (pv 4) (pv 7)) (pa_cons (pe_op op_mulI (pv 5) (pv 6)) pa_nil))))))))) (pss_one (ps_ret pe_bl)) pss_nil) (pss_one (ps_ret (pe_and (pe_own O__law_is (hr.mono (by decide)) rfl pas0 (pa_cons (pe_un (un_negOwn O_Ratio___neg__ (hr.mono (by decide)) passL) (pv 2)) (pa_cons (pe_un un_neg (pv 4)) (pa_cons (pv 5) pa_nil)))) (pe_one (pe_own O__law_is (hr.mono (by decide)) rfl pas0 (pa_cons (pe_callB (call_absOwn O_Ratio___abs__ (hr.mono (by decide)) passL) (by rfl) T.b_abs (by decide +kernel) (pa_cons (pv 2) pa_nil)) (pa_cons (pe_callB call_abs (by rfl) T.b_abs (by decide +kernel) (pa_cons (pv 4) pa_nil)) (pa_cons (pe_callB call_abs (by rfl) T.b_abs (by decide +kernel) (pa_cons (pv 5) pa_nil)) pa_nil))))))))))))), ?_⟩
    have m1 : IntMulOk a d := z1.mok z4
    have m2 : IntMulOk c b := z3.mok z2
    have m3 : IntMulOk b d := z2.mok z4
    have m4 : IntMulOk a c := z1.mok z3
    have m5 : IntMulOk b c := z2.mok z3
    have y1 : Sz 4000 a := z1.mono
    have y2 : Sz 4000 b := z2.mono
    have y3 : Sz 4000 c := z3.mono
    have y4 : Sz 4000 d := z4.mono
    fail "rd"
    refine rOwn_of R1 R2.num ⟨p, _, a, b, c, d, rfl, R1, R2.num, y1, y2, y3, y4, fun r1 H1 _ s1 hr1 => ?_⟩
    fail "rd"
    refine ⟨r1, _, _, rfl, hr1, (z2.mul z4).mono, fun H2 s2 => ?_⟩
    fail "rd"
    have R1' : RatQ ca H2 p a b := (by fail "lo_R")
    have R2' : RatQ ca H2 q c d := (by fail "lo_R")
    refine rOwn_of R1' R2'.num ⟨p, _, a, b, c, d, rfl, R1', R2'.num, y1, y2, y3, y4, fun r2 H3 _ s3 hr2 => ?_⟩
    fail "rd"
    refine ⟨r2, _, _, rfl, hr2, (z2.mul z4).mono, fun H4 s4 => ?_⟩
    fail "rd"
    have R1' : RatQ ca H4 p a b := (by fail "lo_R")
    have R2' : RatQ ca H4 q c d := (by fail "lo_R")
    refine rOwn_of R1' R2'.num ⟨p, _, a, b, c, d, rfl, R1', R2'.num, y1, y2, y3, y4, fun r3 H5 _ s5 hr3 => ?_⟩
    fail "rd"
    refine ⟨r3, _, _, rfl, hr3, (z2.mul z4).mono, fun H6 s6 => ?_⟩
    fail "rd"
    have R1' : RatQ ca H6 p a b := (by fail "lo_R")
    have R2' : RatQ ca H6 q c d := (by fail "lo_R")
    refine iteIn (fun z => ?_) (fun z => ?_)
    · obtain ⟨dx, hp⟩ := R1'.ins
      fail "rd"
      refine over_of R1' R2'.num y1 y2 y3 y4 z (fun r4 H7 _ s7 hr4 => ?_)
      fail "rd"
      refine ⟨r4, _, _, rfl, hr4, (z2.mul z3).mono, fun H8 s8 => ?_⟩
      have s8 : Same H6 H8 := s7.trans s8
      fail "rd"
      have R1' : RatQ ca H8 p a b := (by fail "lo_R")
      refine rUna_of R1' ⟨p, a, b, rfl, R1', y2, fun r5 H9 _ s9 hr5 => ?_⟩
      fail "rd"
      refine ⟨r5, _, _, rfl, hr5, y2, fun H10 s10 => ?_⟩
      fail "rd"
      have R1' : RatQ ca H10 p a b := (by fail "lo_R")
      obtain ⟨dx, hp⟩ := R1'.ins
      refine ⟨p, dx, _, rfl, hp, p, a, b, rfl, R1', y2, fun r6 H11 _ s11 hr6 => ?_⟩
      fail "rd"
      refine ⟨r6, _, _, rfl, hr6, z2.iab.mono, fun H12 s12 => ?_⟩
      fail "rd"
      exact k H12 (by fail "lo_S")
    · fail "rd"
      have R1' : RatQ ca H6 p a b := (by fail "lo_R")
      refine rUna_of R1' ⟨p, a, b, rfl, R1', y2, fun r5 H9 _ s9 hr5 => ?_⟩
      fail "rd"
      refine ⟨r5, _, _, rfl, hr5, y2, fun H10 s10 => ?_⟩
      fail "rd"
      have R1' : RatQ ca H10 p a b := (by fail "lo_R")
      obtain ⟨dx, hp⟩ := R1'.ins
      refine ⟨p, dx, _, rfl, hp, p, a, b, rfl, R1', y2, fun r6 H11 _ s11 hr6 => ?_⟩
      fail "rd"
      refine ⟨r6, _, _, rfl, hr6, z2.iab.mono, fun H12 s12 => ?_⟩
      fail "rd"
      exact k H12 (by fail "lo_S")

abbrev s_Ratio_radd : Stmt := inClass (top 7) 2
theorem sc_Ratio_radd : FnScope ["self", "other"] ["self", "other"] (defScope s_Ratio_radd) := ⟨rfl, rfl, rfl, by decide +kernel, rfl, by decide +kernel, by decide +kernel⟩
def sp_Ratio_radd (K : PySem.W.Frag) (ca : Nat → Addr) : Sp := sp_Ratio_add K ca
theorem ok_Ratio_radd {f : Addr} {fd : FuncData} (F : Fun K "__radd__" "Ratio.__radd__" s_Ratio_radd f fd) (T : Txt K mg ca) (O_Ratio___add__ : OwnM P w K mg base 4 (ca 2) "__add__" ["self", "other"] (sp_Ratio_add K ca)) : FnOk P w K mg base (L2.CX P w) 5 f fd ["self", "other"] (sp_Ratio_radd K ca) := by
  refine F.okX sc_Ratio_radd (fun vs H Q E h => ?_) (fun cdv A outer s H vs Q E hr h => ?_)
  · obtain ⟨_, _, _, _, _, _, rfl, _⟩ := h
    rfl
  · obtain ⟨p, x, a, b, a', b', rfl, hR, hn, s1, s2, s3, s4, k⟩ := h
    refine ⟨_, pss_one (ps_ret (pe_op (op_own .add T.ar_Ratio O_Ratio___add__ (hr.mono (by decide)) passL) (pv 0) (pv 1))), ?_⟩
    fail "rd"
    refine rOwn_of hR hn ⟨p, x, a, b, a', b', rfl, hR, hn, s1, s2, s3, s4, fun q H1 nq sm hq => ?_⟩
    exact k q H1 nq sm hq

abbrev s_Ratio_rsub : Stmt := inClass (top 7) 4
theorem sc_Ratio_rsub : FnScope ["self", "other"] ["self", "other"] (defScope s_Ratio_rsub) := ⟨rfl, rfl, rfl, by decide +kernel, rfl, by decide +kernel, by decide +kernel⟩
def sp_Ratio_rsub (_ : PySem.W.Frag) (ca : Nat → Addr) : Sp := fun vs H Q _ => ∃ (p : Addr) (x : V) (a b a' b' : Int), vs = [.ref p, x] ∧ RatQ ca H p a b ∧ NumQ ca H x a' b' ∧ Sz 4000 a ∧ Sz 4000 b ∧ Sz 4000 a' ∧ Sz 4000 b' ∧
  ∀ (q : Addr) (H' : Hp), H q = none → Same H H' → RatQ ca H' q (a' * b - a * b') (b' * b) → Q (.ref q) H'
theorem ok_Ratio_rsub {f : Addr} {fd : FuncData} (F : Fun K "__rsub__" "Ratio.__rsub__" s_Ratio_rsub f fd) (T : Txt K mg ca) (O_as_ratio : Own P w K mg base 3 "as_ratio" ["number"] (sp_as_ratio K ca)) (O_Ratio___sub__ : OwnM P w K mg base 4 (ca 2) "__sub__" ["self", "other"] (sp_Ratio_sub K ca)) : FnOk P w K mg base (L2.CX P w) 5 f fd ["self", "other"] (sp_Ratio_rsub K ca) := by
  refine F.okX sc_Ratio_rsub (fun vs H Q E h => ?_) (fun cdv A outer s H vs Q E hr h => ?_)
  · obtain ⟨_, _, _, _, _, _, rfl, _⟩ := h
    rfl
  · obtain ⟨p, x, a, b, a', b', rfl, hR, hn, s1, s2, s3, s4, k⟩ := h
    refine ⟨_, pss_one (ps_ret (pe_op (op_own .sub T.ar_Ratio O_Ratio___sub__ (hr.mono (by decide)) passL) (pe_own O_as_ratio (hr.mono (by decide)) rfl pas0 (pa_cons (pv 1) pa_nil)) (pv 0))), ?_⟩
    fail "rd"
    refine ⟨x, _, _, rfl, hn.num, fun q H1 sm hq => ?_⟩
    have hq : RatQ ca H1 q a' b' := ⟨hn.ne, hq⟩
    have hR := hR.same sm
    fail "rd"
    refine rOwn_of hq hR.num ⟨q, _, a', b', a, b, rfl, hq, hR.num, s3, s4, s1, s2, fun r H2 nr sm2 hr => ?_⟩
    exact k r H2 (sm.free nr) (sm.trans sm2) hr

abbrev s_Ratio_rmul : Stmt := inClass (top 7) 6
theorem sc_Ratio_rmul : FnScope ["self", "other"] ["self", "other"] (defScope s_Ratio_rmul) := ⟨rfl, rfl, rfl, by decide +kernel, rfl, by decide +kernel, by decide +kernel⟩
def sp_Ratio_rmul (K : PySem.W.Frag) (ca : Nat → Addr) : Sp := sp_Ratio_mul K ca
theorem ok_Ratio_rmul {f : Addr} {fd : FuncData} (F : Fun K "__rmul__" "Ratio.__rmul__" s_Ratio_rmul f fd) (T : Txt K mg ca) (O_Ratio___mul__ : OwnM P w K mg base 4 (ca 2) "__mul__" ["self", "other"] (sp_Ratio_mul K ca)) : FnOk P w K mg base (L2.CX P w) 5 f fd ["self", "other"] (sp_Ratio_rmul K ca) := by
  refine F.okX sc_Ratio_rmul (fun vs H Q E h => ?_) (fun cdv A outer s H vs Q E hr h => ?_)
  · obtain ⟨_, _, _, _, _, _, rfl, _⟩ := h
    rfl
  · obtain ⟨p, x, a, b, a', b', rfl, hR, hn, s1, s2, s3, s4, k⟩ := h
    refine ⟨_, pss_one (ps_ret (pe_op (op_own .mul T.ar_Ratio O_Ratio___mul__ (hr.mono (by decide)) passL) (pv 0) (pv 1))), ?_⟩
    fail "rd"
    refine rOwn_of hR hn ⟨p, x, a, b, a', b', rfl, hR, hn, s1, s2, s3, s4, fun q H1 nq sm hq => ?_⟩
    exact k q H1 nq sm hq

abbrev s_l_whole_right : Stmt := top 18
theorem sc_l_whole_right : FnScope ["_law_a", "_law_one", "_law_whole", "_law_top", "_law_bottom"] ["_law_a", "_law_one", "_law_whole"] (defScope s_l_whole_right) := ⟨rfl, rfl, rfl, by decide +kernel, rfl, by decide +kernel, by decide +kernel⟩
def sp_l_whole_right (_ : PySem.W.Frag) (ca : Nat → Addr) : Sp := fun vs H Q _ => ∃ (pa p : Addr) (a b w : Int), vs = [.ref pa, .ref p, .int w] ∧ H pa = some (.tup [.int a, .int b]) ∧ RatQ ca H p a b ∧
  Sz 200 a ∧ Sz 200 b ∧ Sz 200 w ∧ ∀ H' : Hp, Same H H' → Q (.bl true) H'
theorem ok_l_whole_right {f : Addr} {fd : FuncData} (F : Fun K "_law_whole_right" "_law_whole_right" s_l_whole_right f fd) (T : Txt K mg ca) (O__law_is : Own P w K mg base 3 "_law_is" ["_law_told", "_law_top", "_law_bottom"] (sp_l_is K ca)) (O_Ratio_2 : OwnI P w K mg base 1 "Ratio" (ca 2) ["self", "top", "bottom"] [] (sp_Ratio_init K ca)) (O_Ratio_1 : OwnI P w K mg base 1 "Ratio" (ca 2) ["self", "top", "bottom"] [.int 1] (sp_Ratio_init K ca)) (O_Ratio___add__ : OwnM P w K mg base 4 (ca 2) "__add__" ["self", "other"] (sp_Ratio_add K ca)) (O_Ratio___sub__ : OwnM P w K mg base 4 (ca 2) "__sub__" ["self", "other"] (sp_Ratio_sub K ca)) (O_Ratio___mul__ : OwnM P w K mg base 4 (ca 2) "__mul__" ["self", "other"] (sp_Ratio_mul K ca)) (O_Ratio___radd__ : OwnM P w K mg base 5 (ca 2) "__radd__" ["self", "other"] (sp_Ratio_radd K ca)) (O_Ratio___rsub__ : OwnM P w K mg base 5 (ca 2) "__rsub__" ["self", "other"] (sp_Ratio_rsub K ca)) (O_Ratio___rmul__ : OwnM P w K mg base 5 (ca 2) "__rmul__" ["self", "other"] (sp_Ratio_rmul K ca)) (O_Ratio_over : OwnM P w K mg base 4 (ca 2) "over" ["self", "other"] (sp_Ratio_over K ca)) : FnOk P w K mg base (L2.CX P w) 6 f fd ["_law_a", "_law_one", "_law_whole"] (sp_l_whole_right K ca) := by
  refine F.okX sc_l_whole_right (fun vs H Q E h => ?_) (fun cdv A outer s H vs Q E hr h => ?_)
  · obtain ⟨_, _, _, _, _, rfl, _⟩ := h
    rfl
  · obtain ⟨pa, p, a, b, w, rfl, hpa, R1, z1, z2, z3, k⟩ := h
    refine ⟨_, pss_cons (ps_asg (pv 0) (pg_tup rfl (pgs_cons (pg_name (i := 3) sc_l_whole_right.nd rfl (Or.inl rfl)) (pgs_cons (pg_name (i := 4) sc_l_whole_right.nd rfl (Or.inl rfl)) pgs_nil)))) (pss_cons (ps_if (PW.pt (pw_or (pt_not (pt_val (pe_own O__law_is (hr.mono (by decide)) rfl pas0 (pa_cons (pe_op (op_own .add T.ar_Ratio O_Ratio___add__ (hr.mono (by decide)) passL) (pv 1) (pv 2)) (pa_cons (pe_op op_add (pv 3) (pe_op op_mulI (pv 2) (pv 4))) (pa_cons (pv 4) pa_nil)))))) (pw_or1 (pt_not (pt_val (pe_own O__law_is (hr.mono (by decide)) rfl pas0 (pa_cons (pe_op (op_refl .add T.ar_Ratio O_Ratio___radd__ (hr.mono (by decide)) passL) (pv 2) (pv 1)) (pa_cons (pe_op op_add (pv 3) (pe_op op_mulI (pv 2) (pv 4))) (pa_cons (pv 4) pa_nil))))))))) (pss_one (ps_ret pe_bl)) pss_nil) (pss_cons (ps_if (PW.pt (pw_or (pt_not (pt_val (pe_own O__law_is (hr.mono (by decide)) rfl pas0 (pa_cons (pe_op (op_own .sub T.ar_Ratio O_Ratio___sub__ (hr.mono (by decide)) passL) (pv 1) (pv 2)) (pa_cons (pe_op op_sub (pv 3) (pe_op op_mulI (pv 2) (pv 4))) (pa_cons (pv 4) pa_nil)))))) (pw_or1 (pt_not (pt_val (pe_own O__law_is (hr.mono (by decide)) rfl pas0 (pa_cons (pe_op (op_refl .sub T.ar_Ratio O_Ratio___rsub__ (hr.mono (by decide)) passL) (pv 2) (pv 1)) (pa_cons (pe_op op_sub (pe_op op_mulI (pv 2) (pv 4)) (pv 3)) (pa_cons (pv 4) pa_nil))))))))) (pss_one (ps_ret pe_bl)) pss_nil) (pss_cons (ps_if (PW.pt (pw_or (pt_not (pt_val (pe_own O__law_is (hr.mono (by decide)) rfl pas0 (pa_cons (pe_op (op_own .mul T.ar_Ratio O_Ratio___mul__ (hr.mono (by decide)) passL) (pv 1) (pv 2)) (pa_cons (pe_op op_mulI (pv 3) (pv 2)) (pa_cons (pv 4) pa_nil)))))) (pw_or1 (pt_not (pt_val (pe_own O__law_is (hr.mono (by decide)) rfl pas0 (pa_cons (pe_op (op_refl .mul T.ar_Ratio O_Ratio___rmul__ (hr.mono (by decide)) passL) (pv 2) (pv 1)) (pa_cons (pe_op op_mulI (pv 3) (pv 2)) (pa_cons (pv 4) pa_nil))))))))) (pss_one (ps_ret pe_bl)) pss_nil) (pss_cons (ps_if (PW.pt (pw_and (pt_cmpR op_ne (pv 2) pe_int (nomark _)) (pw_and1 (pt_not (pt_val (pe_own O__law_is (hr.mono (by decide)) rfl pas0 (pa_cons (pe_ownm O_Ratio_over (pv 1) (hr.mono (by decide)) pas0 (pa_cons (pv 2) pa_nil)) (pa_cons (pv 3) (pa_cons (pe_op op_mulI (pv 4) (pv 2)) pa_nil))))))))) (pss_one (ps_ret pe_bl)) pss_nil) (pss_one (ps_ret (pe_or (pe_cmpR op_eq (pv 3) pe_int (nomark _)) (pe_one (pe_own O__law_is (hr.mono (by decide)) rfl pas0 (pa_cons (pe_ownm O_Ratio_over (pe_owni O_Ratio_1 (hr.mono (by decide)) rfl pas0 (pa_cons (pv 2) pa_nil)) (hr.mono (by decide)) pas0 (pa_cons (pv 1) pa_nil)) (pa_cons (pe_op op_mulI (pv 2) (pv 4)) (pa_cons (pv 3) pa_nil)))))))))))), ?_⟩
    have m1 : IntMulOk w b := z3.mok z2
    have m2 : IntMulOk a w := z1.mok z3
    have m3 : IntMulOk b w := z2.mok z3
    have y1 : Sz 4000 a := z1.mono
    have y2 : Sz 4000 b := z2.mono
    have y3 : Sz 4000 w := z3.mono
    have y4 : Sz 4000 (1 : Int) := Sz.one.mono
    have n1 : ∀ H' : Hp, NumQ ca H' (.int w) w 1 := fun _ => NumQ.int
    have e1 : ∀ x : Int, x * 1 = x := Int.mul_one
    have e2 : ∀ x : Int, 1 * x = x := Int.one_mul
    fail "rd"
    refine rOwn_of R1 (n1 _) ⟨p, _, a, b, w, 1, rfl, R1, n1 _, y1, y2, y3, y4, fun r1 H1 _ s1 hr1 => ?_⟩
    rw [e1, e1] at hr1
    fail "rd"
    refine ⟨r1, _, _, rfl, hr1, y2, fun H2 s2 => ?_⟩
    fail "rd"
    have R1' : RatQ ca H2 p a b := (by fail "lo_R")
    refine rRefl_of R1' ⟨p, _, a, b, w, 1, rfl, R1', n1 _, y1, y2, y3, y4, fun r2 H3 _ s3 hr2 => ?_⟩
    rw [e1, e1] at hr2
    fail "rd"
    refine ⟨r2, _, _, rfl, hr2, y2, fun H4 s4 => ?_⟩
    fail "rd"
    have R1' : RatQ ca H4 p a b := (by fail "lo_R")
    refine rOwn_of R1' (n1 _) ⟨p, _, a, b, w, 1, rfl, R1', n1 _, y1, y2, y3, y4, fun r3 H5 _ s5 hr3 => ?_⟩
    rw [e1, e1] at hr3
    fail "rd"
    refine ⟨r3, _, _, rfl, hr3, y2, fun H6 s6 => ?_⟩
    fail "rd"
    have R1' : RatQ ca H6 p a b := (by fail "lo_R")
    refine rRefl_of R1' ⟨p, _, a, b, w, 1, rfl, R1', n1 _, y1, y2, y3, y4, fun r4 H7 _ s7 hr4 => ?_⟩
    rw [e1, e2] at hr4
    fail "rd"
    refine ⟨r4, _, _, rfl, hr4, y2, fun H8 s8 => ?_⟩
    fail "rd"
    have R1' : RatQ ca H8 p a b := (by fail "lo_R")
    refine rOwn_of R1' (n1 _) ⟨p, _, a, b, w, 1, rfl, R1', n1 _, y1, y2, y3, y4, fun r5 H9 _ s9 hr5 => ?_⟩
    rw [e1] at hr5
    fail "rd"
    refine ⟨r5, _, _, rfl, hr5, y2, fun H10 s10 => ?_⟩
    fail "rd"
    have R1' : RatQ ca H10 p a b := (by fail "lo_R")
    refine rRefl_of R1' ⟨p, _, a, b, w, 1, rfl, R1', n1 _, y1, y2, y3, y4, fun r6 H11 _ s11 hr6 => ?_⟩
    rw [e1] at hr6
    fail "rd"
    refine ⟨r6, _, _, rfl, hr6, y2, fun H12 s12 => ?_⟩
    have sA : Same H H12 := (by fail "lo_S")
    have R1' : RatQ ca H12 p a b := (by fail "lo_R")
    clear s1 s2 s3 s4 s5 s6 s7 s8 s9 s10 s11 s12
    fail "rd"
    refine iteIn (fun z => ?_) (fun z => ?_)
    · obtain ⟨dx, hp⟩ := R1'.ins
      fail "rd"
      refine over_of R1' (n1 _) y1 y2 y3 y4 z (fun r7 H13 _ s13 hr7 => ?_)
      rw [e1] at hr7
      fail "rd"
      refine ⟨r7, _, _, rfl, hr7, (z2.mul z3).mono, fun H14 s14 => ?_⟩
      have s14 : Same H12 H14 := s13.trans s14
      fail "rd"
      refine iteI (fun y => ?_) (fun y => ?_)
      · exact k H14 (by fail "lo_S")
      · fail "rd"
        intro u d_u n_u nd_u ne_u
        refine ⟨u, d_u, _, _, rfl, upd_same, (by decide), fun z => absurd z (by decide), fun _ H20 k_u e_u => ⟨rfl, ?_⟩⟩
        have s_H20 := same_made n_u nd_u ne_u k_u
        have Ru : RatQ ca H20 u w 1 := ⟨by decide, nrm_red (by decide), _, e_u⟩
        have R1' : RatQ ca H20 p a b := (by fail "lo_R")
        obtain ⟨dx, hp⟩ := Ru.ins
        fail "rd"
        refine over_of Ru R1'.num y3 y4 y1 y2 y (fun r8 H21 _ s21 hr8 => ?_)
        rw [e2] at hr8
        fail "rd"
        refine ⟨r8, _, _, rfl, hr8, z1.mono, fun H22 s22 => ?_⟩
        exact k H22 (by fail "lo_S")
    · fail "rd"
      refine iteI (fun y => ?_) (fun y => ?_)
      · exact k H12 (by fail "lo_S")
      · fail "rd"
        intro u d_u n_u nd_u ne_u
        refine ⟨u, d_u, _, _, rfl, upd_same, (by decide), fun z => absurd z (by decide), fun _ H20 k_u e_u => ⟨rfl, ?_⟩⟩
        have s_H20 := same_made n_u nd_u ne_u k_u
        have Ru : RatQ ca H20 u w 1 := ⟨by decide, nrm_red (by decide), _, e_u⟩
        have R1' : RatQ ca H20 p a b := (by fail "lo_R")
        obtain ⟨dx, hp⟩ := Ru.ins
        fail "rd"
        refine over_of Ru R1'.num y3 y4 y1 y2 y (fun r8 H21 _ s21 hr8 => ?_)
        rw [e2] at hr8
        fail "rd"
        refine ⟨r8, _, _, rfl, hr8, z1.mono, fun H22 s22 => ?_⟩
        exact k H22 (by fail "lo_S")

abbrev s_law : Stmt := top 20
theorem sc_law : FnScope ["_law_script", "_law_bag_here", "_law_a", "_law_b", "_law_choice", "_law_times", "_law_whole", "_law_one", "_law_other", "_law_turn", "_law_total"] ["_law_script"] (defScope s_law) := ⟨rfl, rfl, rfl, by decide +kernel, rfl, by decide +kernel, by decide +kernel⟩
theorem ok_law {f : Addr} {fd : FuncData} (F : Fun K "law" "law" s_law f fd) (T : Txt K mg ca) (O__law_bag : Own P w K mg base 1 "_law_bag" ["_law_script"] (sp_l_bag K ca)) (O__law_draw : Own P w K mg base 1 "_law_draw" ["_law_bag_here", "_law_size"] (sp_l_draw K ca)) (O__law_integer : Own P w K mg base 2 "_law_integer" ["_law_bag_here"] (sp_l_integer K ca)) (O__law_list_right : Own P w K mg base 6 "_law_list_right" ["_law_bag_here", "_law_pairs"] (sp_l_list_right K ca)) (O__law_is : Own P w K mg base 3 "_law_is" ["_law_told", "_law_top", "_law_bottom"] (sp_l_is K ca)) (O__law_sums_right : Own P w K mg base 5 "_law_sums_right" ["_law_a", "_law_b", "_law_one", "_law_other"] (sp_l_sums_right K ca)) (O__law_whole_right : Own P w K mg base 6 "_law_whole_right" ["_law_a", "_law_one", "_law_whole"] (sp_l_whole_right K ca)) (O_Ratio_2 : OwnI P w K mg base 1 "Ratio" (ca 2) ["self", "top", "bottom"] [] (sp_Ratio_init K ca)) (O_Ratio_1 : OwnI P w K mg base 1 "Ratio" (ca 2) ["self", "top", "bottom"] [.int 1] (sp_Ratio_init K ca)) (O_Ratio___add__ : OwnM P w K mg base 4 (ca 2) "__add__" ["self", "other"] (sp_Ratio_add K ca)) (O_Ratio___sub__ : OwnM P w K mg base 4 (ca 2) "__sub__" ["self", "other"] (sp_Ratio_sub K ca)) (O_Ratio___mul__ : OwnM P w K mg base 4 (ca 2) "__mul__" ["self", "other"] (sp_Ratio_mul K ca)) (O_Ratio_over : OwnM P w K mg base 4 (ca 2) "over" ["self", "other"] (sp_Ratio_over K ca)) : FnOk P w K mg base (L2.CX P w) 7 f fd ["_law_script"] (sp_law K ca) := by
  refine F.okX sc_law (fun vs H Q E h => ?_) (fun cdv A outer s H vs Q E hr h => ?_)
  · obtain ⟨_, _, rfl, _⟩ := h
    rfl
  · obtain ⟨s0, ns, rfl, hs, k⟩ := h
    refine ⟨_, pss_cons (ps_set (i := 1) sc_law.nd rfl (Or.inl rfl) (pe_own O__law_bag (hr.mono (by decide)) rfl pas0 (pa_cons (pv 0) pa_nil))) (pss_cons (ps_set (i := 2) sc_law.nd rfl (Or.inl rfl) (pe_tup (pa_cons (pe_own O__law_integer (hr.mono (by decide)) rfl pas0 (pa_cons (pv 1) pa_nil)) (pa_cons (pe_mid (pe_orT (pe_ix ix_list (pe_lst (pa_cons pe_int (pa_cons (pe_own O__law_integer (hr.mono (by decide)) rfl pas0 (pa_cons (pv 1) pa_nil)) pa_nil))) (pe_op op_fdivW (pe_own O__law_draw (hr.mono (by decide)) rfl pas0 (pa_cons (pv 1) (pa_cons pe_int pa_nil))) pe_int) (fun _ _ => rfl)) (pe_one pe_int))) pa_nil)))) (pss_cons (ps_set (i := 3) sc_law.nd rfl (Or.inl rfl) (pe_tup (pa_cons (pe_own O__law_integer (hr.mono (by decide)) rfl pas0 (pa_cons (pv 1) pa_nil)) (pa_cons (pe_mid (pe_orT (pe_own O__law_integer (hr.mono (by decide)) rfl pas0 (pa_cons (pv 1) pa_nil)) (pe_one pe_int))) pa_nil)))) (pss_cons (ps_set (i := 4) sc_law.nd rfl (Or.inl rfl) (pe_own O__law_draw (hr.mono (by decide)) rfl pas0 (pa_cons (pv 1) (pa_cons pe_int pa_nil)))) (Evl.pss_cut (ps_if (pt_cmpR op_lt (pv 4) pe_int (nomark _)) (pss_cons (ps_set (i := 5) sc_law.nd rfl (Or.inl rfl) (pe_op op_add pe_int (pe_own O__law_draw (hr.mono (by decide)) rfl pas0 (pa_cons (pv 1) (pa_cons pe_int pa_nil))))) (pss_one (ps_set (i := 3) sc_law.nd rfl (Or.inl rfl) (pe_tup (pa_cons (pe_op op_mulI (pe_op op_mulI (pe_ix ix_tup (pv 2) pe_int (fun _ _ => rfl)) (pv 5)) (pe_op op_sub pe_int (pe_op op_mulI pe_int (pv 4)))) (pa_cons (pe_op op_mulI (pe_ix ix_tup (pv 2) pe_int (fun _ _ => rfl)) (pv 5)) pa_nil)))))) pss_nil) (pss_cons (ps_set (i := 6) sc_law.nd rfl (Or.inl rfl) (pe_own O__law_integer (hr.mono (by decide)) rfl pas0 (pa_cons (pv 1) pa_nil))) (pss_cons (ps_set (i := 7) sc_law.nd rfl (Or.inl rfl) (pe_owni O_Ratio_2 (hr.mono (by decide)) rfl pas0 (pa_cons (pe_ix ix_tup (pv 2) pe_int (fun _ _ => rfl)) (pa_cons (pe_ix ix_tup (pv 2) pe_int (fun _ _ => rfl)) pa_nil)))) (Evl.pss_cut (ps_if (pt_cmpR op_eq (pe_ix ix_tup (pv 2) pe_int (fun _ _ => rfl)) pe_int (nomark _)) (pss_one (ps_set (i := 7) sc_law.nd rfl (Or.inl rfl) (pe_owni O_Ratio_1 (hr.mono (by decide)) rfl pas0 (pa_cons (pe_ix ix_tup (pv 2) pe_int (fun _ _ => rfl)) pa_nil)))) pss_nil) (pss_cons (ps_set (i := 8) sc_law.nd rfl (Or.inl rfl) (pe_owni O_Ratio_2 (hr.mono (by decide)) rfl pas0 (pa_cons (pe_ix ix_tup (pv 3) pe_int (fun _ _ => rfl)) (pa_cons (pe_ix ix_tup (pv 3) pe_int (fun _ _ => rfl)) pa_nil)))) (pss_cons (ps_for (passes_of rfl) rfl (pi_range1 rfl T.b_range (pa_cons pe_int pa_nil)) (pg_name (i := 9) sc_law.nd rfl (Or.inl rfl)) (pss_cons (ps_if (PW.pt (pw_or (pt_not (pt_val (pe_own O__law_is (hr.mono (by decide)) rfl pas0 (pa_cons (pv 7) (pa_cons (pe_ix ix_tup (pv 2) pe_int (fun _ _ => rfl)) (pa_cons (pe_ix ix_tup (pv 2) pe_int (fun _ _ => rfl)) pa_nil)))))) (pw_or1 (pt_not (pt_val (pe_own O__law_is (hr.mono (by decide)) rfl pas0 (pa_cons (pv 8) (pa_cons (pe_ix ix_tup (pv 3) pe_int (fun _ _ => rfl)) (pa_cons (pe_ix ix_tup (pv 3) pe_int (fun _ _ => rfl)) pa_nil))))))))) (pss_one (ps_ret pe_bl)) pss_nil) (pss_cons (ps_if (PW.pt (pw_or (pt_not (pt_val (pe_own O__law_sums_right (hr.mono (by decide)) rfl pas0 (pa_cons (pv 2) (pa_cons (pv 3) (pa_cons (pv 7) (pa_cons (pv 8) pa_nil))))))) (pw_or1 (pt_not (pt_val (pe_own O__law_whole_right (hr.mono (by decide)) rfl pas0 (pa_cons (pv 2) (pa_cons (pv 7) (pa_cons (pv 6) pa_nil))))))))) (pss_one (ps_ret pe_bl)) pss_nil) (pss_cons (ps_set (i := 10) sc_law.nd rfl (Or.inl rfl) (pv 7)) (pss_cons (ps_aug (i := 10) sc_law.nd rfl (Or.inl rfl) (pv 8) (iop_own .add T.ar_Ratio O_Ratio___add__ (hr.mono (by decide)) passL)) (pss_cons (ps_aug (i := 10) sc_law.nd rfl (Or.inl rfl) (pv 6) (iop_own .sub T.ar_Ratio O_Ratio___sub__ (hr.mono (by decide)) passL)) (pss_cons (ps_aug (i := 10) sc_law.nd rfl (Or.inl rfl) (pv 8) (iop_own .mul T.ar_Ratio O_Ratio___mul__ (hr.mono (by decide)) passL)) (pss_cons (ps_if (pt_not (pt_val (pe_own O__law_is (hr.mono (by decide)) rfl pas0 (pa_cons (pv 10) (pa_cons (pe_op op_mulI (pe_op op_add (pe_op op_mulI (pe_ix ix_tup (pv 2) pe_int (fun _ _ => rfl)) (pe_ix ix_tup (pv 3) pe_int (fun _ _ => rfl))) (pe_op op_mulI (pe_op op_sub (pe_ix ix_tup (pv 3) pe_int (fun _ _ => rfl)) (pe_op op_mulI (pv 6) (pe_ix ix_tup (pv 3) pe_int (fun _ _ => rfl)))) (pe_ix ix_tup (pv 2) pe_int (fun _ _ => rfl)))) (pe_ix ix_tup (pv 3) pe_int (fun _ _ => rfl))) (pa_cons (pe_op op_mulI (pe_op op_mulI (pe_ix ix_tup (pv 2) pe_int (fun _ _ => rfl)) (pe_ix ix_tup (pv 3) pe_int (fun _ _ => rfl))) (pe_ix ix_tup (pv 3) pe_int (fun _ _ => rfl))) pa_nil)))))) (pss_one (ps_ret pe_bl)) pss_nil) (pss_cons (ps_if (PW.pt (pw_or (pt_not (pt_val (pe_own O__law_is (hr.mono (by decide)) rfl pas0 (pa_cons (pe_op (op_own .add T.ar_Ratio O_Ratio___add__ (hr.mono (by decide)) passL) (pv 7) (pv 7)) (pa_cons (pe_op op_mulI pe_int (pe_ix ix_tup (pv 2) pe_int (fun _ _ => rfl))) (pa_cons (pe_ix ix_tup (pv 2) pe_int (fun _ _ => rfl)) pa_nil)))))) (pw_or1 (pt_not (pt_val (pe_own O__law_is (hr.mono (by decide)) rfl pas0 (pa_cons (pe_op (op_own .sub T.ar_Ratio O_Ratio___sub__ (hr.mono (by decide)) passL) (pv 7) (pv 7)) (pa_cons pe_int (pa_cons pe_int pa_nil))))))))) (pss_one (ps_ret pe_bl)) pss_nil) (pss_one (ps_if (PW.pt (pw_or (pt_not (pt_val (pe_own O__law_is (hr.mono (by decide)) rfl pas0 (pa_cons (pe_op (op_own .mul T.ar_Ratio O_Ratio___mul__ (hr.mono (by decide)) passL) (pv 7) (pv 7)) (pa_cons (pe_op op_mulI (pe_ix ix_tup (pv 2) pe_int (fun _ _ => rfl)) (pe_ix ix_tup (pv 2) pe_int (fun _ _ => rfl))) (pa_cons (pe_op op_mulI (pe_ix ix_tup (pv 2) pe_int (fun _ _ => rfl)) (pe_ix ix_tup (pv 2) pe_int (fun _ _ => rfl))) pa_nil)))))) (pw_or1 (PW.pt (pw_and (pt_cmpR op_ne (pe_ix ix_tup (pv 2) pe_int (fun _ _ => rfl)) pe_int (nomark _)) (pw_and1 (pt_not (pt_val (pe_own O__law_is (hr.mono (by decide)) rfl pas0 (pa_cons (pe_ownm O_Ratio_over (pv 7) (hr.mono (by decide)) pas0 (pa_cons (pv 7) pa_nil)) (pa_cons pe_int (pa_cons pe_int pa_nil)))))))))))) (pss_one (ps_ret pe_bl)) pss_nil))))))))))) (pss_one (ps_ret (pe_own O__law_list_right (hr.mono (by decide)) rfl pas0 (pa_cons (pv 1) (pa_cons (pe_lst (pa_cons (pe_tup (pa_cons (pv 7) (pa_cons (pv 2) pa_nil))) (pa_cons (pe_tup (pa_cons (pv 8) (pa_cons (pv 3) pa_nil))) (pa_cons (pe_tup (pa_cons (pv 6) (pa_cons (pe_tup (pa_cons (pv 6) (pa_cons pe_int pa_nil))) pa_nil))) pa_nil)))) pa_nil)))))))))))))), ?_⟩
    refine ⟨_, rfl, s0, ns, rfl, hs, fun L bag H1 nb nL s1 B1 => ?_⟩
    fail "rd"
    refine ⟨L, B1, fun a0 H2 za0 k2 B2 => ?_⟩
    fail "rd"
    refine ⟨fun v H' => ∃ y : Int, v = .int y ∧ y ≠ 0 ∧ y.natAbs < 2 ^ 164 ∧ Keep bag H2 H' ∧ Bag H' L bag, ?_, ?_⟩
    · fail "rd"
      refine ⟨L, B2, fun a1 H3 za1 k3 B3 => ?_⟩
      fail "rd"
      intro l n_l
      generalize g_H4 : upd _ l _ = H4
      obtain ⟨s_H4, e_l⟩ := gen_new n_l g_H4
      clear g_H4
      have B4 := B3.same s_H4
      fail "rd"
      refine ⟨L, B4, by decide, by decide, fun c H5 c0 c1 k5 B5 => ?_⟩
      have e_l := k5 _ _ e_l (B3.ne n_l)
      fail "rd"
      have kk := (k3.trans (.of s_H4)).trans k5
      have hc : c / 2 = 0 ∨ c / 2 = 1 := by omega
      rcases hc with hc | hc
      · refine ⟨_, _, _, _, rfl, rfl, SqL.of e_l, ix_c (v := .int 1) (by rw [hc]; rfl) (by omega), ?_⟩
        refine ⟨_, rfl, iteZ (fun w => ?_) (fun w => ?_)⟩
        · exact ⟨1, rfl, by decide, by decide, kk, B5⟩
        · exact ⟨1, rfl, by decide, by decide, kk, B5⟩
      · refine ⟨_, _, _, _, rfl, rfl, SqL.of e_l, ix_c (v := .int a1) (by rw [hc]; rfl) (by omega), ?_⟩
        refine ⟨_, rfl, iteZ (fun w => ?_) (fun w => ?_)⟩
        · exact ⟨a1, rfl, w, za1, kk, B5⟩
        · exact ⟨1, rfl, by decide, by decide, kk, B5⟩
    rintro _ H5 ⟨a1, rfl, na1, ha1, k5, B5⟩
    fail "rd"
    intro pa n_pa
    generalize g_H6 : upd _ pa _ = H6
    obtain ⟨s_H6, e_pa⟩ := gen_new n_pa g_H6
    clear g_H6
    have B6 := B5.same s_H6
    fail "rd"
    refine ⟨L, B6, fun b0 H7 zb0 k7 B7 => ?_⟩
    have e_pa := k7 _ _ e_pa (tup_ne B6 e_pa)
    fail "rd"
    refine ⟨fun v H' => ∃ y : Int, v = .int y ∧ y ≠ 0 ∧ y.natAbs < 2 ^ 164 ∧ Keep bag H7 H' ∧ Bag H' L bag, ?_, ?_⟩
    · fail "rd"
      refine ⟨L, B7, fun y H4 hy k4 B4 => ?_⟩
      refine ⟨_, rfl, iteZ (fun w => ?_) (fun w => ?_)⟩
      · exact ⟨y, rfl, w, hy, k4, B4⟩
      · exact ⟨1, rfl, by decide, by decide, k4, B4⟩
    rintro _ H8 ⟨b1, rfl, nb1, hb1, k8, B8⟩
    have e_pa := k8 _ _ e_pa (tup_ne B7 e_pa)
    fail "rd"
    intro pb n_pb
    generalize g_H9 : upd _ pb _ = H9
    obtain ⟨s_H9, e_pb⟩ := gen_new n_pb g_H9
    clear g_H9
    have e_pa := s_H9 _ _ e_pa
    have B9 := B8.same s_H9
    fail "rd"
    refine ⟨L, B9, by decide, by decide, fun c H10 c0 c1 k10 B10 => ?_⟩
    have e_pa := k10 _ _ e_pa (tup_ne B9 e_pa)
    have e_pb := k10 _ _ e_pb (tup_ne B9 e_pb)
    have z1 : Sz 164 a0 := za0
    have z2 : Sz 164 a1 := ha1
    refine ⟨fun σ' H' => ∃ (pb : Addr) (b0 b1 : Int) (v : Option V), σ' = [some (.ref s0), some (.ref bag), some (.ref pa), some (.ref pb), some (.int c), v, none, none, none, none, none] ∧ Sz 180 b0 ∧ Sz 180 b1 ∧ b1 ≠ 0 ∧ H' pa = some (.tup [.int a0, .int a1]) ∧ H' pb = some (.tup [.int b0, .int b1]) ∧ Bag H' L bag, ?_, ?_⟩
    · fail "rd"
      refine iteD (fun y => ?_) (fun y => ?_)
      · fail "rd"
        refine ⟨L, B10, by decide, by decide, fun t H11 t0 t1 k11 B11 => ?_⟩
        have e_pa := k11 _ _ e_pa (tup_ne B10 e_pa)
        have zt : Sz 8 (1 + t) := show (1 + t).natAbs < 256 by omega
        have zc : Sz 4 (1 - 2 * c) := show (1 - 2 * c).natAbs < 16 by omega
        have m1 : IntMulOk a0 (1 + t) := z1.mok zt
        have m2 : IntMulOk a1 (1 + t) := z2.mok zt
        have m3 : IntMulOk (a0 * (1 + t)) (1 - 2 * c) := (z1.mul zt).mok zc
        have m4 : IntMulOk 2 c := mok_l (by decide)
        fail "rd"
        intro pb2 n_pb2
        generalize g_H12 : upd _ pb2 _ = H12
        obtain ⟨s_H12, e_pb2⟩ := gen_new n_pb2 g_H12
        clear g_H12
        exact ⟨pb2, _, _, _, rfl, ((z1.mul zt).mul zc).mono, (z2.mul zt).mono, Int.mul_ne_zero na1 (by omega), s_H12 _ _ e_pa, e_pb2, B11.same s_H12⟩
      · fail "rd"
        exact ⟨pb, _, _, _, rfl, Sz.mono (n := 164) zb0, Sz.mono (n := 164) hb1, nb1, e_pa, e_pb, B10⟩
    clear e_pb k10 B9 B10 k8 B8 n_pb s_H9 hb1 zb0 nb1 k7 B7 e_pa B6 k5 B5 k2 B2
    rintro σ' H10 ⟨pb, b0, b1, v5, rfl, z3, z4, nb1, e_pa, e_pb, B10⟩
    fail "rd"
    refine ⟨L, B10, fun w H11 zw k11 B11 => ?_⟩
    have zw : Sz 164 w := zw
    have e_pa := k11 _ _ e_pa (tup_ne B10 e_pa)
    have e_pb := k11 _ _ e_pb (tup_ne B10 e_pb)
    fail "rd"
    intro p d_p n_p nd_p ne_p
    refine ⟨p, d_p, _, _, rfl, upd_same, z2.lg, fun z => absurd z na1, fun _ H12 k_p e_p => ⟨rfl, ?_⟩⟩
    have s_H12 := same_made n_p nd_p ne_p k_p
    have R1 : RatQ ca H12 p a0 a1 := ⟨na1, nrm_red na1, _, e_p⟩
    have B12 := B11.same s_H12
    have e_pa := s_H12 _ _ e_pa
    have e_pb := s_H12 _ _ e_pb
    refine ⟨fun σ' H' => ∃ (p : Addr), σ' = [some (.ref s0), some (.ref bag), some (.ref pa), some (.ref pb), some (.int c), v5, some (.int w), some (.ref p), none, none, none] ∧ RatQ ca H' p a0 a1 ∧ H' pa = some (.tup [.int a0, .int a1]) ∧ H' pb = some (.tup [.int b0, .int b1]) ∧ Bag H' L bag, ?_, ?_⟩
    · fail "rd"
      refine iteI (fun y => ?_) (fun y => ?_)
      · fail "rd"
        intro q d_q n_q nd_q ne_q
        refine ⟨q, d_q, _, _, rfl, upd_same, (by decide), fun z => absurd z (by decide), fun _ H13 k_q e_q => ⟨rfl, ?_⟩⟩
        have s_H13 := same_made n_q nd_q ne_q k_q
        have e_pa := s_H13 _ _ e_pa
        have e_pb := s_H13 _ _ e_pb
        exact ⟨q, rfl, by rw [y]; exact ⟨by decide, nrm_red (by decide), _, e_q⟩, e_pa, e_pb, B12.same s_H13⟩
      · exact ⟨p, rfl, R1, e_pa, e_pb, B12⟩
    clear e_pb e_pa R1 B12 k11 B11
    rintro σ' H13 ⟨p, rfl, R1, e_pa, e_pb, B13⟩
    fail "rd"
    intro q d_q n_q nd_q ne_q
    refine ⟨q, d_q, _, _, rfl, upd_same, z4.lg, fun z => absurd z nb1, fun _ H14 k_q e_q => ⟨rfl, ?_⟩⟩
    have s_H14 := same_made n_q nd_q ne_q k_q
    have R2 : RatQ ca H14 q b0 b1 := ⟨nb1, nrm_red nb1, _, e_q⟩
    have R1 := R1.same s_H14
    have B14 := B13.same s_H14
    have e_pa := s_H14 _ _ e_pa
    have e_pb := s_H14 _ _ e_pb
    fail "rd"
    refine ⟨by decide, by decide, for_range (n := 2) (fun i σ' H' => ∃ v v2, σ' = [some (.ref s0), some (.ref bag), some (.ref pa), some (.ref pb), some (.int c), v5, some (.int w), some (.ref p), some (.ref q), v, v2] ∧ Same H14 H') ⟨none, none, rfl, Same.refl _⟩ ?_ ?_⟩
    · rintro i σ' H' hi ⟨v, v2, rfl, sH⟩
      have R1 := R1.same sH
      have R2 := R2.same sH
      have e_pa := sH _ _ e_pa
      have e_pb := sH _ _ e_pb
      fail "rd"
      have y1 : Sz 4000 a0 := z1.mono
      have y2 : Sz 4000 a1 := z2.mono
      have y3 : Sz 4000 b0 := z3.mono
      have y4 : Sz 4000 b1 := z4.mono
      have yw : Sz 4000 w := zw.mono
      have y0 : Sz 4000 (1 : Int) := Sz.one.mono
      refine ⟨p, _, _, rfl, R1, y2, fun H15 s15 => ?_⟩
      fail "rd"
      refine ⟨q, _, _, rfl, (by fail "lo_R"), y4, fun H16 s16 => ?_⟩
      fail "rd"
      refine ⟨pa, pb, p, q, _, _, _, _, rfl, (by fail "lo_hq"), (by fail "lo_hq"), (by fail "lo_R"), (by fail "lo_R"), z1.mono, z2.mono, z3.mono, z4.mono, fun H17 s17 => ?_⟩
      fail "rd"
      refine ⟨pa, p, _, _, w, rfl, (by fail "lo_hq"), (by fail "lo_R"), z1.mono, z2.mono, zw.mono, fun H18 s18 => ?_⟩
      have s18 : Same H' H18 := (by fail "lo_S")
      have R1 := R1.same s18
      have R2 := R2.same s18
      have e_pa := s18 _ _ e_pa
      have e_pb := s18 _ _ e_pb
      have sH := sH.trans s18
      clear s15 s16 s17 s18
      have m1 : IntMulOk a0 b1 := z1.mok z4
      have m2 : IntMulOk w b1 := zw.mok z4
      have zd : Sz 700 (b0 - w * b1) := ((z3.mono (m := 344)).sub' (zw.mul z4)).mono
      have m3 : IntMulOk (b0 - w * b1) a1 := zd.mok z2
      have ze : Sz 2000 (a0 * b1 + (b0 - w * b1) * a1) := ((z1.mul z4).add (zd.mul z2)).mono
      have m4 : IntMulOk (a0 * b1 + (b0 - w * b1) * a1) b0 := ze.mok z3
      have m5 : IntMulOk a1 b1 := z2.mok z4
      have m6 : IntMulOk (a1 * b1) b1 := (z2.mul z4).mok z4
      have m7 : IntMulOk a0 a0 := z1.mok z1
      have m8 : IntMulOk a1 a1 := z2.mok z2
      have n2 : a1 * b1 ≠ 0 := Int.mul_ne_zero na1 nb1
      have x1 : (a0 * b1 + b0 * a1) * 1 - w * (a1 * b1) = a0 * b1 + (b0 - w * b1) * a1 := by
        rw [Int.mul_one, Int.sub_mul]
        have : w * (a1 * b1) = w * b1 * a1 := by ac_rfl
        omega
      fail "rd"
      refine rOwn_of R1 R2.num ⟨p, _, _, _, _, _, rfl, R1, R2.num, y1, y2, y3, y4, fun r1 H19 _ s19 hr1 => ?_⟩
      fail "rd"
      refine rOwn_of hr1 NumQ.int ⟨r1, _, _, _, w, 1, rfl, hr1, NumQ.int, ((z1.mul z4).add (z3.mul z2)).mono, (z2.mul z4).mono, yw, y0, fun r2 H20 _ s20 hr2 => ?_⟩
      rw [x1, Int.mul_one] at hr2
      fail "rd"
      have R2' : RatQ ca H20 q b0 b1 := (by fail "lo_R")
      refine rOwn_of hr2 R2'.num ⟨r2, _, _, _, b0, b1, rfl, hr2, R2'.num, ze.mono, (z2.mul z4).mono, y3, y4, fun r3 H21 _ s21 hr3 => ?_⟩
      fail "rd"
      refine ⟨r3, _, _, rfl, hr3, ((z2.mul z4).mul z4).mono, fun H22 s22 => ?_⟩
      have s22 : Same H18 H22 := s19.trans (s20.trans (s21.trans s22))
      have R1' := R1.same s22
      have R2' := R2.same s22
      have m9 : IntMulOk 2 a0 := mok_l (by decide)
      fail "rd"
      refine rOwn_of R1' R1'.num ⟨p, _, _, _, _, _, rfl, R1', R1'.num, y1, y2, y1, y2, fun r4 H23 _ s23 hr4 => ?_⟩
      have hr4 : RatQ ca H23 r4 (2 * a0) a1 := hr4.to na1 (by
        rw [Int.add_mul]
        have : 2 * a0 * (a1 * a1) = 2 * (a0 * a1 * a1) := by ac_rfl
        omega)
      fail "rd"
      refine ⟨r4, _, _, rfl, hr4, y2, fun H24 s24 => ?_⟩
      have s24 : Same H22 H24 := s23.trans s24
      have R1' := R1'.same s24
      fail "rd"
      refine rOwn_of R1' R1'.num ⟨p, _, _, _, _, _, rfl, R1', R1'.num, y1, y2, y1, y2, fun r5 H25 _ s25 hr5 => ?_⟩
      have hr5 : RatQ ca H25 r5 0 1 := hr5.to (by decide) (by rw [Int.sub_self, Int.zero_mul, Int.zero_mul])
      fail "rd"
      refine ⟨r5, _, _, rfl, hr5, y0, fun H26 s26 => ?_⟩
      have s26 : Same H24 H26 := s25.trans s26
      have R1' := R1'.same s26
      fail "rd"
      refine rOwn_of R1' R1'.num ⟨p, _, _, _, _, _, rfl, R1', R1'.num, y1, y2, y1, y2, fun r6 H27 _ s27 hr6 => ?_⟩
      fail "rd"
      refine ⟨r6, _, _, rfl, hr6, (z2.mul z2).mono, fun H28 s28 => ?_⟩
      have s28 : Same H26 H28 := s27.trans s28
      have R1' := R1'.same s28
      fail "rd"
      have sH' : Same H14 H28 := sH.trans (s22.trans (s24.trans (s26.trans s28)))
      refine iteIn (fun z => ?_) (fun z => ?_)
      · obtain ⟨dx, hp⟩ := R1'.ins
        fail "rd"
        refine over_of R1' R1'.num y1 y2 y1 y2 z (fun r7 H29 _ s29 hr7 => ?_)
        have hr7 : RatQ ca H29 r7 1 1 := hr7.to (by decide) (by rw [Int.mul_one, Int.one_mul, Int.mul_comm])
        fail "rd"
        refine ⟨r7, _, _, rfl, hr7, y0, fun H30 s30 => ?_⟩
        fail "rd"
        exact sH'.trans (s29.trans s30)
      · fail "rd"
        exact sH'
    · rintro σ' H' ⟨v, v2, rfl, sH⟩
      have R1 := R1.same sH
      have R2 := R2.same sH
      have e_pa := sH _ _ e_pa
      have e_pb := sH _ _ e_pb
      have B14 := B14.same sH
      fail "rd"
      intro t1 n_t1
      generalize g_H15 : upd _ t1 _ = H15
      obtain ⟨s_H15, e_t1⟩ := gen_new n_t1 g_H15
      clear g_H15
      fail "rd"
      intro t2 n_t2
      generalize g_H16 : upd _ t2 _ = H16
      obtain ⟨s_H16, e_t2⟩ := gen_new n_t2 g_H16
      clear g_H16
      fail "rd"
      intro v3 n_v3
      generalize g_H17 : upd _ v3 _ = H17
      obtain ⟨s_H17, e_v3⟩ := gen_new n_v3 g_H17
      clear g_H17
      fail "rd"
      intro t3 n_t3
      generalize g_H18 : upd _ t3 _ = H18
      obtain ⟨s_H18, e_t3⟩ := gen_new n_t3 g_H18
      clear g_H18
      fail "rd"
      intro lp n_lp
      generalize g_H19 : upd _ lp _ = H19
      obtain ⟨s_H19, e_lp⟩ := gen_new n_lp g_H19
      clear g_H19
      fail "rd"
      have B19 := ((((B14.same s_H15).same s_H16).same s_H17).same s_H18).same s_H19
      have i1 : Item ca H19 (.ref t1) := ⟨t1, _, _, _, _, rfl, (by fail "lo_hq"), (by fail "lo_hq"), RatQ.num (by fail "lo_R"), z1.mono, z2.mono⟩
      have i2 : Item ca H19 (.ref t2) := ⟨t2, _, _, _, _, rfl, (by fail "lo_hq"), (by fail "lo_hq"), RatQ.num (by fail "lo_R"), z3.mono, z4.mono⟩
      have i3 : Item ca H19 (.ref t3) := ⟨t3, _, _, _, _, rfl, (by fail "lo_hq"), (by fail "lo_hq"), NumQ.int, zw.mono, Sz.one.mono⟩
      refine ⟨bag, lp, _, rfl, L, B19, e_lp, B14.ne (s_H15.free (s_H16.free (s_H17.free (s_H18.free n_lp)))), by simp, by simp, fun x hx => ?_, fun H20 => k H20⟩
      simp only [List.mem_cons, List.not_mem_nil, or_false] at hx
      rcases hx with rfl | rfl | rfl
      · exact i1
      · exact i2
      · exact i3

end
theorem all_mk {l : PySem.W.OpenLaw} {w : World} {K : PySem.W.Frag} {h : Heap} {mg : Str → Option Value} {fa : Addr} (X : K.In h) (G : h.Ns mainGlobals mg) (hfa : mg "law" = some (.ref fa))
    {C0 C1 C2 : Addr}
    {vi0 vi1 vi2 vi3 vi4 vi5 : Option Value}
    {kd2 : ClassData} {vr2_0 vr2_1 vr2_2 : Option Value} {vh2_0 vh2_1 vh2_2 : Addr}
    {f0 : Addr} {od0 an0 : Option Addr} {sl0 : Array (Option Value)} {oc0 kV0 dc0 pm0 cd0 ct0 : Value}
    {f1 : Addr} {od1 an1 : Option Addr} {sl1 : Array (Option Value)} {oc1 kV1 dc1 pm1 cd1 ct1 : Value}
    {f2 : Addr} {od2 an2 : Option Addr} {sl2 : Array (Option Value)} {oc2 kV2 dc2 pm2 cd2 ct2 : Value}
    {f3 : Addr} {od3 an3 : Option Addr} {sl3 : Array (Option Value)} {oc3 kV3 dc3 pm3 cd3 ct3 : Value}
    {f4 : Addr} {od4 an4 : Option Addr} {sl4 : Array (Option Value)} {oc4 kV4 dc4 pm4 cd4 ct4 : Value}
    {f5 : Addr} {od5 an5 : Option Addr} {sl5 : Array (Option Value)} {oc5 kV5 dc5 pm5 cd5 ct5 : Value}
    {f6 : Addr} {od6 an6 : Option Addr} {sl6 : Array (Option Value)} {oc6 kV6 dc6 pm6 cd6 ct6 : Value}
    {f7 : Addr} {od7 an7 : Option Addr} {sl7 : Array (Option Value)} {oc7 kV7 dc7 pm7 cd7 ct7 : Value}
    {f8 : Addr} {od8 an8 : Option Addr} {sl8 : Array (Option Value)} {oc8 kV8 dc8 pm8 cd8 ct8 : Value}
    {T8 : Addr} {tk8_0 : Tok} {oT8 : Value} {dT8 : Option Addr} {nT8 : Nat} {sT8 : Array (Option Value)}
    {f9 : Addr} {od9 an9 : Option Addr} {sl9 : Array (Option Value)} {oc9 kV9 dc9 pm9 cd9 ct9 : Value}
    {f10 : Addr} {od10 an10 : Option Addr} {sl10 : Array (Option Value)} {oc10 kV10 dc10 pm10 cd10 ct10 : Value}
    {f11 : Addr} {od11 an11 : Option Addr} {sl11 : Array (Option Value)} {oc11 kV11 dc11 pm11 cd11 ct11 : Value}
    {p11 : Addr} {rest11 : List Value}
    {f12 : Addr} {od12 an12 : Option Addr} {sl12 : Array (Option Value)} {oc12 kV12 dc12 pm12 cd12 ct12 : Value}
    {f13 : Addr} {od13 an13 : Option Addr} {sl13 : Array (Option Value)} {oc13 kV13 dc13 pm13 cd13 ct13 : Value}
    {f14 : Addr} {od14 an14 : Option Addr} {sl14 : Array (Option Value)} {oc14 kV14 dc14 pm14 cd14 ct14 : Value}
    {f15 : Addr} {od15 an15 : Option Addr} {sl15 : Array (Option Value)} {oc15 kV15 dc15 pm15 cd15 ct15 : Value}
    {f16 : Addr} {od16 an16 : Option Addr} {sl16 : Array (Option Value)} {oc16 kV16 dc16 pm16 cd16 ct16 : Value}
    {f17 : Addr} {od17 an17 : Option Addr} {sl17 : Array (Option Value)} {oc17 kV17 dc17 pm17 cd17 ct17 : Value}
    {f18 : Addr} {od18 an18 : Option Addr} {sl18 : Array (Option Value)} {oc18 kV18 dc18 pm18 cd18 ct18 : Value}
    {f19 : Addr} {od19 an19 : Option Addr} {sl19 : Array (Option Value)} {oc19 kV19 dc19 pm19 cd19 ct19 : Value}
    {f20 : Addr} {od20 an20 : Option Addr} {sl20 : Array (Option Value)} {oc20 kV20 dc20 pm20 cd20 ct20 : Value}
    {f21 : Addr} {od21 an21 : Option Addr} {sl21 : Array (Option Value)} {oc21 kV21 dc21 pm21 cd21 ct21 : Value}
    {f22 : Addr} {od22 an22 : Option Addr} {sl22 : Array (Option Value)} {oc22 kV22 dc22 pm22 cd22 ct22 : Value}
    {f23 : Addr} {od23 an23 : Option Addr} {sl23 : Array (Option Value)} {oc23 kV23 dc23 pm23 cd23 ct23 : Value}
    (aC0 : PySem.W.nsIn K mainGlobals "CostError" = some (some (.ref C0)))
    (aC1 : PySem.W.nsIn K mainGlobals "NoRatio" = some (some (.ref C1)))
    (aC2 : PySem.W.nsIn K mainGlobals "Ratio" = some (some (.ref C2)))
    (pg2 : PySem.W.plainGet K C2 Str.empty = true)
    (hd2 : PySem.W.hasDictIn K C2 = true)
    (po2 : PySem.W.plainOver K C2 = true)
    (sa2 : PySem.W.findIn K (.ref C2) "__setattr__" = some (some (.builtin "object.__setattr__")))
    (mk2 : PySem.W.makesIn K C2 = true)
    (kc2 : PySem.W.keepIn K (.ref C2) = true)
    (z_abs : PySem.W.nsIn K mainGlobals "abs" = some none)
    (z_bool : PySem.W.nsIn K mainGlobals "bool" = some none)
    (z_int : PySem.W.nsIn K mainGlobals "int" = some none)
    (z_isinstance : PySem.W.nsIn K mainGlobals "isinstance" = some none)
    (z_len : PySem.W.nsIn K mainGlobals "len" = some none)
    (z_list : PySem.W.nsIn K mainGlobals "list" = some none)
    (z_range : PySem.W.nsIn K mainGlobals "range" = some none)
    (z_gcd : PySem.W.nsIn K mainGlobals "gcd" = some (some (.builtin "math.gcd")))
    (fkp_NoRatio : PySem.W.keepIn K (.ref C1) = true)
    (fex_NoRatio : PySem.W.excIn K C1 [.type "ValueError", .type "Exception", .type "BaseException", .type "object"] "ValueError.__new__" = true)
    (fsb_NoRatio : PySem.W.subIn K (.ref C1) (.type "BaseException") = some true)
    (fty_NoRatio : PySem.W.typeIn K (.ref C1) = some (.type "type"))
    (fna_Ratio_top : PySem.W.findIn K (.ref C2) "top" = some none)
    (fna_Ratio_bottom : PySem.W.findIn K (.ref C2) "bottom" = some none)
    (fic_Ratio : PySem.W.findIn K (.ref C2) "__class__" = some (some (.builtin "object.__class__")))
    (fo5 : PySem.W.specialIn K (.builtin "object.__class__") "__get__" = some (some (.builtin "getset_descriptor.__get__")))
    (fo6 : PySem.W.takesIn K (.builtin "object.__class__") = some true)
    (fim_Ratio : PySem.W.mroIn K C2 (.type "object") = some true)
    (fr1_Ratio : PySem.W.selfFirst K C2 = true)
    (fr2_Ratio : PySem.W.subIn K (.type "int") (.ref C2) = some false)
    (fr3_Ratio : PySem.W.subIn K (.ref C2) (.type "int") = some false)
    (fr4_Ratio : PySem.W.clsIn K C2 = some kd2)
    (fmro_Ratio : kd2.mro = [.ref C2, .type "object"])
    (fr_iadd_Ratio : PySem.W.findIn K (.ref C2) "__iadd__" = some none)
    (fro_iadd : PySem.W.findIn K (.type "object") "__iadd__" = some none)
    (fr_isub_Ratio : PySem.W.findIn K (.ref C2) "__isub__" = some none)
    (fro_isub : PySem.W.findIn K (.type "object") "__isub__" = some none)
    (fr_imul_Ratio : PySem.W.findIn K (.ref C2) "__imul__" = some none)
    (fro_imul : PySem.W.findIn K (.type "object") "__imul__" = some none)
    (fri_add : PySem.W.findIn K (.type "int") "__add__" = some vi0)
    (fri_radd : PySem.W.findIn K (.type "int") "__radd__" = some vi1)
    (fri_sub : PySem.W.findIn K (.type "int") "__sub__" = some vi2)
    (fri_rsub : PySem.W.findIn K (.type "int") "__rsub__" = some vi3)
    (fri_mul : PySem.W.findIn K (.type "int") "__mul__" = some vi4)
    (fri_rmul : PySem.W.findIn K (.type "int") "__rmul__" = some vi5)
    (frr_radd_Ratio : PySem.W.findIn K (.ref C2) "__radd__" = some vr2_0)
    (frs_radd_Ratio : refOr vr2_0 = true)
    (frr_rsub_Ratio : PySem.W.findIn K (.ref C2) "__rsub__" = some vr2_1)
    (frs_rsub_Ratio : refOr vr2_1 = true)
    (frr_rmul_Ratio : PySem.W.findIn K (.ref C2) "__rmul__" = some vr2_2)
    (frs_rmul_Ratio : refOr vr2_2 = true)
    (frh_add_Ratio : PySem.W.findIn K (.ref C2) "__add__" = some (some (.ref vh2_0)))
    (frh_sub_Ratio : PySem.W.findIn K (.ref C2) "__sub__" = some (some (.ref vh2_1)))
    (frh_mul_Ratio : PySem.W.findIn K (.ref C2) "__mul__" = some (some (.ref vh2_2)))
    (fki_int_Ratio : PySem.W.kitOne K (.type "int") (.ref C2) = some false)
    (a0 : PySem.W.nsIn K mainGlobals "_law_bag" = some (some (.ref f0)))
    (l0 : K.lookup f0 = some ⟨oc0, od0, .func (PySem.W.fnOf "_law_bag" "_law_bag" (defArgs s_l_bag) (defBody s_l_bag) (defScope s_l_bag) .none kV0 dc0 pm0 an0 cd0 ct0), sl0⟩)
    (c0 : PySem.W.codeIn K cd0 "_law_bag" = true)
    (k0 : PySem.W.keepIn K (.ref f0) = true)
    (a1 : PySem.W.nsIn K mainGlobals "_law_draw" = some (some (.ref f1)))
    (l1 : K.lookup f1 = some ⟨oc1, od1, .func (PySem.W.fnOf "_law_draw" "_law_draw" (defArgs s_l_draw) (defBody s_l_draw) (defScope s_l_draw) .none kV1 dc1 pm1 an1 cd1 ct1), sl1⟩)
    (c1 : PySem.W.codeIn K cd1 "_law_draw" = true)
    (k1 : PySem.W.keepIn K (.ref f1) = true)
    (a2 : PySem.W.nsIn K mainGlobals "_law_integer" = some (some (.ref f2)))
    (l2 : K.lookup f2 = some ⟨oc2, od2, .func (PySem.W.fnOf "_law_integer" "_law_integer" (defArgs s_l_integer) (defBody s_l_integer) (defScope s_l_integer) .none kV2 dc2 pm2 an2 cd2 ct2), sl2⟩)
    (c2 : PySem.W.codeIn K cd2 "_law_integer" = true)
    (k2 : PySem.W.keepIn K (.ref f2) = true)
    (a3 : PySem.W.nsIn K mainGlobals "_law_pick" = some (some (.ref f3)))
    (l3 : K.lookup f3 = some ⟨oc3, od3, .func (PySem.W.fnOf "_law_pick" "_law_pick" (defArgs s_l_pick) (defBody s_l_pick) (defScope s_l_pick) .none kV3 dc3 pm3 an3 cd3 ct3), sl3⟩)
    (c3 : PySem.W.codeIn K cd3 "_law_pick" = true)
    (k3 : PySem.W.keepIn K (.ref f3) = true)
    (a4 : PySem.W.nsIn K mainGlobals "_law_divisor" = some (some (.ref f4)))
    (l4 : K.lookup f4 = some ⟨oc4, od4, .func (PySem.W.fnOf "_law_divisor" "_law_divisor" (defArgs s_l_divisor) (defBody s_l_divisor) (defScope s_l_divisor) .none kV4 dc4 pm4 an4 cd4 ct4), sl4⟩)
    (c4 : PySem.W.codeIn K cd4 "_law_divisor" = true)
    (k4 : PySem.W.keepIn K (.ref f4) = true)
    (a5 : PySem.W.nsIn K mainGlobals "_law_lowest" = some (some (.ref f5)))
    (l5 : K.lookup f5 = some ⟨oc5, od5, .func (PySem.W.fnOf "_law_lowest" "_law_lowest" (defArgs s_l_lowest) (defBody s_l_lowest) (defScope s_l_lowest) .none kV5 dc5 pm5 an5 cd5 ct5), sl5⟩)
    (c5 : PySem.W.codeIn K cd5 "_law_lowest" = true)
    (k5 : PySem.W.keepIn K (.ref f5) = true)
    (a6 : PySem.W.nsIn K mainGlobals "_law_number" = some (some (.ref f6)))
    (l6 : K.lookup f6 = some ⟨oc6, od6, .func (PySem.W.fnOf "_law_number" "_law_number" (defArgs s_l_number) (defBody s_l_number) (defScope s_l_number) .none kV6 dc6 pm6 an6 cd6 ct6), sl6⟩)
    (c6 : PySem.W.codeIn K cd6 "_law_number" = true)
    (k6 : PySem.W.keepIn K (.ref f6) = true)
    (a7 : PySem.W.nsIn K mainGlobals "_law_is" = some (some (.ref f7)))
    (l7 : K.lookup f7 = some ⟨oc7, od7, .func (PySem.W.fnOf "_law_is" "_law_is" (defArgs s_l_is) (defBody s_l_is) (defScope s_l_is) .none kV7 dc7 pm7 an7 cd7 ct7), sl7⟩)
    (c7 : PySem.W.codeIn K cd7 "_law_is" = true)
    (k7 : PySem.W.keepIn K (.ref f7) = true)
    (a8 : PySem.W.findIn K (.ref C2) "__init__" = some (some (.ref f8)))
    (i8 : PySem.W.isFn K (.ref f8) = true)
    (l8 : K.lookup f8 = some ⟨oc8, od8, .func (PySem.W.fnOf "__init__" "Ratio.__init__" (defArgs s_Ratio_init) (defBody s_Ratio_init) (defScope s_Ratio_init) (.ref T8) kV8 dc8 pm8 an8 cd8 ct8), sl8⟩)
    (c8 : PySem.W.codeIn K cd8 "Ratio.__init__" = true)
    (k8 : PySem.W.keepIn K (.ref f8) = true)
    (t8 : K.lookup T8 = some ⟨oT8, dT8, .seq #[.int 1 tk8_0] nT8, sT8⟩)
    (a9 : PySem.W.nsIn K mainGlobals "as_ratio" = some (some (.ref f9)))
    (l9 : K.lookup f9 = some ⟨oc9, od9, .func (PySem.W.fnOf "as_ratio" "as_ratio" (defArgs s_as_ratio) (defBody s_as_ratio) (defScope s_as_ratio) .none kV9 dc9 pm9 an9 cd9 ct9), sl9⟩)
    (c9 : PySem.W.codeIn K cd9 "as_ratio" = true)
    (k9 : PySem.W.keepIn K (.ref f9) = true)
    (a10 : PySem.W.findIn K (.ref C2) "__add__" = some (some (.ref f10)))
    (i10 : PySem.W.isFn K (.ref f10) = true)
    (l10 : K.lookup f10 = some ⟨oc10, od10, .func (PySem.W.fnOf "__add__" "Ratio.__add__" (defArgs s_Ratio_add) (defBody s_Ratio_add) (defScope s_Ratio_add) .none kV10 dc10 pm10 an10 cd10 ct10), sl10⟩)
    (c10 : PySem.W.codeIn K cd10 "Ratio.__add__" = true)
    (k10 : PySem.W.keepIn K (.ref f10) = true)
    (rd2 : PySem.W.readsIn K C2 (.type "type") = true)
    (ga2 : PySem.W.specialIn K (.ref C2) "__getattribute__" = some (some (.builtin "type.__getattribute__")))
    (a11 : PySem.W.findCls K (.ref C2) (.type "type") "sum_of" = some (.get (.builtin "staticmethod.__get__") (.ref p11) .none (.ref C2)))
    (i11 : PySem.W.recIn K p11 "staticmethod" = some (.ref f11 :: rest11))
    (l11 : K.lookup f11 = some ⟨oc11, od11, .func (PySem.W.fnOf "sum_of" "Ratio.sum_of" (defArgs s_Ratio_sum_of) (defBody s_Ratio_sum_of) (defScope s_Ratio_sum_of) .none kV11 dc11 pm11 an11 cd11 ct11), sl11⟩)
    (c11 : PySem.W.codeIn K cd11 "Ratio.sum_of" = true)
    (k11 : PySem.W.keepIn K (.ref f11) = true)
    (a12 : PySem.W.nsIn K mainGlobals "_law_list_right" = some (some (.ref f12)))
    (l12 : K.lookup f12 = some ⟨oc12, od12, .func (PySem.W.fnOf "_law_list_right" "_law_list_right" (defArgs s_l_list_right) (defBody s_l_list_right) (defScope s_l_list_right) .none kV12 dc12 pm12 an12 cd12 ct12), sl12⟩)
    (c12 : PySem.W.codeIn K cd12 "_law_list_right" = true)
    (k12 : PySem.W.keepIn K (.ref f12) = true)
    (a13 : PySem.W.findIn K (.ref C2) "__sub__" = some (some (.ref f13)))
    (i13 : PySem.W.isFn K (.ref f13) = true)
    (l13 : K.lookup f13 = some ⟨oc13, od13, .func (PySem.W.fnOf "__sub__" "Ratio.__sub__" (defArgs s_Ratio_sub) (defBody s_Ratio_sub) (defScope s_Ratio_sub) .none kV13 dc13 pm13 an13 cd13 ct13), sl13⟩)
    (c13 : PySem.W.codeIn K cd13 "Ratio.__sub__" = true)
    (k13 : PySem.W.keepIn K (.ref f13) = true)
    (a14 : PySem.W.findIn K (.ref C2) "__mul__" = some (some (.ref f14)))
    (i14 : PySem.W.isFn K (.ref f14) = true)
    (l14 : K.lookup f14 = some ⟨oc14, od14, .func (PySem.W.fnOf "__mul__" "Ratio.__mul__" (defArgs s_Ratio_mul) (defBody s_Ratio_mul) (defScope s_Ratio_mul) .none kV14 dc14 pm14 an14 cd14 ct14), sl14⟩)
    (c14 : PySem.W.codeIn K cd14 "Ratio.__mul__" = true)
    (k14 : PySem.W.keepIn K (.ref f14) = true)
    (a15 : PySem.W.findIn K (.ref C2) "over" = some (some (.ref f15)))
    (i15 : PySem.W.isFn K (.ref f15) = true)
    (l15 : K.lookup f15 = some ⟨oc15, od15, .func (PySem.W.fnOf "over" "Ratio.over" (defArgs s_Ratio_over) (defBody s_Ratio_over) (defScope s_Ratio_over) .none kV15 dc15 pm15 an15 cd15 ct15), sl15⟩)
    (c15 : PySem.W.codeIn K cd15 "Ratio.over" = true)
    (k15 : PySem.W.keepIn K (.ref f15) = true)
    (a16 : PySem.W.findIn K (.ref C2) "__neg__" = some (some (.ref f16)))
    (i16 : PySem.W.isFn K (.ref f16) = true)
    (l16 : K.lookup f16 = some ⟨oc16, od16, .func (PySem.W.fnOf "__neg__" "Ratio.__neg__" (defArgs s_Ratio_neg) (defBody s_Ratio_neg) (defScope s_Ratio_neg) .none kV16 dc16 pm16 an16 cd16 ct16), sl16⟩)
    (c16 : PySem.W.codeIn K cd16 "Ratio.__neg__" = true)
    (k16 : PySem.W.keepIn K (.ref f16) = true)
    (a17 : PySem.W.findIn K (.ref C2) "__abs__" = some (some (.ref f17)))
    (i17 : PySem.W.isFn K (.ref f17) = true)
    (l17 : K.lookup f17 = some ⟨oc17, od17, .func (PySem.W.fnOf "__abs__" "Ratio.__abs__" (defArgs s_Ratio_abs) (defBody s_Ratio_abs) (defScope s_Ratio_abs) .none kV17 dc17 pm17 an17 cd17 ct17), sl17⟩)
    (c17 : PySem.W.codeIn K cd17 "Ratio.__abs__" = true)
    (k17 : PySem.W.keepIn K (.ref f17) = true)
    (a18 : PySem.W.nsIn K mainGlobals "_law_sums_right" = some (some (.ref f18)))
    (l18 : K.lookup f18 = some ⟨oc18, od18, .func (PySem.W.fnOf "_law_sums_right" "_law_sums_right" (defArgs s_l_sums_right) (defBody s_l_sums_right) (defScope s_l_sums_right) .none kV18 dc18 pm18 an18 cd18 ct18), sl18⟩)
    (c18 : PySem.W.codeIn K cd18 "_law_sums_right" = true)
    (k18 : PySem.W.keepIn K (.ref f18) = true)
    (a19 : PySem.W.findIn K (.ref C2) "__radd__" = some (some (.ref f19)))
    (i19 : PySem.W.isFn K (.ref f19) = true)
    (l19 : K.lookup f19 = some ⟨oc19, od19, .func (PySem.W.fnOf "__radd__" "Ratio.__radd__" (defArgs s_Ratio_radd) (defBody s_Ratio_radd) (defScope s_Ratio_radd) .none kV19 dc19 pm19 an19 cd19 ct19), sl19⟩)
    (c19 : PySem.W.codeIn K cd19 "Ratio.__radd__" = true)
    (k19 : PySem.W.keepIn K (.ref f19) = true)
    (a20 : PySem.W.findIn K (.ref C2) "__rsub__" = some (some (.ref f20)))
    (i20 : PySem.W.isFn K (.ref f20) = true)
    (l20 : K.lookup f20 = some ⟨oc20, od20, .func (PySem.W.fnOf "__rsub__" "Ratio.__rsub__" (defArgs s_Ratio_rsub) (defBody s_Ratio_rsub) (defScope s_Ratio_rsub) .none kV20 dc20 pm20 an20 cd20 ct20), sl20⟩)
    (c20 : PySem.W.codeIn K cd20 "Ratio.__rsub__" = true)
    (k20 : PySem.W.keepIn K (.ref f20) = true)
    (a21 : PySem.W.findIn K (.ref C2) "__rmul__" = some (some (.ref f21)))
    (i21 : PySem.W.isFn K (.ref f21) = true)
    (l21 : K.lookup f21 = some ⟨oc21, od21, .func (PySem.W.fnOf "__rmul__" "Ratio.__rmul__" (defArgs s_Ratio_rmul) (defBody s_Ratio_rmul) (defScope s_Ratio_rmul) .none kV21 dc21 pm21 an21 cd21 ct21), sl21⟩)
    (c21 : PySem.W.codeIn K cd21 "Ratio.__rmul__" = true)
    (k21 : PySem.W.keepIn K (.ref f21) = true)
    (a22 : PySem.W.nsIn K mainGlobals "_law_whole_right" = some (some (.ref f22)))
    (l22 : K.lookup f22 = some ⟨oc22, od22, .func (PySem.W.fnOf "_law_whole_right" "_law_whole_right" (defArgs s_l_whole_right) (defBody s_l_whole_right) (defScope s_l_whole_right) .none kV22 dc22 pm22 an22 cd22 ct22), sl22⟩)
    (c22 : PySem.W.codeIn K cd22 "_law_whole_right" = true)
    (k22 : PySem.W.keepIn K (.ref f22) = true)
    (a23 : PySem.W.nsIn K mainGlobals "law" = some (some (.ref f23)))
    (l23 : K.lookup f23 = some ⟨oc23, od23, .func (PySem.W.fnOf "law" "law" (defArgs s_law) (defBody s_law) (defScope s_law) .none kV23 dc23 pm23 an23 cd23 ct23), sl23⟩)
    (c23 : PySem.W.codeIn K cd23 "law" = true)
    (k23 : PySem.W.keepIn K (.ref f23) = true)
    : ∃ fd : FuncData, (∀ (s : Shared) (v : Value), BindsTo s fd ⟨[v], []⟩ [("_law_script", v)]) ∧ ∀ base : Heap, K.In base → base.Ns mainGlobals mg → FnOk l.prog w K mg base (L2.CX l.prog w) 7 fa fd ["_law_script"] (sp_law K fun _ => 0) := by
  have e := hfa.symm.trans (PySem.W.mg_of X G a23)
  cases e
  have T : Txt K mg (fun n => if n = 0 then C0 else if n = 1 then C1 else if n = 2 then C2 else 0) := ⟨PySem.W.mg_none_of X G z_abs, PySem.W.mg_none_of X G z_bool, PySem.W.mg_none_of X G z_int, PySem.W.mg_none_of X G z_isinstance, PySem.W.mg_none_of X G z_len, PySem.W.mg_none_of X G z_list, PySem.W.mg_none_of X G z_range, PySem.W.mg_of X G z_gcd, PySem.W.mg_of X G aC1, fkp_NoRatio, fex_NoRatio, fsb_NoRatio, fty_NoRatio, PySem.W.mg_of X G aC2, ⟨pg2, hd2, po2, sa2⟩, fna_Ratio_top, fna_Ratio_bottom, fic_Ratio, fo5, fo6, fim_Ratio, ⟨fr1_Ratio, fr2_Ratio, fr3_Ratio, ⟨_, fr4_Ratio, fmro_Ratio⟩, ⟨fr_iadd_Ratio, fro_iadd⟩, ⟨fr_isub_Ratio, fro_isub⟩, ⟨fr_imul_Ratio, fro_imul⟩, ⟨_, _, _, _, _, _, fri_add, fri_radd, fri_sub, fri_rsub, fri_mul, fri_rmul⟩, ⟨_, _, _, ⟨frr_radd_Ratio, frs_radd_Ratio⟩, ⟨frr_rsub_Ratio, frs_rsub_Ratio⟩, frr_rmul_Ratio, frs_rmul_Ratio⟩, ⟨_, _, _, frh_add_Ratio, frh_sub_Ratio, frh_mul_Ratio⟩⟩, fki_int_Ratio⟩
  have F0 := fun_mk (st := s_l_bag) l0 c0 k0
  have b0 := F0.binds (ps := ["_law_script"]) fun _ _ _ _ _ _ us hl => match us, hl with | [_], _ => rfl
  have F1 := fun_mk (st := s_l_draw) l1 c1 k1
  have b1 := F1.binds (ps := ["_law_bag_here", "_law_size"]) fun _ _ _ _ _ _ us hl => match us, hl with | [_, _], _ => rfl
  have F2 := fun_mk (st := s_l_integer) l2 c2 k2
  have b2 := F2.binds (ps := ["_law_bag_here"]) fun _ _ _ _ _ _ us hl => match us, hl with | [_], _ => rfl
  have F3 := fun_mk (st := s_l_pick) l3 c3 k3
  have b3 := F3.binds (ps := ["_law_bag_here", "_law_items"]) fun _ _ _ _ _ _ us hl => match us, hl with | [_, _], _ => rfl
  have F4 := fun_mk (st := s_l_divisor) l4 c4 k4
  have b4 := F4.binds (ps := ["_law_one", "_law_other"]) fun _ _ _ _ _ _ us hl => match us, hl with | [_, _], _ => rfl
  have F5 := fun_mk (st := s_l_lowest) l5 c5 k5
  have b5 := F5.binds (ps := ["_law_top", "_law_bottom"]) fun _ _ _ _ _ _ us hl => match us, hl with | [_, _], _ => rfl
  have F6 := fun_mk (st := s_l_number) l6 c6 k6
  have b6 := F6.binds (ps := ["_law_value"]) fun _ _ _ _ _ _ us hl => match us, hl with | [_], _ => rfl
  have F7 := fun_mk (st := s_l_is) l7 c7 k7
  have b7 := F7.binds (ps := ["_law_told", "_law_top", "_law_bottom"]) fun _ _ _ _ _ _ us hl => match us, hl with | [_, _, _], _ => rfl
  have F8 : FunD K "__init__" "Ratio.__init__" (defArgs s_Ratio_init) (defBody s_Ratio_init) (defScope s_Ratio_init) [.int 1] [] f8 _ := ⟨⟨_, _, _, _, _, _, _, _, _, _, rfl, l8, c8, .inr ⟨by simp, T8, _, [.int 1 tk8_0], nT8, rfl, t8, rfl, (.cons ⟨_, rfl⟩ .nil)⟩, .inl rfl⟩, k8⟩
  have b8_2 := F8.binds1 (ps := ["self", "top", "bottom"]) 3 1 (by simp) (by decide) fun _ _ _ _ _ _ _ us its hl hi => match us, hl, its, hi with | [_, _, _], _, [_], _ => ⟨_, rfl, rfl⟩
  have b8_1 := F8.binds1 (ps := ["self", "top", "bottom"]) 2 0 (by simp) (by decide) fun _ _ _ _ _ _ _ us its hl hi => match us, hl, its, hi with | [_, _], _, [_], _ => ⟨_, rfl, rfl⟩
  have F9 := fun_mk (st := s_as_ratio) l9 c9 k9
  have b9 := F9.binds (ps := ["number"]) fun _ _ _ _ _ _ us hl => match us, hl with | [_], _ => rfl
  have F10 := fun_mk (st := s_Ratio_add) l10 c10 k10
  have b10 := F10.binds (ps := ["self", "other"]) fun _ _ _ _ _ _ us hl => match us, hl with | [_, _], _ => rfl
  have F11 := fun_mk (st := s_Ratio_sum_of) l11 c11 k11
  have b11 := F11.binds (ps := ["items"]) fun _ _ _ _ _ _ us hl => match us, hl with | [_], _ => rfl
  have F12 := fun_mk (st := s_l_list_right) l12 c12 k12
  have b12 := F12.binds (ps := ["_law_bag_here", "_law_pairs"]) fun _ _ _ _ _ _ us hl => match us, hl with | [_, _], _ => rfl
  have F13 := fun_mk (st := s_Ratio_sub) l13 c13 k13
  have b13 := F13.binds (ps := ["self", "other"]) fun _ _ _ _ _ _ us hl => match us, hl with | [_, _], _ => rfl
  have F14 := fun_mk (st := s_Ratio_mul) l14 c14 k14
  have b14 := F14.binds (ps := ["self", "other"]) fun _ _ _ _ _ _ us hl => match us, hl with | [_, _], _ => rfl
  have F15 := fun_mk (st := s_Ratio_over) l15 c15 k15
  have b15 := F15.binds (ps := ["self", "other"]) fun _ _ _ _ _ _ us hl => match us, hl with | [_, _], _ => rfl
  have F16 := fun_mk (st := s_Ratio_neg) l16 c16 k16
  have b16 := F16.binds (ps := ["self"]) fun _ _ _ _ _ _ us hl => match us, hl with | [_], _ => rfl
  have F17 := fun_mk (st := s_Ratio_abs) l17 c17 k17
  have b17 := F17.binds (ps := ["self"]) fun _ _ _ _ _ _ us hl => match us, hl with | [_], _ => rfl
  have F18 := fun_mk (st := s_l_sums_right) l18 c18 k18
  have b18 := F18.binds (ps := ["_law_a", "_law_b", "_law_one", "_law_other"]) fun _ _ _ _ _ _ us hl => match us, hl with | [_, _, _, _], _ => rfl
  have F19 := fun_mk (st := s_Ratio_radd) l19 c19 k19
  have b19 := F19.binds (ps := ["self", "other"]) fun _ _ _ _ _ _ us hl => match us, hl with | [_, _], _ => rfl
  have F20 := fun_mk (st := s_Ratio_rsub) l20 c20 k20
  have b20 := F20.binds (ps := ["self", "other"]) fun _ _ _ _ _ _ us hl => match us, hl with | [_, _], _ => rfl
  have F21 := fun_mk (st := s_Ratio_rmul) l21 c21 k21
  have b21 := F21.binds (ps := ["self", "other"]) fun _ _ _ _ _ _ us hl => match us, hl with | [_, _], _ => rfl
  have F22 := fun_mk (st := s_l_whole_right) l22 c22 k22
  have b22 := F22.binds (ps := ["_law_a", "_law_one", "_law_whole"]) fun _ _ _ _ _ _ us hl => match us, hl with | [_, _, _], _ => rfl
  have F23 := fun_mk (st := s_law) l23 c23 k23
  have b23 := F23.binds (ps := ["_law_script"]) fun _ _ _ _ _ _ us hl => match us, hl with | [_], _ => rfl
  refine ⟨PySem.W.fnOf "law" "law" (defArgs s_law) (defBody s_law) (defScope s_law) .none kV23 dc23 pm23 an23 cd23 ct23, fun s v => .of_eq rfl, fun base _ _ => ?_⟩
  have O0 : Own l.prog w K mg base 1 "_law_bag" ["_law_script"] (sp_l_bag K (fun n => if n = 0 then C0 else if n = 1 then C1 else if n = 2 then C2 else 0)) := ⟨⟨f0, _, ok_l_bag F0 T , PySem.W.mg_of X G a0, k0, b0⟩⟩
  have O1 : Own l.prog w K mg base 1 "_law_draw" ["_law_bag_here", "_law_size"] (sp_l_draw K (fun n => if n = 0 then C0 else if n = 1 then C1 else if n = 2 then C2 else 0)) := ⟨⟨f1, _, ok_l_draw F1 T , PySem.W.mg_of X G a1, k1, b1⟩⟩
  have O2 : Own l.prog w K mg base 2 "_law_integer" ["_law_bag_here"] (sp_l_integer K (fun n => if n = 0 then C0 else if n = 1 then C1 else if n = 2 then C2 else 0)) := ⟨⟨f2, _, ok_l_integer F2 T O1, PySem.W.mg_of X G a2, k2, b2⟩⟩
  have O3 : Own l.prog w K mg base 2 "_law_pick" ["_law_bag_here", "_law_items"] (sp_l_pick K (fun n => if n = 0 then C0 else if n = 1 then C1 else if n = 2 then C2 else 0)) := ⟨⟨f3, _, ok_l_pick F3 T O1, PySem.W.mg_of X G a3, k3, b3⟩⟩
  have O4 : Own l.prog w K mg base 1 "_law_divisor" ["_law_one", "_law_other"] (sp_l_divisor K (fun n => if n = 0 then C0 else if n = 1 then C1 else if n = 2 then C2 else 0)) := ⟨⟨f4, _, ok_l_divisor F4 T , PySem.W.mg_of X G a4, k4, b4⟩⟩
  have O5 : Own l.prog w K mg base 2 "_law_lowest" ["_law_top", "_law_bottom"] (sp_l_lowest K (fun n => if n = 0 then C0 else if n = 1 then C1 else if n = 2 then C2 else 0)) := ⟨⟨f5, _, ok_l_lowest F5 T O4, PySem.W.mg_of X G a5, k5, b5⟩⟩
  have O6 : Own l.prog w K mg base 1 "_law_number" ["_law_value"] (sp_l_number K (fun n => if n = 0 then C0 else if n = 1 then C1 else if n = 2 then C2 else 0)) := ⟨⟨f6, _, ok_l_number F6 T , PySem.W.mg_of X G a6, k6, b6⟩⟩
  have O7 : Own l.prog w K mg base 3 "_law_is" ["_law_told", "_law_top", "_law_bottom"] (sp_l_is K (fun n => if n = 0 then C0 else if n = 1 then C1 else if n = 2 then C2 else 0)) := ⟨⟨f7, _, ok_l_is F7 T O5 O6, PySem.W.mg_of X G a7, k7, b7⟩⟩
  obtain ⟨ds8_2, vd8_2, bd8_2⟩ := b8_2
  have O8_2 : OwnI l.prog w K mg base 1 "Ratio" C2 ["self", "top", "bottom"] [] (sp_Ratio_init K (fun n => if n = 0 then C0 else if n = 1 then C1 else if n = 2 then C2 else 0)) := ⟨⟨f8, _, _, ok_Ratio_init F8 T , ⟨mk2, a8, i8, kc2⟩, PySem.W.mg_of X G aC2, bd8_2, vd8_2⟩⟩
  obtain ⟨ds8_1, vd8_1, bd8_1⟩ := b8_1
  have O8_1 : OwnI l.prog w K mg base 1 "Ratio" C2 ["self", "top", "bottom"] [.int 1] (sp_Ratio_init K (fun n => if n = 0 then C0 else if n = 1 then C1 else if n = 2 then C2 else 0)) := ⟨⟨f8, _, _, ok_Ratio_init F8 T , ⟨mk2, a8, i8, kc2⟩, PySem.W.mg_of X G aC2, bd8_1, vd8_1⟩⟩
  have O9 : Own l.prog w K mg base 3 "as_ratio" ["number"] (sp_as_ratio K (fun n => if n = 0 then C0 else if n = 1 then C1 else if n = 2 then C2 else 0)) := ⟨⟨f9, _, ok_as_ratio F9 T O8_2 O8_1, PySem.W.mg_of X G a9, k9, b9⟩⟩
  have O10 : OwnM l.prog w K mg base 4 C2 "__add__" ["self", "other"] (sp_Ratio_add K (fun n => if n = 0 then C0 else if n = 1 then C1 else if n = 2 then C2 else 0)) := ⟨⟨pg2, hd2, po2, sa2⟩, ⟨f10, _, ok_Ratio_add F10 T O9 O8_2 O8_1, ⟨a10, i10, k10⟩, b10⟩⟩
  have O11 : OwnS l.prog w K mg base 5 C2 "sum_of" ["items"] (sp_Ratio_sum_of K (fun n => if n = 0 then C0 else if n = 1 then C1 else if n = 2 then C2 else 0)) := ⟨⟨f11, _, p11, .type "type", ok_Ratio_sum_of F11 T O8_2 O8_1 O10, ⟨rd2, ga2⟩, a11, ⟨_, i11⟩, k11, b11⟩⟩
  have O12 : Own l.prog w K mg base 6 "_law_list_right" ["_law_bag_here", "_law_pairs"] (sp_l_list_right K (fun n => if n = 0 then C0 else if n = 1 then C1 else if n = 2 then C2 else 0)) := ⟨⟨f12, _, ok_l_list_right F12 T O1 O3 O5 O7 O11, PySem.W.mg_of X G a12, k12, b12⟩⟩
  have O13 : OwnM l.prog w K mg base 4 C2 "__sub__" ["self", "other"] (sp_Ratio_sub K (fun n => if n = 0 then C0 else if n = 1 then C1 else if n = 2 then C2 else 0)) := ⟨⟨pg2, hd2, po2, sa2⟩, ⟨f13, _, ok_Ratio_sub F13 T O9 O8_2 O8_1, ⟨a13, i13, k13⟩, b13⟩⟩
  have O14 : OwnM l.prog w K mg base 4 C2 "__mul__" ["self", "other"] (sp_Ratio_mul K (fun n => if n = 0 then C0 else if n = 1 then C1 else if n = 2 then C2 else 0)) := ⟨⟨pg2, hd2, po2, sa2⟩, ⟨f14, _, ok_Ratio_mul F14 T O9 O8_2 O8_1, ⟨a14, i14, k14⟩, b14⟩⟩
  have O15 : OwnM l.prog w K mg base 4 C2 "over" ["self", "other"] (sp_Ratio_over K (fun n => if n = 0 then C0 else if n = 1 then C1 else if n = 2 then C2 else 0)) := ⟨⟨pg2, hd2, po2, sa2⟩, ⟨f15, _, ok_Ratio_over F15 T O9 O8_2 O8_1, ⟨a15, i15, k15⟩, b15⟩⟩
  have O16 : OwnM l.prog w K mg base 3 C2 "__neg__" ["self"] (sp_Ratio_neg K (fun n => if n = 0 then C0 else if n = 1 then C1 else if n = 2 then C2 else 0)) := ⟨⟨pg2, hd2, po2, sa2⟩, ⟨f16, _, ok_Ratio_neg F16 T O8_2 O8_1, ⟨a16, i16, k16⟩, b16⟩⟩
  have O17 : OwnM l.prog w K mg base 3 C2 "__abs__" ["self"] (sp_Ratio_abs K (fun n => if n = 0 then C0 else if n = 1 then C1 else if n = 2 then C2 else 0)) := ⟨⟨pg2, hd2, po2, sa2⟩, ⟨f17, _, ok_Ratio_abs F17 T O8_2 O8_1, ⟨a17, i17, k17⟩, b17⟩⟩
  have O18 : Own l.prog w K mg base 5 "_law_sums_right" ["_law_a", "_law_b", "_law_one", "_law_other"] (sp_l_sums_right K (fun n => if n = 0 then C0 else if n = 1 then C1 else if n = 2 then C2 else 0)) := ⟨⟨f18, _, ok_l_sums_right F18 T O7 O10 O13 O14 O15 O16 O17, PySem.W.mg_of X G a18, k18, b18⟩⟩
  have O19 : OwnM l.prog w K mg base 5 C2 "__radd__" ["self", "other"] (sp_Ratio_radd K (fun n => if n = 0 then C0 else if n = 1 then C1 else if n = 2 then C2 else 0)) := ⟨⟨pg2, hd2, po2, sa2⟩, ⟨f19, _, ok_Ratio_radd F19 T O10, ⟨a19, i19, k19⟩, b19⟩⟩
  have O20 : OwnM l.prog w K mg base 5 C2 "__rsub__" ["self", "other"] (sp_Ratio_rsub K (fun n => if n = 0 then C0 else if n = 1 then C1 else if n = 2 then C2 else 0)) := ⟨⟨pg2, hd2, po2, sa2⟩, ⟨f20, _, ok_Ratio_rsub F20 T O9 O13, ⟨a20, i20, k20⟩, b20⟩⟩
  have O21 : OwnM l.prog w K mg base 5 C2 "__rmul__" ["self", "other"] (sp_Ratio_rmul K (fun n => if n = 0 then C0 else if n = 1 then C1 else if n = 2 then C2 else 0)) := ⟨⟨pg2, hd2, po2, sa2⟩, ⟨f21, _, ok_Ratio_rmul F21 T O14, ⟨a21, i21, k21⟩, b21⟩⟩
  have O22 : Own l.prog w K mg base 6 "_law_whole_right" ["_law_a", "_law_one", "_law_whole"] (sp_l_whole_right K (fun n => if n = 0 then C0 else if n = 1 then C1 else if n = 2 then C2 else 0)) := ⟨⟨f22, _, ok_l_whole_right F22 T O7 O8_2 O8_1 O10 O13 O14 O19 O20 O21 O15, PySem.W.mg_of X G a22, k22, b22⟩⟩
  have z : FnOk l.prog w K mg base (L2.CX l.prog w) 7 _ _ ["_law_script"] (sp_law K (fun n => if n = 0 then C0 else if n = 1 then C1 else if n = 2 then C2 else 0)) := ok_law F23 T O0 O1 O2 O12 O7 O18 O22 O8_2 O8_1 O10 O13 O14 O15
  exact z
end Lo
open PySem PySem.W PyProof.Rows in
set_option maxRecDepth 100000 in
set_option maxHeartbeats 0 in
theorem PySem.Challenge.cw_lotcosts_k11_ratios_exact_holds : PySem.Challenge.rw_lotcosts_k11_ratios_exact.Holds := by
  w_on; o_law; k_head; (case hw => w_witness2)
  k_fill
  refine Lo.walk (l := PySem.Challenge.rw_lotcosts_k11_ratios_exact) 7 ⟨rfl, by decide, by decide⟩ rfl rfl (fun w h Y => PySem.W.kIn_of Y) ?F
  case F =>
    intro w mg fa h KX G hmg
    refine' Lo.all_mk KX G hmg ?aC0 ?aC1 ?aC2 ?pg2 ?hd2 ?po2 ?sa2 ?mk2 ?kc2 ?z_abs ?z_bool ?z_int ?z_isinstance ?z_len ?z_list ?z_range ?z_gcd ?fkp_NoRatio ?fex_NoRatio ?fsb_NoRatio ?fty_NoRatio ?fna_Ratio_top ?fna_Ratio_bottom ?fic_Ratio ?fo5 ?fo6 ?fim_Ratio ?fr1_Ratio ?fr2_Ratio ?fr3_Ratio ?fr4_Ratio ?fmro_Ratio ?fr_iadd_Ratio ?fro_iadd ?fr_isub_Ratio ?fro_isub ?fr_imul_Ratio ?fro_imul ?fri_add ?fri_radd ?fri_sub ?fri_rsub ?fri_mul ?fri_rmul ?frr_radd_Ratio ?frs_radd_Ratio ?frr_rsub_Ratio ?frs_rsub_Ratio ?frr_rmul_Ratio ?frs_rmul_Ratio ?frh_add_Ratio ?frh_sub_Ratio ?frh_mul_Ratio ?fki_int_Ratio ?a0 ?l0 ?c0 ?k0 ?a1 ?l1 ?c1 ?k1 ?a2 ?l2 ?c2 ?k2 ?a3 ?l3 ?c3 ?k3 ?a4 ?l4 ?c4 ?k4 ?a5 ?l5 ?c5 ?k5 ?a6 ?l6 ?c6 ?k6 ?a7 ?l7 ?c7 ?k7 ?a8 ?i8 ?l8 ?c8 ?k8 ?t8 ?a9 ?l9 ?c9 ?k9 ?a10 ?i10 ?l10 ?c10 ?k10 ?rd2 ?ga2 ?a11 ?i11 ?l11 ?c11 ?k11 ?a12 ?l12 ?c12 ?k12 ?a13 ?i13 ?l13 ?c13 ?k13 ?a14 ?i14 ?l14 ?c14 ?k14 ?a15 ?i15 ?l15 ?c15 ?k15 ?a16 ?i16 ?l16 ?c16 ?k16 ?a17 ?i17 ?l17 ?c17 ?k17 ?a18 ?l18 ?c18 ?k18 ?a19 ?i19 ?l19 ?c19 ?k19 ?a20 ?i20 ?l20 ?c20 ?k20 ?a21 ?i21 ?l21 ?c21 ?k21 ?a22 ?l22 ?c22 ?k22 ?a23 ?l23 ?c23 ?k23
    (case aC0 => k_is)
    (case aC1 => k_is)
    (case aC2 => k_is)
    (case pg2 => k_is)
    (case hd2 => k_is)
    (case po2 => k_is)
    (case sa2 => k_is)
    (case mk2 => k_is)
    (case kc2 => k_is)
    (case z_abs => k_is)
    (case z_bool => k_is)
    (case z_int => k_is)
    (case z_isinstance => k_is)
    (case z_len => k_is)
    (case z_list => k_is)
    (case z_range => k_is)
    (case z_gcd => k_is)
    (case fkp_NoRatio => k_is)
    (case fex_NoRatio => k_exc)
    (case fsb_NoRatio => k_is)
    (case fty_NoRatio => k_is)
    (case fna_Ratio_top => k_is)
    (case fna_Ratio_bottom => k_is)
    (case fic_Ratio => k_is)
    (case fo5 => k_is)
    (case fo6 => k_is)
    (case fim_Ratio => k_is)
    (case fr1_Ratio => k_is)
    (case fr2_Ratio => k_is)
    (case fr3_Ratio => k_is)
    (case fr4_Ratio => k_is)
    (case fmro_Ratio => rfl)
    (case fr_iadd_Ratio => k_is)
    (case fro_iadd => k_is)
    (case fr_isub_Ratio => k_is)
    (case fro_isub => k_is)
    (case fr_imul_Ratio => k_is)
    (case fro_imul => k_is)
    (case fri_add => k_is)
    (case fri_radd => k_is)
    (case fri_sub => k_is)
    (case fri_rsub => k_is)
    (case fri_mul => k_is)
    (case fri_rmul => k_is)
    (case frr_radd_Ratio => k_is)
    (case frs_radd_Ratio => rfl)
    (case frr_rsub_Ratio => k_is)
    (case frs_rsub_Ratio => rfl)
    (case frr_rmul_Ratio => k_is)
    (case frs_rmul_Ratio => rfl)
    (case frh_add_Ratio => k_is)
    (case frh_sub_Ratio => k_is)
    (case frh_mul_Ratio => k_is)
    (case fki_int_Ratio => kit_is)
    (case a0 => k_is)
    (case l0 => k_is)
    (case c0 => k_is)
    (case k0 => k_is)
    (case a1 => k_is)
    (case l1 => k_is)
    (case c1 => k_is)
    (case k1 => k_is)
    (case a2 => k_is)
    (case l2 => k_is)
    (case c2 => k_is)
    (case k2 => k_is)
    (case a3 => k_is)
    (case l3 => k_is)
    (case c3 => k_is)
    (case k3 => k_is)
    (case a4 => k_is)
    (case l4 => k_is)
    (case c4 => k_is)
    (case k4 => k_is)
    (case a5 => k_is)
    (case l5 => k_is)
    (case c5 => k_is)
    (case k5 => k_is)
    (case a6 => k_is)
    (case l6 => k_is)
    (case c6 => k_is)
    (case k6 => k_is)
    (case a7 => k_is)
    (case l7 => k_is)
    (case c7 => k_is)
    (case k7 => k_is)
    (case a8 => k_is)
    (case i8 => k_is)
    (case l8 => k_is)
    (case c8 => k_is)
    (case k8 => k_is)
    (case t8 => k_is)
    (case a9 => k_is)
    (case l9 => k_is)
    (case c9 => k_is)
    (case k9 => k_is)
    (case a10 => k_is)
    (case i10 => k_is)
    (case l10 => k_is)
    (case c10 => k_is)
    (case k10 => k_is)
    (case rd2 => k_is)
    (case ga2 => k_is)
    (case a11 => k_is)
    (case i11 => k_is)
    (case l11 => k_is)
    (case c11 => k_is)
    (case k11 => k_is)
    (case a12 => k_is)
    (case l12 => k_is)
    (case c12 => k_is)
    (case k12 => k_is)
    (case a13 => k_is)
    (case i13 => k_is)
    (case l13 => k_is)
    (case c13 => k_is)
    (case k13 => k_is)
    (case a14 => k_is)
    (case i14 => k_is)
    (case l14 => k_is)
    (case c14 => k_is)
    (case k14 => k_is)
    (case a15 => k_is)
    (case i15 => k_is)
    (case l15 => k_is)
    (case c15 => k_is)
    (case k15 => k_is)
    (case a16 => k_is)
    (case i16 => k_is)
    (case l16 => k_is)
    (case c16 => k_is)
    (case k16 => k_is)
    (case a17 => k_is)
    (case i17 => k_is)
    (case l17 => k_is)
    (case c17 => k_is)
    (case k17 => k_is)
    (case a18 => k_is)
    (case l18 => k_is)
    (case c18 => k_is)
    (case k18 => k_is)
    (case a19 => k_is)
    (case i19 => k_is)
    (case l19 => k_is)
    (case c19 => k_is)
    (case k19 => k_is)
    (case a20 => k_is)
    (case i20 => k_is)
    (case l20 => k_is)
    (case c20 => k_is)
    (case k20 => k_is)
    (case a21 => k_is)
    (case i21 => k_is)
    (case l21 => k_is)
    (case c21 => k_is)
    (case k21 => k_is)
    (case a22 => k_is)
    (case l22 => k_is)
    (case c22 => k_is)
    (case k22 => k_is)
    (case a23 => k_is)
    (case l23 => k_is)
    (case c23 => k_is)
    (case k23 => k_is)
#print axioms PySem.Challenge.cw_lotcosts_k11_ratios_exact_holds
