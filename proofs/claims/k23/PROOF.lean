import PyProof.Rows.All
import Wide.All
import OpenK.AllK
import Wide.FinOn
import HandS.ForMost
import HandS.ForExc
import HandS.Flow
import HandS.Wide
import HandS.Gcd
import HandS.IsInst
import HandS.EndBits
import HandS.Defaults
import HandS.Style
import HandS.TryMany
import HandS.ExcIs
import HandS.Small
import HandS.ClsMeth
import HandS.Evl
import KE.RegKIsAll
import KE.KOpsOwn
import HandS.OwnEq
import HandS.DictComp
import HandS.Walk
import HandS.StrMore
import HandS.More
import HandS.Finally
import HandS.NoneIn
import HandS.ExcInit
import HandS.ExcField
import HandS.SetKeys
import HandS.TupSets
import PySem.Challenge.RW_lotcosts_k23_prices_that_part_forms
set_option Elab.async false
set_option linter.all false
set_option maxRecDepth 100000
set_option maxHeartbeats 4000000
namespace Lo
open PySem PySem.Spec PyProof.Rows L2

/-! ### heaps -/
theorem sget {H H' : Hp} {a : Addr} {o : HO} (s : Same H H') (h : H a = some o) : H' a = some o := s a o h
/-- all but what stands at b is as it was -/
def Keep (b : Addr) (H H' : Hp) : Prop := ∀ a o, H a = some o → a ≠ b → H' a = some o
theorem Keep.of {b : Addr} {H H' : Hp} (s : Same H H') : Keep b H H' := fun a o h _ => s a o h
theorem Keep.trans {b : Addr} {H H1 H2 : Hp} (s : Keep b H H1) (t : Keep b H1 H2) : Keep b H H2 := fun a o h n => t a o (s a o h n) n
theorem kget {b : Addr} {H H' : Hp} {a : Addr} {o : HO} (s : Keep b H H') (n : a ≠ b) (h : H a = some o) : H' a = some o := s a o h n
theorem same_upd {H : Hp} {p : Addr} {o : HO} (h : H p = none) : Same H (upd H p o) := fun a u e => by rw [upd_ne (ne_of_none e h)]; exact e
theorem keep_upd {H : Hp} {p : Addr} {o : HO} : Keep p H (upd H p o) := fun a u e n => by rw [upd_ne n]; exact e
theorem same_put {H H' : Hp} {p : Addr} {o : HO} (n : H p = none) (s : Same H H') : Same H (upd H' p o) := fun a u e => by rw [upd_ne (ne_of_none e n)]; exact s a u e
theorem gen_new {H G : Hp} {p : Addr} {o : HO} (n : H p = none) (g : upd H p o = G) : Same H G ∧ G p = some o := by
  subst g
  exact ⟨same_upd n, upd_same⟩
theorem gen_put {H G : Hp} {p : Addr} {o : HO} (g : upd H p o = G) : Keep p H G ∧ G p = some o := by
  subst g
  exact ⟨keep_upd, upd_same⟩
theorem SqL.same {K : PySem.W.Frag} {H H' : Hp} {a : Addr} {xs : List V} (s : Same H H') (h : SqL K H a xs) : SqL K H' a xs := s.seq h

/-! ### a word between an expression and what follows -/
def tMid (t : TE) : TE := fun σ H Q => ∃ M : V → Hp → Prop, t σ H M ∧ ∀ v H', M v H' → Q v H'
theorem pe_mid {X : Cx} {e : Expr} {t : TE} (h : PE X e t) : PE X e (tMid t) := ⟨fun pins s σ H Q I ⟨M, hm, hq⟩ => thn (h.run pins s σ H M I hm) fun u s1 ⟨v, H1, I1, r, m⟩ => ⟨v, H1, I1, r, hq v H1 m⟩⟩
def tMidT (t : TT) : TT := fun σ H Q => ∃ M : Bool → Hp → Prop, t σ H M ∧ ∀ v H', M v H' → Q v H'
theorem pt_mid {X : Cx} {e : Expr} {t : TT} (h : PT X e t) : PT X e (tMidT t) := ⟨fun pins s σ H Q I ⟨M, hm, hq⟩ => thn (h.run pins s σ H M I hm) fun b s1 ⟨H1, I1, m⟩ => ⟨H1, I1, hq b H1 m⟩⟩
/-! ### own defs, as their callers see them -/
structure Own (P : Program) (w : World) (K : PySem.W.Frag) (mg : Str → Option Value) (base : Heap) (k : Nat) (x : Str) (ps : List Str) (sp : Sp) : Prop where
  ex : ∃ f fd, FnOk P w K mg base (L2.CX P w) k f fd ps sp ∧ mg x = some (.ref f) ∧ PySem.W.keepIn K (.ref f) = true ∧ Binds K fd ps []
structure OwnM (P : Program) (w : World) (K : PySem.W.Frag) (mg : Str → Option Value) (base : Heap) (k : Nat) (C : Addr) (m : Str) (ps : List Str) (sp : Sp) : Prop where
  cl : Cls K C
  ex : ∃ f fd, FnOk P w K mg base (L2.CX P w) k f fd ps sp ∧ Meth K C m f ∧ Binds K fd ps []
structure OwnI (P : Program) (w : World) (K : PySem.W.Frag) (mg : Str → Option Value) (base : Heap) (k : Nat) (x : Str) (C : Addr) (ps : List Str) (dvs : List V) (sp : Sp) : Prop where
  ex : ∃ f fd ds, FnOk P w K mg base (L2.CX P w) k f fd ps sp ∧ Mk K C f ∧ mg x = some (.ref C) ∧ Binds K fd ps ds ∧ Vals dvs ds

section
variable {X : Cx} {k : Nat} {C : Addr} {ps : List Str} {sp : Sp} {E : L2.St → XK} {x m : Str} {p pos apos : Pos} {e o : Expr} {es : List Expr} {ta : TE} {t : TA} {dvs : List V}

theorem pas0 {X : Cx} : ∀ σ, PassesAt (L2.CX X.prog X.w) X σ ((fun _ => E0) σ) := fun σ pins H s e s' I h => by
  obtain ⟨_, _, _, _, _, _, _, _, _, _, _, _, z⟩ := h
  exact z.elim
theorem pasE {X : Cx} {E : XK} (tk : Takes X (fun cls d _ H => E cls d H)) : ∀ σ, PassesAt (L2.CX X.prog X.w) X σ ((fun _ => E) σ) := fun σ => passAt (W := fun cls d _ H => E cls d H) tk σ
theorem pe_own (O : Own X.prog X.w X.K X.mg X.base k x ps sp) (hr : Room k X.A) (hg : Gl X x) (hx : ∀ σ, PassesAt (L2.CX X.prog X.w) X σ (E σ)) (ha : PA X (e :: es) t)
    (hdb : (x == ("__debug__" : Str)) = false := by decide) (he : starEach (e :: es) X.env = (false, eval e X.env) :: starEach es X.env := by rfl) (hpl : (backTo pos (starEach es X.env)).any (·.1) = false := by rfl) :
    PE X (.Call (.Name x p) (e :: es) [] pos) (tCallS sp E t) := by
  obtain ⟨f, fd, F, hm, hk, hb⟩ := O.ex
  exact pe_callS F hr hg hm hk hb hx ha hdb he hpl

def tMethS (C : Addr) (m : Str) (sp : Sp) (E : L2.St → XK) (ta : TE) (t : TA) : TE := fun σ H Q => ta σ H fun x H1 => ∃ a dx fs, x = .ref a ∧ H1 a = some (.ins C dx fs) ∧ fs.lookup m = none ∧
  t σ H1 fun vs H2 => sp (x :: vs) H2 Q (E σ)
theorem pe_ownm {pl : Sem Bool} (O : OwnM X.prog X.w X.K X.mg X.base k C m ps sp) (he : PE X o ta) (hr : Room k X.A) (hx : ∀ σ, PassesAt (L2.CX X.prog X.w) X σ (E σ)) (ha : PA X (e :: es) t)
    (hst : starEach (e :: es) X.env = (false, eval e X.env) :: starEach es X.env := by rfl) (hpl : (backTo pos (starEach es X.env)).any (·.1) = false := by rfl)
    (ht : eval (.Call (.Attribute o m apos) (e :: es) [] pos) X.env = (do
      let ov ← eval o X.env
      standAt apos.atName
      let (f, first) ← holding [ov] (getMethod ov m pl)
      callWith pos f first (backTo pos (starEach (e :: es) X.env)) (backToKw pos (keywordEach [] X.env))) := by rfl) :
    PE X (.Call (.Attribute o m apos) (e :: es) [] pos) (tMethS C m sp E ta t) := by
  obtain ⟨f, fd, F, hm, hb⟩ := O.ex
  refine ⟨fun pins s σ H Q I h => ?_⟩
  refine PySem.W.methodCall_KW (pl := pl) (thn (he.run pins s σ H _ I h) fun u s1 ⟨x, H1, I1, rx, a, dx, fs, ex, ea, l, q⟩ => ?_) ht
  subst ex
  obtain rfl : u = Value.ref a := rx
  refine getmeth_ok I1 ea O.cl hm l ?_
  refine PySem.W.callWith_K (first := [.ref a]) (h₀ := X.base) I.ok.mod.kin hm.kp (thn (ha.run pos pins s1 σ H1 _ I1 q) fun us s2 ⟨vs, H2, I2, r, q2⟩ => ⟨I2.kIn, ?_⟩) hst hpl
  exact run_fnS (us := .ref a :: us) (vs := .ref a :: vs) F hr hb (hx σ) I2 (.cons rfl r) q2
theorem pe_ownm0 {pl : Sem Bool} (O : OwnM X.prog X.w X.K X.mg X.base k C m ps sp) (he : PE X o ta) (hr : Room k X.A) (hx : ∀ σ, PassesAt (L2.CX X.prog X.w) X σ (E σ))
    (ht : eval (.Call (.Attribute o m apos) [] [] pos) X.env = (do
      let ov ← eval o X.env
      standAt apos.atName
      let (f, first) ← holding [ov] (getMethod ov m pl)
      callWith pos f first (backTo pos (starEach [] X.env)) (backToKw pos (keywordEach [] X.env))) := by rfl) :
    PE X (.Call (.Attribute o m apos) [] [] pos) (tMethS C m sp E ta tNil) := by
  obtain ⟨f, fd, F, hm, hb⟩ := O.ex
  refine ⟨fun pins s σ H Q I h => ?_⟩
  refine PySem.W.methodCall_KW (pl := pl) (thn (he.run pins s σ H _ I h) fun u s1 ⟨x, H1, I1, rx, a, dx, fs, ex, ea, l, q⟩ => ?_) ht
  subst ex
  obtain rfl : u = Value.ref a := rx
  refine getmeth_ok I1 ea O.cl hm l ?_
  exact PySem.W.callWith_K0 (first := [.ref a]) I1.kIn hm.kp (run_fnS (us := [.ref a]) (vs := [.ref a]) F hr hb (hx σ) I1 (.cons rfl .nil) q)

def tMakeS (C : Addr) (sp : Sp) (dvs : List V) (E : L2.St → XK) (t : TA) : TE := fun σ H Q => t σ H fun vs H1 => ∀ x dx, H1 x = none → H1 dx = none → dx ≠ x →
  sp (.ref x :: (vs ++ dvs)) (upd (upd H1 dx (.own x)) x (.ins C dx [])) (fun v H2 => v = .non ∧ Q (.ref x) H2) (E σ)
theorem run_makeS {f : Addr} {fd : FuncData} {ds : List Value} {pins : List (Addr × Obj)} {σ : L2.St} {H : Hp} {s : Shared} {Q : VK} {us : List Value} {vs : List V} (M : Mk X.K C f) (F : FnOk X.prog X.w X.K X.mg X.base (L2.CX X.prog X.w) k f fd ps sp)
    (hr : Room (k + 1) X.A) (hb : Binds X.K fd ps ds) (hd : Vals dvs ds) (hx : PassesAt (L2.CX X.prog X.w) X σ (E σ)) (I : Inv X pins σ H s) (r : Vals vs us)
    (h : ∀ x dx, H x = none → H dx = none → dx ≠ x → sp (.ref x :: (vs ++ dvs)) (upd (upd H dx (.own x)) x (.ins C dx [])) (fun v H2 => v = .non ∧ Q (.ref x) H2) (E σ)) :
    wpAny (model X.prog X.w) X.A (call (.ref C) us) (EP X pins σ Q) X.xe s := by
  have hq := h (s.heap.objs.size + 1) s.heap.objs.size (I.hok.fresh (Nat.le_succ _)) (I.hok.fresh (Nat.le_refl _)) (Nat.ne_of_lt (Nat.lt_succ_self _))
  have I2 := Inv.made (C := C) I
  have r2 : Vals (V.ref (s.heap.objs.size + 1) :: (vs ++ dvs)) (Value.ref (s.heap.objs.size + 1) :: (us ++ ds)) := .cons rfl (r.append hd)
  have hl : (Value.ref (s.heap.objs.size + 1) :: us ++ ds).length = ps.length := by
    have e := r2.length
    rw [F.len _ _ _ _ hq] at e
    exact e.symm
  refine wpAny_call (make_map (f := f) I.kIn M.makes M.init (beq_iff_eq.mp M.fn) (codeAny_mono (F.run _ X.stack _ _ ⟨Value.ref (s.heap.objs.size + 1) :: us, []⟩ (Value.ref (s.heap.objs.size + 1) :: (us ++ ds)) _ _ (E σ) (hr.make C us [])
    (I2.env0.make C us []) (hb _ (Value.ref (s.heap.objs.size + 1) :: us) I2.kIn hl) r2 hq) fun r s' hq' => ?_))
  cases r with
  | error e => exact hx pins _ _ e s' I2 hq'
  | ok fl =>
    cases fl with
    | ret u =>
      obtain ⟨v, H', I3, rv, ev, q3⟩ := I2.after hq'
      subst ev
      exact ⟨rv, ⟨V.ref (s.heap.objs.size + 1), H', I3, rfl, q3⟩⟩
    | next => exact False.elim hq'
    | brk => exact False.elim hq'
    | cont => exact False.elim hq'
theorem pe_owni (O : OwnI X.prog X.w X.K X.mg X.base k x C ps dvs sp) (hr : Room (k + 1) X.A) (hg : Gl X x) (hx : ∀ σ, PassesAt (L2.CX X.prog X.w) X σ (E σ)) (ha : PA X (e :: es) t)
    (hdb : (x == ("__debug__" : Str)) = false := by decide) (he : starEach (e :: es) X.env = (false, eval e X.env) :: starEach es X.env := by rfl) (hpl : (backTo pos (starEach es X.env)).any (·.1) = false := by rfl) :
    PE X (.Call (.Name x p) (e :: es) [] pos) (tMakeS C sp dvs E t) := by
  obtain ⟨f, fd, ds, F, M, hm, hb, hd⟩ := O.ex
  refine ⟨fun pins s σ H Q I h => ?_⟩
  refine wpAny_Call_Name_kw (ld_glob I hg hm ?_ hdb)
  refine PySem.W.callWith_K (h₀ := X.base) I.ok.mod.kin M.kp (thn (ha.run pos pins s σ H _ I h) fun us s1 ⟨vs, H1, I1, r, q⟩ => ⟨I1.kIn, ?_⟩) he hpl
  exact run_makeS M F hr hb hd (hx σ) I1 r q
end

def rLenSeq (K : PySem.W.Frag) : List V → Hp → VK → Prop := fun xs H Q => ∃ p ys, xs = [V.ref p] ∧ (SqL K H p ys ∨ SqT K H p ys) ∧ Q (.int ys.length) H
/-! ### own operators -/
section
open PySem.W
section
variable {prog : Program} {w : World} {A : Around} {E : Value → Shared → Prop} {s : Shared} {i : Int} {t : Tok} {x C dx f g : Addr} {K : Frag} {ox : Obj} {od : Option Obj} {nm : String} {Q : Option Value → Shared → Prop} {rc fo ro : Option Value}
theorem slot_fills {M : Model} {h : Heap} (X : K.In h) (hc : selfFirst K C = true) (hs : findIn K (.ref C) (PySem.dunder nm) = some (some (.ref f))) : Looks M h (fillsNumberSlot (.ref C) nm) true := by
  obtain ⟨cd, rest, hcd, hm⟩ := ksp_first hc
  exact fills_K X hcd hm hs
/-- what an own method answers is no NotImplemented -/
theorem bin1_same {b : Value} (X : K.In s.heap) (I : InstAt s.heap x ox C od) (hb : Looks (model prog w) s.heap (typeOf b) (.ref C)) (hc : selfFirst K C = true) (hs : findIn K (.ref C) (PySem.dunder nm) = some (some (.ref f))) (hf : isFn K (.ref f) = true)
    (h : wpAny (model prog w) A (call (.ref f) [.ref x, b]) (PySem.W.CmpBack fun v => Q (some v)) E s) : wpAny (model prog w) A (binaryOp1 nm (.ref x) b) Q E s := by
  have one := ksp_try X I hs hf h
  have L3 : Looks (model prog w) s.heap (fillsNumberSlot (.ref C) nm) true := slot_fills X hc hs
  have L1 : Looks (model prog w) s.heap (typeOf (.ref x)) (.ref C) := I.type
  obtain ⟨hh, gg, d, tt, os⟩ := s
  unfold binaryOp1
  refine wpAny_bind (L1.at (wpAny_bind (hb.at (wpAny_bind (L3.at ?_)))))
  simp only [beq_self_eq_true, if_true]
  ksp_lk
  refine wpAny_mono one (fun r s' hr => ?_) fun _ _ e => e
  obtain ⟨v, rfl, hq⟩ := hr
  ksp_lk
  exact hq
theorem bin1_int (X : K.In s.heap) (I : InstAt s.heap x ox C od) (hc : selfFirst K C = true) (hs : findIn K (.ref C) (PySem.dunder nm) = some (some (.ref f))) (hf : isFn K (.ref f) = true) (hr : findIn K (.ref C) (dunderR nm) = some rc) (hp : rc = none ∨ ∃ g : Addr, rc = some (.ref g))
    (h1 : findIn K (.type "int") (PySem.dunder nm) = some fo) (h2 : findIn K (.type "int") (dunderR nm) = some ro) (hsub : subIn K (.type "int") (.ref C) = some false)
    (h : wpAny (model prog w) A (call (.ref f) [.ref x, .int i t]) (PySem.W.CmpBack fun v => Q (some v)) E s) : wpAny (model prog w) A (binaryOp1 nm (.ref x) (.int i t)) Q E s := by
  have one := ksp_try X I hs hf h
  have L3 : Looks (model prog w) s.heap (fillsNumberSlot (.ref C) nm) true := slot_fills X hc hs
  have L1 : Looks (model prog w) s.heap (typeOf (.ref x)) (.ref C) := I.type
  have L2 : Looks (model prog w) s.heap (typeOf (.int i t)) (.type "int") := Looks.of_pure rfl
  have L4 : Looks (model prog w) s.heap (fillsNumberSlot (.type "int") nm) ((fo.isSome && !isSeqSlot fo) || (ro.isSome && !isSeqSlot ro)) := ksp_fillsT X h1 h2
  have L5 : Looks (model prog w) s.heap (isSubtype (.type "int") (.ref C)) false := looks_subIn X hsub
  have L6 : Looks (model prog w) s.heap (numberSlotInPython (.ref C) nm) true := ksp_inPy X hs hr hp
  have L7 : Looks (model prog w) s.heap (numberSlotInPython (.type "int") nm) false := Looks.of_pure rfl
  have L8 : Looks (model prog w) s.heap (typeLookup (.type "int") (dunderR nm)) ro := looks_findIn X h2
  have hne : (Value.ref C == Value.type "int") = false := Bool.eq_false_iff.mpr fun q => by cases beq_iff_eq.mp q
  obtain ⟨hh, gg, d, tt, os⟩ := s
  generalize ((fo.isSome && !isSeqSlot fo) || (ro.isSome && !isSeqSlot ro)) = right at L4
  unfold binaryOp1
  refine wpAny_bind (L1.at (wpAny_bind (L2.at (wpAny_bind (L3.at ?_)))))
  simp only [hne, Bool.false_eq_true, if_false]
  cases right <;>
  · ksp_lk
    refine wpAny_mono one (fun r s' hr => ?_) fun _ _ e => e
    obtain ⟨v, rfl, hq⟩ := hr
    ksp_lk
    exact hq
theorem bin1_refl (X : K.In s.heap) (I : InstAt s.heap x ox C od) (hc : selfFirst K C = true) (hs : findIn K (.ref C) (PySem.dunder nm) = some (some (.ref g))) (hr : findIn K (.ref C) (dunderR nm) = some (some (.ref f))) (hf : isFn K (.ref f) = true)
    (fills : fillsNumberSlot (.type "int") nm = pure true) (hsub : subIn K (.ref C) (.type "int") = some false)
    (decl : ∀ Q : Option Value → Shared → Prop, Q none s → wpAny (model prog w) A (tryMethod (.int i t) (PySem.dunder nm) (.ref x)) Q E s)
    (h : wpAny (model prog w) A (call (.ref f) [.ref x, .int i t]) (PySem.W.CmpBack fun v => Q (some v)) E s) : wpAny (model prog w) A (binaryOp1 nm (.int i t) (.ref x)) Q E s := by
  have one := ksp_try X I hr hf h
  have L3 : Looks (model prog w) s.heap (fillsNumberSlot (.ref C) nm) true := slot_fills X hc hs
  have L1 : Looks (model prog w) s.heap (typeOf (.ref x)) (.ref C) := I.type
  have L2 : Looks (model prog w) s.heap (typeOf (.int i t)) (.type "int") := Looks.of_pure rfl
  have L4 : Looks (model prog w) s.heap (fillsNumberSlot (.type "int") nm) true := Looks.of_pure fills
  have L5 : Looks (model prog w) s.heap (isSubtype (.ref C) (.type "int")) false := looks_subIn X hsub
  have L7 : Looks (model prog w) s.heap (numberSlotInPython (.type "int") nm) false := Looks.of_pure rfl
  have hne : (Value.type "int" == Value.ref C) = false := Bool.eq_false_iff.mpr fun q => by cases beq_iff_eq.mp q
  obtain ⟨hh, gg, d, tt, os⟩ := s
  unfold binaryOp1
  refine wpAny_bind (L2.at (wpAny_bind (L1.at (wpAny_bind (L4.at ?_)))))
  simp only [hne, Bool.false_eq_true, if_false]
  ksp_lk
  refine decl _ ?_
  ksp_lk
  refine wpAny_mono one (fun r s' hr => ?_) fun _ _ e => e
  obtain ⟨v, rfl, hq⟩ := hr
  ksp_lk
  exact hq
end
end

/-! ### own arithmetic -/
section
variable {prog : Program} {w : World} {A : Around} {E : Value → Shared → Prop} {s : Shared} {i : Int} {t : Tok} {x C dx : Addr}
theorem int_declines {id : String} {B : Builtin} {nm : Str} {name : String} {f : Int → Int → Sem Fin} (slot : Slot "int" nm id) (entry : entryFor table id = some B) (args : ∀ a b : Value, argsOk id ⟨[a, b], []⟩) (hB : B = Builtin.Int.intBinary name f) (hx : s.heap.get? x = some (PySem.W.instObj C dx))
    (Q : Option Value → Shared → Prop) (h : Q none s) : wpAny (model prog w) A (tryMethod (.int i t) nm (.ref x)) Q E s := by
  refine wpAny_tryMethod_declines (typeIs_int s i t) slot (wpAny_call_entry slot (typeIs_int s i t) entry ?_ (args _ _))
  rw [hB]
  unfold Builtin.Int.intBinary
  obtain ⟨hp, g, d, tk, os⟩ := s
  wp_walk using wpAny_load' hx
  exact ⟨_, rfl, rfl, h⟩
theorem bin_of1 {op : Operator} {a b : Value} {Q : Value → Shared → Prop} (h : wpAny (model prog w) A (binaryOp1 op.info.2 a b) (fun r s' => ∃ v, r = some v ∧ Q v s') E s) : wpAny (model prog w) A (binaryOp op a b) Q E s := by
  unfold binaryOp
  refine wpAny_holding (wpAny_bind (wpAny_mono h (fun r s' hr => ?_) fun _ _ e => e))
  obtain ⟨v, rfl, hq⟩ := hr
  exact wpAny_pure hq
theorem inp_of1 {op : Operator} {a b ta : Value} {Q : Value → Shared → Prop} (ht : PySem.W.Looks (model prog w) s.heap (typeOf a) ta) (hn : PySem.W.Looks (model prog w) s.heap (fillsInplaceSlot ta op.info.2 (op == .Add)) false)
    (h : wpAny (model prog w) A (binaryOp1 op.info.2 a b) (fun r s' => ∃ v, r = some v ∧ Q v s') E s) : wpAny (model prog w) A (inplaceOp op a b) Q E s := by
  unfold inplaceOp
  refine wpAny_holding (wpAny_bind (ht.here (wpAny_bind (hn.here ?_))))
  simp only [Bool.false_eq_true, if_false]
  refine wpAny_bind (wpAny_mono h (fun r s' hr => ?_) fun _ _ e => e)
  obtain ⟨v, rfl, hq⟩ := hr
  exact wpAny_pure hq
end
section
variable {prog : Program} {w : World} {A : Around} {E : Value → Shared → Prop} {s : Shared} {x C : Addr} {K : PySem.W.Frag} {cd : ClassData}
theorem no_inplace {M : Model} {h : Heap} {nm : String} {add : Bool} (X : K.In h) (hc : PySem.W.clsIn K C = some cd) (hm : cd.mro = [.ref C, .type "object"]) (h1 : PySem.W.findIn K (.ref C) (dunderI nm) = some none) (h2 : PySem.W.findIn K (.type "object") (dunderI nm) = some none) :
    PySem.W.Looks M h (fillsInplaceSlot (.ref C) nm add) false := by
  intro A Q E s k q
  have Lm : PySem.W.Looks M h (mroOf (.ref C)) cd.mro := (PySem.W.looks_clsIn X hc).andThen (f := fun cd => pure cd.mro) .now
  have L1 : PySem.W.Looks M h (typeLookup (.ref C) (dunderI nm)) none := PySem.W.looks_findIn X h1
  have L2 : PySem.W.Looks M h (typeLookup (.type "object") (dunderI nm)) none := PySem.W.looks_findIn X h2
  unfold fillsInplaceSlot
  refine wpAny_bind (Lm.keeps k |>.here ?_)
  rw [hm, List.anyM_cons]
  refine wpAny_bind (wpAny_bind ((L1.keeps k).here ?_))
  refine wpAny_pure ?_
  rw [List.anyM_cons]
  refine wpAny_bind (wpAny_bind ((L2.keeps k).here ?_))
  refine wpAny_pure ?_
  exact wpAny_pure q
end

/-- what the written part says of a class with own + - * -/
def refOr : Option Value → Bool
  | none => true
  | some (.ref _) => true
  | _ => false
theorem refOr_of {r : Option Value} (h : refOr r = true) : r = none ∨ ∃ g : Addr, r = some (.ref g) := by
  unfold refOr at h
  split at h
  · exact .inl rfl
  · exact .inr ⟨_, rfl⟩
  · cases h
structure Arith (K : PySem.W.Frag) (C : Addr) : Prop where
  sf : PySem.W.selfFirst K C = true
  s1 : PySem.W.subIn K (.type "int") (.ref C) = some false
  s2 : PySem.W.subIn K (.ref C) (.type "int") = some false
  mro : ∃ cd, PySem.W.clsIn K C = some cd ∧ cd.mro = [.ref C, .type "object"]
  ia : PySem.W.findIn K (.ref C) "__iadd__" = some none ∧ PySem.W.findIn K (.type "object") "__iadd__" = some none
  isb : PySem.W.findIn K (.ref C) "__isub__" = some none ∧ PySem.W.findIn K (.type "object") "__isub__" = some none
  im : PySem.W.findIn K (.ref C) "__imul__" = some none ∧ PySem.W.findIn K (.type "object") "__imul__" = some none
  ofInt : ∃ a b c d e f, PySem.W.findIn K (.type "int") "__add__" = some a ∧ PySem.W.findIn K (.type "int") "__radd__" = some b ∧ PySem.W.findIn K (.type "int") "__sub__" = some c ∧ PySem.W.findIn K (.type "int") "__rsub__" = some d ∧
    PySem.W.findIn K (.type "int") "__mul__" = some e ∧ PySem.W.findIn K (.type "int") "__rmul__" = some f
  refl : ∃ a b c, (PySem.W.findIn K (.ref C) "__radd__" = some a ∧ refOr a = true) ∧ (PySem.W.findIn K (.ref C) "__rsub__" = some b ∧ refOr b = true) ∧ PySem.W.findIn K (.ref C) "__rmul__" = some c ∧ refOr c = true
  has : ∃ a b c : Addr, PySem.W.findIn K (.ref C) "__add__" = some (some (.ref a)) ∧ PySem.W.findIn K (.ref C) "__sub__" = some (some (.ref b)) ∧ PySem.W.findIn K (.ref C) "__mul__" = some (some (.ref c))
inductive AOp | add | sub | mul
def AOp.op : AOp → Operator | .add => .Add | .sub => .Sub | .mul => .Mult
def AOp.m : AOp → Str | .add => "__add__" | .sub => "__sub__" | .mul => "__mul__"
def AOp.r : AOp → Str | .add => "__radd__" | .sub => "__rsub__" | .mul => "__rmul__"
def AOp.i : AOp → Str | .add => "__iadd__" | .sub => "__isub__" | .mul => "__imul__"
theorem AOp.em (o : AOp) : PySem.dunder o.op.info.2 = o.m := by cases o <;> decide +kernel
theorem AOp.er (o : AOp) : dunderR o.op.info.2 = o.r := by cases o <;> decide +kernel
theorem AOp.ei (o : AOp) : dunderI o.op.info.2 = o.i := by cases o <;> decide +kernel
theorem AOp.fills (o : AOp) : fillsNumberSlot (.type "int") o.op.info.2 = pure true := by
  cases o
  · exact F.fills_int_add
  · exact F.fills_int_sub
  · exact F.fills_int_mul
theorem AOp.decl {prog : Program} {w : World} {A : Around} {E : Value → Shared → Prop} {s : Shared} {i : Int} {t : Tok} {x C dx : Addr} (o : AOp) (hx : s.heap.get? x = some (PySem.W.instObj C dx)) (Q : Option Value → Shared → Prop) (h : Q none s) :
    wpAny (model prog w) A (tryMethod (.int i t) (PySem.dunder o.op.info.2) (.ref x)) Q E s := by
  cases o
  · exact int_declines F.slot_int_add F.entry_int_add F.args_int_add_2 rfl hx Q h
  · exact int_declines F.slot_int_sub F.entry_int_sub F.args_int_sub_2 rfl hx Q h
  · exact int_declines F.slot_int_mul F.entry_int_mul F.args_int_mul_2 rfl hx Q h
section
variable {X : Cx} {k k' : Nat} {C : Addr} {m : Str} {ps ps' : List Str} {sp sp' : Sp} {E : XK}
/-- an instance of C on the left, an int or such an instance on the right -/
def rOwn (C : Addr) (sp : Sp) (E : XK) : R2 := fun x y H Q => ∃ a dx fs, x = .ref a ∧ H a = some (.ins C dx fs) ∧ ((∃ i, y = .int i) ∨ ∃ b dy gs, y = .ref b ∧ H b = some (.ins C dy gs)) ∧ sp [x, y] H Q E
/-- an int on the left -/
def rRefl (C : Addr) (sp : Sp) (E : XK) : R2 := fun x y H Q => ∃ i b dy gs, x = .int i ∧ y = .ref b ∧ H b = some (.ins C dy gs) ∧ sp [y, x] H Q E
def rUna (C : Addr) (sp : Sp) (E : XK) : V → Hp → VK → Prop := fun x H Q => ∃ a dx fs, x = .ref a ∧ H a = some (.ins C dx fs) ∧ sp [x] H Q E
theorem back_of {pins : List (Addr × Obj)} {σ : L2.St} {Q : VK} {u : Value} {s' : Shared} {R : Value → Shared → Prop} (h : EP X pins σ Q u s') (k : ∀ u s', EP X pins σ Q u s' → R u s') : PySem.W.CmpBack R u s' := by
  obtain ⟨v, H', I, r, q⟩ := id h
  cases u with
  | notImplemented =>
    cases v <;> simp [L2.RelV] at r
  | _ => exact k _ _ h
theorem inst_at {pins : List (Addr × Obj)} {σ : L2.St} {H : Hp} {s : Shared} {a dx : Addr} {fs : List (Str × V)} (I : Inv X pins σ H s) (e : H a = some (.ins C dx fs)) : s.heap.get? a = some (PySem.W.instObj C dx) ∧ ∃ od, PySem.W.InstAt s.heap a (PySem.W.instObj C dx) C (some od) := by
  obtain ⟨mA, J, _⟩ := ins_get I.hok e
  obtain ⟨od, J2, _⟩ := J.look
  exact ⟨J.obj, od, J2⟩
theorem bin1_own (o : AOp) (A : Arith X.K C) (O : OwnM X.prog X.w X.K X.mg X.base k C o.m ps sp) (hr : Room k X.A) (hx : Passes (L2.CX X.prog X.w) X E)
    {pins : List (Addr × Obj)} {s : Shared} {σ : L2.St} {H : Hp} {x y : V} {v u : Value} {Q : VK} (I : Inv X pins σ H s) (rx : RelV x v) (ry : RelV y u) (h : rOwn C sp E x y H Q) :
    wpAny (model X.prog X.w) X.A (binaryOp1 o.op.info.2 v u) (fun r s' => ∃ z, r = some z ∧ EP X pins σ Q z s') X.xe s := by
  obtain ⟨a, dx, fs, rfl, ha, hy, hsp⟩ := h
  obtain rfl : v = Value.ref a := rx
  obtain ⟨f, fd, Fo, hm, hb⟩ := O.ex
  obtain ⟨_, od, J⟩ := inst_at I ha
  have h1 : PySem.W.findIn X.K (.ref C) (PySem.dunder o.op.info.2) = some (some (.ref f)) := by rw [o.em]; exact hm.at_
  obtain ⟨rc, h2, hrc⟩ : ∃ rc, PySem.W.findIn X.K (.ref C) (dunderR o.op.info.2) = some rc ∧ refOr rc = true := by
    rw [o.er]
    obtain ⟨a, b, c, q1, q2, q3⟩ := A.refl
    cases o
    · exact ⟨_, q1⟩
    · exact ⟨_, q2⟩
    · exact ⟨_, q3⟩
  have run := run_fn (us := [.ref a, u]) (vs := [.ref a, y]) (dvs := []) Fo hr hb .nil hx I (.cons rfl (.cons ry .nil)) hsp
  have run2 := wpAny_mono run (fun u s' q => back_of (R := fun v s' => ∃ z, some v = some z ∧ EP X pins σ Q z s') q fun v s' q => ⟨v, rfl, q⟩) fun _ _ e => e
  rcases hy with ⟨i, rfl⟩ | ⟨b, dy, gs, rfl, hb'⟩
  · obtain ⟨t, rfl⟩ := ry
    obtain ⟨fo, ro, e1, e2⟩ : ∃ fo ro, PySem.W.findIn X.K (.type "int") (PySem.dunder o.op.info.2) = some fo ∧ PySem.W.findIn X.K (.type "int") (dunderR o.op.info.2) = some ro := by
      rw [o.em, o.er]
      obtain ⟨p1, p2, p3, p4, p5, p6, q1, q2, q3, q4, q5, q6⟩ := A.ofInt
      cases o
      · exact ⟨_, _, q1, q2⟩
      · exact ⟨_, _, q3, q4⟩
      · exact ⟨_, _, q5, q6⟩
    exact bin1_int I.kIn J A.sf h1 hm.fn h2 (refOr_of hrc) e1 e2 A.s1 run2
  · obtain rfl : u = Value.ref b := ry
    obtain ⟨_, od', J'⟩ := inst_at I hb'
    exact bin1_same I.kIn J J'.type A.sf h1 hm.fn run2
theorem op_own (o : AOp) (A : Arith X.K C) (O : OwnM X.prog X.w X.K X.mg X.base k C o.m ps sp) (hr : Room k X.A) (hx : Passes (L2.CX X.prog X.w) X E) : OpR X (binaryOp o.op) (rOwn C sp E) :=
  fun _ _ _ _ _ _ _ _ _ I rx ry h => bin_of1 (bin1_own o A O hr hx I rx ry h)
theorem iop_own (o : AOp) (A : Arith X.K C) (O : OwnM X.prog X.w X.K X.mg X.base k C o.m ps sp) (hr : Room k X.A) (hx : Passes (L2.CX X.prog X.w) X E) : OpR X (inplaceOp o.op) (rOwn C sp E) := by
  intro pins s σ H x y v u Q I rx ry h
  have one := bin1_own o A O hr hx I rx ry h
  obtain ⟨a, dx, fs, rfl, ha, _, _⟩ := h
  obtain rfl : v = Value.ref a := rx
  obtain ⟨_, od, J⟩ := inst_at I ha
  obtain ⟨cd, hcd, hmro⟩ := A.mro
  refine inp_of1 J.type (no_inplace I.kIn hcd hmro ?_ ?_) one
  · rw [o.ei]
    cases o
    · exact A.ia.1
    · exact A.isb.1
    · exact A.im.1
  · rw [o.ei]
    cases o
    · exact A.ia.2
    · exact A.isb.2
    · exact A.im.2
theorem op_refl (o : AOp) (A : Arith X.K C) (R : OwnM X.prog X.w X.K X.mg X.base k C o.r ps sp) (hr : Room k X.A) (hx : Passes (L2.CX X.prog X.w) X E) : OpR X (binaryOp o.op) (rRefl C sp E) := by
  intro pins s σ H x y v u Q I rx ry h
  obtain ⟨i, b, dy, gs, rfl, rfl, hb, hsp⟩ := h
  obtain ⟨t, rfl⟩ := rx
  obtain rfl : u = Value.ref b := ry
  obtain ⟨f, fd, Fo, hm, hbd⟩ := R.ex
  obtain ⟨hobj, od, J⟩ := inst_at I hb
  obtain ⟨g, h1⟩ : ∃ g : Addr, PySem.W.findIn X.K (.ref C) (PySem.dunder o.op.info.2) = some (some (.ref g)) := by
    rw [o.em]
    obtain ⟨a, b, c, q1, q2, q3⟩ := A.has
    cases o
    · exact ⟨_, q1⟩
    · exact ⟨_, q2⟩
    · exact ⟨_, q3⟩
  have h2 : PySem.W.findIn X.K (.ref C) (dunderR o.op.info.2) = some (some (.ref f)) := by rw [o.er]; exact hm.at_
  have run := run_fn (us := [.ref b, .int i t]) (vs := [.ref b, .int i]) (dvs := []) Fo hr hbd .nil hx I (.cons rfl (.cons ⟨t, rfl⟩ .nil)) hsp
  exact bin_of1 (bin1_refl I.kIn J A.sf h1 h2 hm.fn o.fills A.s2 (fun Q h => o.decl hobj Q h) (wpAny_mono run (fun u s' q => back_of (R := fun v s' => ∃ z, some v = some z ∧ EP X pins σ Q z s') q fun v s' q => ⟨v, rfl, q⟩) fun _ _ e => e))
theorem un_negOwn (O : OwnM X.prog X.w X.K X.mg X.base k C "__neg__" ps sp) (hr : Room k X.A) (hx : Passes (L2.CX X.prog X.w) X E) : UnR X (unaryOp .USub) (rUna C sp E) := by
  intro pins s σ H x v Q I rx h
  obtain ⟨a, dx, fs, rfl, ha, hsp⟩ := h
  obtain rfl : v = Value.ref a := rx
  obtain ⟨f, fd, Fo, hm, hb⟩ := O.ex
  obtain ⟨_, od, J⟩ := inst_at I ha
  have run := run_fn (us := [.ref a]) (vs := [.ref a]) (dvs := []) Fo hr hb .nil hx I (.cons rfl .nil) hsp
  unfold unaryOp
  refine wpAny_holding ?_
  exact wpAny_bind (PySem.W.special_fn I.kIn J hm.at_ (beq_iff_eq.mp hm.fn) (wpAny_mono run (fun _ _ z => wpAny_pure z) fun _ _ z => z))
theorem call_absOwn (O : OwnM X.prog X.w X.K X.mg X.base k C "__abs__" ps sp) (hr : Room (k + 1) X.A) (hx : Passes (L2.CX X.prog X.w) X E) : CallR X (.builtin "abs") (fun xs H Q => ∃ a dx fs, xs = [.ref a] ∧ H a = some (.ins C dx fs) ∧ sp [.ref a] H Q E) := by
  intro pins s σ H xs us Q I r h
  obtain ⟨a, dx, fs, rfl, ha, hsp⟩ := h
  obtain ⟨u, rfl, r1⟩ := vals1 r
  obtain rfl : u = Value.ref a := r1
  obtain ⟨f, fd, Fo, hm, hb⟩ := O.ex
  obtain ⟨_, od, J⟩ := inst_at I ha
  refine PySem.Calls.call_function_entry kind_abs plain_abs entry_abs (args_abs _) ?_
  unfold Builtin.«abs»
  refine wpAny_bind (m := oneArg "abs" _) (wpAny_pure ?_)
  refine wpAny_bind (m := callSpecial? (.ref a) (Str.ofString "__abs__")) ?_
  refine PySem.W.special_fn I.kIn J hm.at_ (beq_iff_eq.mp hm.fn) ?_
  have bd := hb s [.ref a] I.kIn (Fo.len _ _ _ _ hsp)
  refine wpAny_call (codeAny_mono (Fo.run X.A.in1 X.stack s H ⟨[.ref a], []⟩ [.ref a] [.ref a] Q E hr.in1 I.env0.in1 bd (.cons rfl .nil) hsp) fun r s' hq => ?_)
  cases r with
  | error e => exact hx pins σ H s e s' I hq
  | ok fl =>
    cases fl with
    | ret u => exact wpAny_pure ⟨_, rfl, I.after hq⟩
    | next => exact False.elim hq
    | brk => exact False.elim hq
    | cont => exact False.elim hq
end
/-! ### operators on ints, further -/
section
variable {X : Cx}
theorem op_mulI : OpR X (binaryOp .Mult) (rI IntMulOk fun i j => .int (i * j)) := opI fun _ _ _ _ _ _ _ hc q => mul_int q hc
def CDivA (_ j : Int) : Prop := j ≠ 0 ∧ j.natAbs.log2 < 9000
theorem op_fdivA : OpR X (binaryOp .FloorDiv) (rI CDivA fun i j => .int (i.fdiv j)) := opI fun i j _ _ _ _ _ hc q => floordiv_int hc.1 q (.inl (PyProof.noPylong_of_log2 hc.2))
end
theorem mok_l {i j : Int} (h : i.natAbs < 2 ^ 64) : IntMulOk i j := by
  have e : (2 : Nat) ^ 64 = 18446744073709551616 := by decide
  rw [e] at h
  exact CMul.ok (.inl ⟨by omega, by omega⟩)
theorem mok_r {i j : Int} (h : j.natAbs < 2 ^ 64) : IntMulOk i j := by
  have e : (2 : Nat) ^ 64 = 18446744073709551616 := by decide
  rw [e] at h
  exact CMul.ok (.inr ⟨by omega, by omega⟩)
theorem mok_w {i j : Int} {a b : Nat} (ha : i.natAbs < 2 ^ a) (hb : j.natAbs < 2 ^ b) (h0 : 0 < a := by decide) (h1 : 0 < b := by decide) (h : a + b ≤ 1000000 := by decide) : IntMulOk i j := CMulW.ok (wide_mul ha hb h0 h1 h)
theorem une {H : Hp} {a p : Addr} {o u : HO} (n : a ≠ p) (h : H a = some o) : upd H p u a = some o := by rw [upd_ne n]; exact h
theorem sqL_of {K : PySem.W.Frag} {H : Hp} {a : Addr} {xs : List V} (h : H a = some (.lst xs)) : SqL K H a xs := SqL.of h
theorem ix_c {xs : List V} {z : Int} {v : V} (h : xs[z.toNat]? = some v) (h0 : 0 ≤ z := by decide) : atI xs z = some v := at_of (Int.toNat_of_nonneg h0).symm h

/-! ### tests whose outcome is open -/
theorem iteI {i j : Int} {A B : Prop} (h1 : i = j → A) (h2 : i ≠ j → B) : if decide (V.int i = V.int j) = true then A else B := by
  by_cases e : i = j
  · rw [decide_eq_true (congrArg V.int e)]
    exact iteT (h1 e)
  · rw [decide_eq_false fun z => e (V.int.inj z)]
    exact iteF (h2 e)
theorem iteIn {i j : Int} {A B : Prop} (h1 : i ≠ j → A) (h2 : i = j → B) : if (!decide (V.int i = V.int j)) = true then A else B := by
  by_cases e : i = j
  · rw [decide_eq_true (congrArg V.int e)]
    exact iteF (h2 e)
  · rw [decide_eq_false fun z => e (V.int.inj z)]
    exact iteT (h1 e)
theorem iteD {p : Prop} [Decidable p] {A B : Prop} (h1 : p → A) (h2 : ¬ p → B) : if decide p = true then A else B := by
  by_cases e : p
  · rw [decide_eq_true e]
    exact iteT (h1 e)
  · rw [decide_eq_false e]
    exact iteF (h2 e)
theorem iteDn {p : Prop} [Decidable p] {A B : Prop} (h1 : ¬ p → A) (h2 : p → B) : if (!decide p) = true then A else B := by
  by_cases e : p
  · rw [decide_eq_true e]
    exact iteF (h2 e)
  · rw [decide_eq_false e]
    exact iteT (h1 e)
theorem iteZ {y : Int} {A B : Prop} (h1 : y ≠ 0 → A) (h2 : y = 0 → B) : if (y != 0) = true then A else B := by
  by_cases e : y = 0
  · subst e
    exact iteF (h2 rfl)
  · rw [bne_iff_ne.mpr e]
    exact iteT (h1 e)
theorem iteDT {p : Prop} [Decidable p] {A B : Prop} (h : p) (a : A) : if decide p = true then A else B := iteD (fun _ => a) fun n => absurd h n
theorem iteDF {p : Prop} [Decidable p] {A B : Prop} (h : ¬ p) (a : B) : if decide p = true then A else B := iteD (fun n => absurd n h) fun _ => a
theorem iteDnT {p : Prop} [Decidable p] {A B : Prop} (h : p) (a : B) : if (!decide p) = true then A else B := iteDn (fun n => absurd h n) fun _ => a
theorem line_le {n : Nat} (h : n ≤ 16777216) : n ≤ sizeLine := by
  rw [sizeLine_eq]
  exact h

/-! ### the law's bag: what is drawn from it is any number below the size -/
/-- a bag stands at b, its script at L -/
def Bag (H : Hp) (L b : Addr) : Prop := ∃ (ns : List Int) (i : Nat) (big mix cnt : Int), H b = some (.lst [.ref L, .int i, .int big, .int mix, .int cnt]) ∧ H L = some (.lst (ns.map V.int)) ∧ L ≠ b
theorem Bag.same {H H' : Hp} {L b : Addr} (s : Same H H') (h : Bag H L b) : Bag H' L b := by
  obtain ⟨ns, i, big, mix, cnt, h1, h2, h3⟩ := h
  exact ⟨ns, i, big, mix, cnt, s _ _ h1, s _ _ h2, h3⟩
theorem Bag.some {H : Hp} {L b : Addr} (h : Bag H L b) : H b ≠ none := by
  obtain ⟨ns, i, big, mix, cnt, h1, h2, h3⟩ := h
  rw [h1]
  exact fun z => nomatch z
theorem Bag.someL {H : Hp} {L b : Addr} (h : Bag H L b) : H L ≠ none := by
  obtain ⟨ns, i, big, mix, cnt, h1, h2, h3⟩ := h
  rw [h2]
  exact fun z => nomatch z
/-- what was made behind the bag stands apart from it -/
theorem Bag.ne {H : Hp} {L b p : Addr} (h : Bag H L b) (n : H p = none) : p ≠ b := fun e => h.some (e ▸ n)
theorem Bag.neL {H : Hp} {L b p : Addr} (h : Bag H L b) (n : H p = none) : p ≠ L := fun e => h.someL (e ▸ n)
/-- another object was changed -/
theorem Bag.keep {H H' : Hp} {L b p : Addr} (h : Bag H L b) (k : Keep p H H') (n : p ≠ b) (n2 : p ≠ L) : Bag H' L b := by
  obtain ⟨ns, i, big, mix, cnt, h1, h2, h3⟩ := h
  exact ⟨ns, i, big, mix, cnt, k _ _ h1 n.symm, k _ _ h2 n2.symm, h3⟩
theorem Bag.mk {H : Hp} {L b : Addr} {ns : List Int} {i : Nat} {big mix cnt : Int} (hb : H b = Option.some (.lst [.ref L, .int i, .int big, .int mix, .int cnt])) (hL : H L = Option.some (.lst (ns.map V.int))) (n : L ≠ b) : Bag H L b :=
  ⟨ns, i, big, mix, cnt, hb, hL, n⟩

/-! ### fields by name -/
theorem lk0 {a : Str} {v : V} {r : List (Str × V)} : ((a, v) :: r).lookup a = some v := by simp [List.lookup]
theorem lk1 {a b : Str} {u : V} {o : Option V} {r : List (Str × V)} (h : (b == a) = false) (k : r.lookup b = o) : ((a, u) :: r).lookup b = o := by
  simp only [List.lookup, h]
  exact k
theorem lkn {b : Str} : ([] : List (Str × V)).lookup b = none := rfl
theorem putF_nil {f : Str} {v : V} : putF f v [] = [(f, v)] := rfl
theorem putF_ne {f g : Str} {u v : V} {r : List (Str × V)} (h : ¬ g = f) : putF f v ((g, u) :: r) = (g, u) :: putF f v r := if_neg h
theorem putF_eq {f : Str} {u v : V} {r : List (Str × V)} : putF f v ((f, u) :: r) = (f, v) :: r := if_pos rfl
theorem same_made {H H2 : Hp} {x dx C : Addr} (nx : H x = none) (nd : H dx = none) (ne : dx ≠ x) (k : Keep x (upd (upd H dx (.own x)) x (.ins C dx [])) H2) : Same H H2 := fun a o e => by
  have n1 := ne_of_none e nx
  have n2 := ne_of_none e nd
  exact k a o (by rw [upd_ne n1, upd_ne n2]; exact e) n1

/-! ### an own exception class, made without arguments -/
theorem pmk_own0 {X : Cx} {C : Addr} {bmB : List Value} {B newId initId : String} {x : Str} {p pos : Pos} (F : ExcBaseFacts B newId initId bmB) (q : PySem.W.excIn X.K C bmB newId = true) (gC : X.mg x = some (.ref C))
    (kC : PySem.W.keepIn X.K (.ref C) = true) (r : Raises X (.ref C)) (hg : Gl X x) (hdb : (x == ("__debug__" : Str)) = false := by decide) : PMk X (.Call (.Name x p) [] [] pos) (fun _ H Q => Q (.ref C) none H) := by
  intro pins s σ H Q I h
  refine wpAny_Call_Name_kw (ld_glob I hg gC ?_ hdb)
  refine PySem.W.callWith_K0 I.kIn kC ?_
  obtain ⟨bm, N, nm, qn, bs, hdct, sn, sub, ab, col, dd, k0, k1, k2, k3, k5, mN, hC, hN, hni, T⟩ := exc_obj I.kIn q
  refine wpAny_call_exc_subT F T hC hN hni (fun h' e hm => ?_) (Nat.zero_le _)
  exact mk_of I hm r h (I.hok.gone hm.new)

theorem erase_perm {α : Type} : ∀ {l : List α} {i : Nat} (h : i < l.length), (l[i] :: l.eraseIdx i).Perm l
  | a :: l, 0, _ => .refl _
  | a :: l, i + 1, h => by
    have ih := erase_perm (l := l) (i := i) (by simpa using h)
    simp only [List.getElem_cons_succ, List.eraseIdx_cons_succ]
    exact (List.Perm.swap _ _ _).trans (.cons _ ih)
/-! ### numbers in lowest terms -/
/-- a / b in lowest terms -/
def nrmC (a b : Int) : Int := if b < 0 then -((Nat.gcd a.natAbs b.natAbs : Nat) : Int) else ((Nat.gcd a.natAbs b.natAbs : Nat) : Int)
def nrm (a b : Int) : Int × Int := (a.fdiv (nrmC a b), b.fdiv (nrmC a b))
theorem nrmC_ne {a b : Int} (h : b ≠ 0) : nrmC a b ≠ 0 := by
  have g : 0 < Nat.gcd a.natAbs b.natAbs := Nat.gcd_pos_of_pos_right _ (by omega)
  unfold nrmC
  split <;> omega
theorem nrmC_abs {a b : Int} : (nrmC a b).natAbs = Nat.gcd a.natAbs b.natAbs := by
  unfold nrmC
  split <;> omega
theorem nrmC_log {a b : Int} (h : b ≠ 0) (hb : b.natAbs.log2 < 9000) : (nrmC a b).natAbs.log2 < 9000 := by
  rw [nrmC_abs]
  have g : Nat.gcd a.natAbs b.natAbs ≤ b.natAbs := Nat.gcd_le_right _ (by omega)
  have hb2 : b.natAbs < 2 ^ 9000 := (Nat.log2_lt (by omega)).mp hb
  exact (Nat.log2_lt (by have := Nat.gcd_pos_of_pos_right a.natAbs (show 0 < b.natAbs by omega); omega)).mpr (Nat.lt_of_le_of_lt g hb2)
theorem nrmC_dvd_a {a b : Int} : nrmC a b ∣ a := by
  have h : ((Nat.gcd a.natAbs b.natAbs : Nat) : Int) ∣ a := Int.ofNat_dvd_left.mpr (Nat.gcd_dvd_left _ _)
  unfold nrmC
  split
  · exact Int.neg_dvd.mpr h
  · exact h
theorem nrmC_dvd_b {a b : Int} : nrmC a b ∣ b := by
  have h : ((Nat.gcd a.natAbs b.natAbs : Nat) : Int) ∣ b := Int.ofNat_dvd_left.mpr (Nat.gcd_dvd_right _ _)
  unfold nrmC
  split
  · exact Int.neg_dvd.mpr h
  · exact h
theorem fdiv_mul {a c : Int} (h : c ∣ a) : a.fdiv c * c = a := Int.fdiv_mul_cancel h
theorem nrm_a {a b : Int} : (nrm a b).1 * nrmC a b = a := fdiv_mul nrmC_dvd_a
theorem nrm_b {a b : Int} : (nrm a b).2 * nrmC a b = b := fdiv_mul nrmC_dvd_b
/-- in lowest terms -/
structure Red (t b : Int) : Prop where
  pos : 0 < b
  cop : Nat.gcd t.natAbs b.natAbs = 1
theorem nrm_red {a b : Int} (h : b ≠ 0) : Red (nrm a b).1 (nrm a b).2 := by
  have e1 := nrm_a (a := a) (b := b)
  have e2 := nrm_b (a := a) (b := b)
  have hc := nrmC_ne (a := a) h
  refine ⟨?_, ?_⟩
  · have s : (0 < b ∧ 0 < nrmC a b) ∨ (b < 0 ∧ nrmC a b < 0) := by
      have g : 0 < Nat.gcd a.natAbs b.natAbs := Nat.gcd_pos_of_pos_right _ (by omega)
      unfold nrmC
      split <;> omega
    rcases s with ⟨s1, s2⟩ | ⟨s1, s2⟩
    · exact Int.pos_of_mul_pos_left (by rw [e2]; exact s1) s2
    · refine Int.pos_of_mul_pos_left (b := -nrmC a b) ?_ (by omega)
      rw [Int.mul_neg, e2]
      omega
  · have g : 0 < Nat.gcd a.natAbs b.natAbs := Nat.gcd_pos_of_pos_right _ (by omega)
    have f1 : (nrm a b).1.natAbs * Nat.gcd a.natAbs b.natAbs = a.natAbs := by
      have := congrArg Int.natAbs e1
      rw [Int.natAbs_mul, nrmC_abs] at this
      exact this
    have f2 : (nrm a b).2.natAbs * Nat.gcd a.natAbs b.natAbs = b.natAbs := by
      have := congrArg Int.natAbs e2
      rw [Int.natAbs_mul, nrmC_abs] at this
      exact this
    have f3 : Nat.gcd ((nrm a b).1.natAbs * Nat.gcd a.natAbs b.natAbs) ((nrm a b).2.natAbs * Nat.gcd a.natAbs b.natAbs) = Nat.gcd a.natAbs b.natAbs := by rw [f1, f2]
    rw [Nat.gcd_mul_right] at f3
    exact Nat.eq_of_mul_eq_mul_right g (by rw [f3, Nat.one_mul])
theorem nrm_cross {a b : Int} : (nrm a b).1 * b = a * (nrm a b).2 := by
  have e1 := nrm_a (a := a) (b := b)
  have e2 := nrm_b (a := a) (b := b)
  have h : (nrm a b).1 * ((nrm a b).2 * nrmC a b) = (nrm a b).1 * nrmC a b * (nrm a b).2 := by
    rw [Int.mul_assoc, Int.mul_comm (nrmC a b)]
  rw [e1, e2] at h
  exact h
theorem Red.uniq {t b t' b' : Int} (h : Red t b) (h' : Red t' b') (e : t * b' = t' * b) : t = t' ∧ b = b' := by
  have hb := h.pos
  have hb' := h'.pos
  have f : t.natAbs * b'.natAbs = t'.natAbs * b.natAbs := by
    have := congrArg Int.natAbs e
    rw [Int.natAbs_mul, Int.natAbs_mul] at this
    exact this
  have c : Nat.Coprime b.natAbs t.natAbs := (Nat.gcd_comm _ _).trans h.cop
  have c' : Nat.Coprime b'.natAbs t'.natAbs := (Nat.gcd_comm _ _).trans h'.cop
  have d1 : b.natAbs ∣ b'.natAbs := c.dvd_of_dvd_mul_left ⟨t'.natAbs, by rw [f, Nat.mul_comm]⟩
  have d2 : b'.natAbs ∣ b.natAbs := c'.dvd_of_dvd_mul_left ⟨t.natAbs, by rw [← f, Nat.mul_comm]⟩
  have eb : b = b' := by
    have := Nat.dvd_antisymm d1 d2
    omega
  subst eb
  exact ⟨Int.eq_of_mul_eq_mul_right (by omega) e, rfl⟩
/-- which fraction stands for the number doesn't matter -/
theorem nrm_same {a b c d : Int} (hb : b ≠ 0) (hd : d ≠ 0) (e : a * d = c * b) : nrm a b = nrm c d := by
  have h1 := nrm_cross (a := a) (b := b)
  have h2 := nrm_cross (a := c) (b := d)
  have k : (nrm a b).1 * (nrm c d).2 = (nrm c d).1 * (nrm a b).2 := by
    refine Int.eq_of_mul_eq_mul_right (a := b * d) (Int.mul_ne_zero hb hd) ?_
    calc (nrm a b).1 * (nrm c d).2 * (b * d) = ((nrm a b).1 * b) * (d * (nrm c d).2) := by ac_rfl
      _ = (a * (nrm a b).2) * (d * (nrm c d).2) := by rw [h1]
      _ = (a * d) * ((nrm a b).2 * (nrm c d).2) := by ac_rfl
      _ = (c * b) * ((nrm a b).2 * (nrm c d).2) := by rw [e]
      _ = (c * (nrm c d).2) * ((nrm a b).2 * b) := by ac_rfl
      _ = ((nrm c d).1 * d) * ((nrm a b).2 * b) := by rw [h2]
      _ = (nrm c d).1 * (nrm a b).2 * (b * d) := by ac_rfl
  obtain ⟨e1, e2⟩ := (nrm_red hb).uniq (nrm_red hd) k
  exact Prod.ext e1 e2
theorem nrm_id {t b : Int} (h : Red t b) : nrm t b = (t, b) := by
  have hb := h.pos
  obtain ⟨e1, e2⟩ := (nrm_red (a := t) (b := b) (by omega)).uniq h nrm_cross
  exact Prod.ext e1 e2
theorem red_one {t : Int} : Red t 1 := ⟨by decide, by simp⟩
theorem nrm_one {t : Int} : nrm t 1 = (t, 1) := nrm_id red_one

theorem nrm_zero {a b : Int} (h : b ≠ 0) : (nrm a b).1 = 0 ↔ a = 0 := by
  have e := nrm_a (a := a) (b := b)
  have c := nrmC_ne (a := a) h
  constructor
  · intro z
    rw [z, Int.zero_mul] at e
    exact e.symm
  · intro z
    rw [z] at e
    rcases Int.mul_eq_zero.mp e with u | u
    · rw [z]
      exact u
    · rw [z] at c
      exact absurd u c
theorem nrm_ne {a b : Int} (h : b ≠ 0) : (nrm a b).2 ≠ 0 := by
  have := (nrm_red (a := a) h).pos
  omega
/-- a quotient of numbers in lowest terms -/
theorem nrm_over {a b c d : Int} (hb : b ≠ 0) (hd : d ≠ 0) (hc : c ≠ 0) : nrm ((nrm a b).1 * (nrm c d).2) ((nrm a b).2 * (nrm c d).1) = nrm (a * d) (b * c) := by
  have h1 := nrm_cross (a := a) (b := b)
  have h2 := nrm_cross (a := c) (b := d)
  have n1 := nrm_ne (a := a) hb
  have n2 : (nrm c d).1 ≠ 0 := fun z => hc ((nrm_zero hd).mp z)
  refine nrm_same (Int.mul_ne_zero n1 n2) (Int.mul_ne_zero hb hc) ?_
  calc (nrm a b).1 * (nrm c d).2 * (b * c) = ((nrm a b).1 * b) * (c * (nrm c d).2) := by ac_rfl
    _ = (a * (nrm a b).2) * ((nrm c d).1 * d) := by rw [h1, h2]
    _ = a * d * ((nrm a b).2 * (nrm c d).1) := by ac_rfl

/-! ### Ratios -/
/-- the ratio t / b stands at p -/
def RatAt (ca : Nat → Addr) (H : Hp) (p : Addr) (t b : Int) : Prop := Red t b ∧ ∃ dx, H p = some (.ins (ca 2) dx [("top", .int t), ("bottom", .int b)])
theorem RatAt.same {ca : Nat → Addr} {H H' : Hp} {p : Addr} {t b : Int} (h : RatAt ca H p t b) (s : Same H H') : RatAt ca H' p t b := ⟨h.1, let ⟨dx, e⟩ := h.2; ⟨dx, s _ _ e⟩⟩
/-- a number: an int, or a ratio -/
def NumV (ca : Nat → Addr) (H : Hp) (x : V) (t b : Int) : Prop := (x = .int t ∧ b = 1) ∨ ∃ p, x = .ref p ∧ RatAt ca H p t b
theorem NumV.same {ca : Nat → Addr} {H H' : Hp} {x : V} {t b : Int} (h : NumV ca H x t b) (s : Same H H') : NumV ca H' x t b :=
  h.imp id fun ⟨p, e, r⟩ => ⟨p, e, r.same s⟩
theorem NumV.red {ca : Nat → Addr} {H : Hp} {x : V} {t b : Int} (h : NumV ca H x t b) : Red t b := by
  rcases h with ⟨_, rfl⟩ | ⟨p, _, r⟩
  · exact red_one
  · exact r.1
theorem kit_self {K : PySem.W.Frag} {v : Value} : PySem.W.kitOne K v v = some true := if_pos (beq_iff_eq.mpr rfl)
theorem put_rat {x y : V} : putF "bottom" y (putF "top" x []) = ([("top", x), ("bottom", y)] : List (Str × V)) := by
  rw [putF_nil, putF_ne (by decide +kernel), putF_nil]
theorem lt164 {z : Int} (h0 : -(10 ^ 49 + 2) < z) (h : z < 10 ^ 49 + 2) : z.natAbs < 2 ^ 164 := by
  have e : (2 : Nat) ^ 164 = 23384026197294446691258957323460528314494920687616 := by decide
  have e2 : (10 : Int) ^ 49 = 10000000000000000000000000000000000000000000000000 := by decide
  rw [e]
  rw [e2] at h0 h
  omega
theorem lg164 {z : Int} (h : z.natAbs < 2 ^ 164) : z.natAbs.log2 < 9000 := Nat.lt_trans (PySem.Flt.log2_lt_of (by decide) h) (by decide)
theorem RatAt.mk {ca : Nat → Addr} {H : Hp} {p dx : Addr} {t b : Int} (h : Red t b) (e : H p = some (.ins (ca 2) dx [("top", .int (nrm t b).1), ("bottom", .int (nrm t b).2)])) : RatAt ca H p t b := by
  rw [nrm_id h] at e
  exact ⟨h, dx, e⟩
theorem RatAt.of {ca : Nat → Addr} {H : Hp} {p dx : Addr} {t b : Int} (h : b ≠ 0) (e : H p = some (.ins (ca 2) dx [("top", .int (nrm t b).1), ("bottom", .int (nrm t b).2)])) : RatAt ca H p (nrm t b).1 (nrm t b).2 := ⟨nrm_red h, dx, e⟩
theorem nrm_le1 {a b : Int} (h : b ≠ 0) : (nrm a b).1.natAbs ≤ a.natAbs := by
  have e := congrArg Int.natAbs (nrm_a (a := a) (b := b))
  rw [Int.natAbs_mul] at e
  have c : 0 < (nrmC a b).natAbs := by have := nrmC_ne (a := a) h; omega
  rw [← e]
  exact Nat.le_mul_of_pos_right _ c
theorem nrm_le2 {a b : Int} (h : b ≠ 0) : (nrm a b).2.natAbs ≤ b.natAbs := by
  have e := congrArg Int.natAbs (nrm_b (a := a) (b := b))
  rw [Int.natAbs_mul] at e
  have c : 0 < (nrmC a b).natAbs := by have := nrmC_ne (a := a) h; omega
  rw [← e]
  exact Nat.le_mul_of_pos_right _ c
/-- a pair of ints in lowest terms, none of them large -/
structure TupR (H : Hp) (p : Addr) (t b : Int) : Prop where
  red : Red t b
  st : t.natAbs < 2 ^ 170
  sb : b.natAbs < 2 ^ 170
  at_ : H p = some (.tup [.int t, .int b])
theorem tup_ne {H : Hp} {L b p : Addr} {xs : List V} (B : Bag H L b) (e : H p = some (.tup xs)) : p ≠ b := by
  obtain ⟨ns, i, big, mix, cnt, h1, _⟩ := B
  exact ne_of e h1 fun z => nomatch z
theorem TupR.keep {H H' : Hp} {L b p : Addr} {t u : Int} (h : TupR H p t u) (B : Bag H L b) (k : Keep b H H') : TupR H' p t u := ⟨h.red, h.st, h.sb, k _ _ h.at_ (tup_ne B h.at_)⟩
theorem TupR.same {H H' : Hp} {p : Addr} {t u : Int} (h : TupR H p t u) (s : Same H H') : TupR H' p t u := ⟨h.red, h.st, h.sb, s _ _ h.at_⟩
theorem TupR.of {H : Hp} {p : Addr} {a b : Int} (hb : b ≠ 0) (sa : a.natAbs < 2 ^ 164) (sb : b.natAbs < 2 ^ 164) (e : H p = some (.tup [.int (nrm a b).1, .int (nrm a b).2])) : TupR H p (nrm a b).1 (nrm a b).2 :=
  ⟨nrm_red hb, Nat.lt_of_le_of_lt (nrm_le1 hb) (Nat.lt_trans sa (by decide)), Nat.lt_of_le_of_lt (nrm_le2 hb) (Nat.lt_trans sb (by decide)), e⟩
theorem lg170 {z : Int} (h : z.natAbs < 2 ^ 170) : z.natAbs.log2 < 9000 := Nat.lt_trans (PySem.Flt.log2_lt_of (by decide) h) (by decide)
theorem m170 {x y : Int} (h : x.natAbs < 2 ^ 170) (h2 : y.natAbs < 2 ^ 170) : IntMulOk x y := mok_w h h2
theorem eqv2 {a b c d : Int} : PyData.eqv (.tuple [.int a, .int b]) (.tuple [.int c, .int d]) = decide (a = c ∧ b = d) := by
  by_cases h1 : a = c <;> by_cases h2 : b = d <;> simp [PyData.eqv, PyData.eqvAll, h1, h2]
/-- two pairs of ints, compared -/
theorem eqT {K : PySem.W.Frag} {H : Hp} {p q : Addr} {a b c d : Int} {Q : VK} (hp : H p = some (.tup [.int a, .int b])) (hq : H q = some (.tup [.int c, .int d])) (k : Q (.bl (decide (a = c ∧ b = d))) H) : rEqD K (.ref p) (.ref q) H Q := by
  refine ⟨.tuple [.int a, .int b], .tuple [.int c, .int d], .tup (SqT.of hp) (.cons (.int _) (.cons (.int _) .nil)), .tup (SqT.of hq) (.cons (.int _) (.cons (.int _) .nil)), rfl, rfl, ?_⟩
  rw [eqv2]
  exact k
theorem neT {K : PySem.W.Frag} {H : Hp} {p q : Addr} {a b c d : Int} {Q : VK} (hp : H p = some (.tup [.int a, .int b])) (hq : H q = some (.tup [.int c, .int d])) (k : Q (.bl (!decide (a = c ∧ b = d))) H) : rNeD K (.ref p) (.ref q) H Q := by
  refine ⟨.tuple [.int a, .int b], .tuple [.int c, .int d], .tup (SqT.of hp) (.cons (.int _) (.cons (.int _) .nil)), .tup (SqT.of hq) (.cons (.int _) (.cons (.int _) .nil)), rfl, rfl, ?_⟩
  rw [eqv2]
  exact k
theorem iteNv {x y : V} {A B : Prop} (h : x = y) (b : B) : if (!decide (x = y)) = true then A else B := by
  rw [decide_eq_true h]
  exact iteF b
def dueN (w a0 a1 b0 b1 : Int) : Int × Int := if w = 0 then (a0, b0) else if w = 1 then (a0 * b1, a1 * b0) else if w = 2 then (a0, a1 * b0) else (a0 * b1, b0)
theorem due_ne {w a0 a1 b0 b1 : Int} (h1 : a1 ≠ 0) (h3 : b1 ≠ 0) (h2 : b0 ≠ 0) : (dueN w a0 a1 b0 b1).2 ≠ 0 := by
  unfold dueN
  split
  · exact h2
  · split
    · exact Int.mul_ne_zero h1 h2
    · split
      · exact Int.mul_ne_zero h1 h2
      · exact h2
theorem due_log {w a0 a1 b0 b1 : Int} (s1 : a1.natAbs < 2 ^ 170) (s2 : b0.natAbs < 2 ^ 170) (_ : b1.natAbs < 2 ^ 170) : (dueN w a0 a1 b0 b1).2.natAbs.log2 < 9000 := by
  have m3 : (a1 * b0).natAbs.log2 < 9000 := Nat.lt_trans (PySem.Flt.log2_lt_of (by decide) (wide_lt s1 s2)) (by decide)
  unfold dueN
  split
  · exact lg170 s2
  · split
    · exact m3
    · split
      · exact m3
      · exact lg170 s2
/-! ### sizes -/
def Sz (n : Nat) (z : Int) : Prop := z.natAbs < 2 ^ n
theorem Sz.mono {n m : Nat} {z : Int} (h : Sz n z) (l : n ≤ m := by decide) : Sz m z := Nat.lt_of_lt_of_le h (Nat.pow_le_pow_right (by decide) l)
theorem Sz.mul {n m : Nat} {x y : Int} (h : Sz n x) (k : Sz m y) : Sz (n + m) (x * y) := by
  unfold Sz
  rw [Int.natAbs_mul, Nat.pow_add]
  exact Nat.mul_lt_mul_of_lt_of_le h (Nat.le_of_lt k) (Nat.two_pow_pos _)
theorem Sz.add {n m : Nat} {x y : Int} (h : Sz n x) (k : Sz m y) : Sz (n + m + 1) (x + y) := by
  unfold Sz at *
  have a : 2 ^ n ≤ 2 ^ (n + m) := Nat.pow_le_pow_right (by decide) (Nat.le_add_right _ _)
  have b : 2 ^ m ≤ 2 ^ (n + m) := Nat.pow_le_pow_right (by decide) (Nat.le_add_left _ _)
  rw [Nat.pow_succ]
  omega
/-- both of the same size -/
theorem Sz.add' {n : Nat} {x y : Int} (h : Sz n x) (k : Sz n y) : Sz (n + 1) (x + y) := by
  unfold Sz at *
  rw [Nat.pow_succ]
  omega
theorem Sz.neg {n : Nat} {x : Int} (h : Sz n x) : Sz n (-x) := by
  unfold Sz at *
  omega
theorem Sz.sub {n m : Nat} {x y : Int} (h : Sz n x) (k : Sz m y) : Sz (n + m + 1) (x - y) := by
  rw [Int.sub_eq_add_neg]
  exact h.add k.neg
theorem Sz.sub' {n : Nat} {x y : Int} (h : Sz n x) (k : Sz n y) : Sz (n + 1) (x - y) := by
  unfold Sz at *
  rw [Nat.pow_succ]
  omega
theorem Sz.lg {n : Nat} {x : Int} (h : Sz n x) (l : n ≤ 8999 := by decide) (l0 : 0 < n := by decide) : x.natAbs.log2 < 9000 :=
  Nat.lt_of_lt_of_le (PySem.Flt.log2_lt_of l0 h) (Nat.le_succ_of_le l)
theorem Sz.mok {n m : Nat} {x y : Int} (h : Sz n x) (k : Sz m y) (h0 : 0 < n := by decide) (h1 : 0 < m := by decide) (l : n + m ≤ 1000000 := by decide) : IntMulOk x y := mok_w h k h0 h1 l
theorem Sz.le {n : Nat} {x y : Int} (h : Sz n x) (l : y.natAbs ≤ x.natAbs) : Sz n y := Nat.lt_of_le_of_lt l h
theorem Sz.one : Sz 1 1 := show (1 : Int).natAbs < 2 ^ 1 by decide
theorem Sz.zero : Sz 1 0 := show (0 : Int).natAbs < 2 ^ 1 by decide

/-! ### fractions, and the ratios that stand for them -/
theorem nrm_add {a b c d : Int} (hb : b ≠ 0) (hd : d ≠ 0) : nrm ((nrm a b).1 * (nrm c d).2 + (nrm c d).1 * (nrm a b).2) ((nrm a b).2 * (nrm c d).2) = nrm (a * d + c * b) (b * d) := by
  have h1 := nrm_cross (a := a) (b := b)
  have h2 := nrm_cross (a := c) (b := d)
  refine nrm_same (Int.mul_ne_zero (nrm_ne hb) (nrm_ne hd)) (Int.mul_ne_zero hb hd) ?_
  rw [Int.add_mul, Int.add_mul]
  congr 1
  · calc (nrm a b).1 * (nrm c d).2 * (b * d) = ((nrm a b).1 * b) * (d * (nrm c d).2) := by ac_rfl
      _ = a * (nrm a b).2 * (d * (nrm c d).2) := by rw [h1]
      _ = a * d * ((nrm a b).2 * (nrm c d).2) := by ac_rfl
  · calc (nrm c d).1 * (nrm a b).2 * (b * d) = ((nrm c d).1 * d) * (b * (nrm a b).2) := by ac_rfl
      _ = c * (nrm c d).2 * (b * (nrm a b).2) := by rw [h2]
      _ = c * b * ((nrm a b).2 * (nrm c d).2) := by ac_rfl
theorem nrm_neg {a b : Int} (hb : b ≠ 0) : nrm (-a) b = (-(nrm a b).1, (nrm a b).2) := by
  have h1 := nrm_cross (a := a) (b := b)
  have r := nrm_red (a := a) hb
  rw [← nrm_id (t := -(nrm a b).1) (b := (nrm a b).2) ⟨r.pos, by rw [Int.natAbs_neg]; exact r.cop⟩]
  refine nrm_same hb (nrm_ne hb) ?_
  rw [Int.neg_mul, Int.neg_mul, h1]
theorem nrm_sub {a b c d : Int} (hb : b ≠ 0) (hd : d ≠ 0) : nrm ((nrm a b).1 * (nrm c d).2 - (nrm c d).1 * (nrm a b).2) ((nrm a b).2 * (nrm c d).2) = nrm (a * d - c * b) (b * d) := by
  have h := nrm_add (a := a) (c := -c) hb hd
  rw [nrm_neg hd] at h
  simp only [Int.neg_mul, ← Int.sub_eq_add_neg] at h
  exact h
theorem nrm_mul {a b c d : Int} (hb : b ≠ 0) (hd : d ≠ 0) : nrm ((nrm a b).1 * (nrm c d).1) ((nrm a b).2 * (nrm c d).2) = nrm (a * c) (b * d) := by
  have h1 := nrm_cross (a := a) (b := b)
  have h2 := nrm_cross (a := c) (b := d)
  refine nrm_same (Int.mul_ne_zero (nrm_ne hb) (nrm_ne hd)) (Int.mul_ne_zero hb hd) ?_
  calc (nrm a b).1 * (nrm c d).1 * (b * d) = ((nrm a b).1 * b) * ((nrm c d).1 * d) := by ac_rfl
    _ = a * (nrm a b).2 * (c * (nrm c d).2) := by rw [h1, h2]
    _ = a * c * ((nrm a b).2 * (nrm c d).2) := by ac_rfl
/-- the amount of a number -/
def iab (a : Int) : Int := if a < 0 then -a else a
theorem iab_nat {a : Int} : iab a = (a.natAbs : Int) := by unfold iab; split <;> omega
theorem Sz.iab {n : Nat} {x : Int} (h : Sz n x) : Sz n (iab x) := h.le (by rw [iab_nat]; exact Nat.le_of_eq (Int.natAbs_natCast _))
theorem nrm_abs {a b : Int} (hb : b ≠ 0) : nrm (iab (nrm a b).1) (nrm a b).2 = nrm (iab a) (iab b) := by
  have h1 := congrArg Int.natAbs (nrm_cross (a := a) (b := b))
  have r := nrm_red (a := a) hb
  rw [Int.natAbs_mul, Int.natAbs_mul] at h1
  have e : ((nrm a b).2.natAbs : Int) = (nrm a b).2 := Int.natAbs_of_nonneg (Int.le_of_lt r.pos)
  refine nrm_same (nrm_ne hb) (by rw [iab_nat]; omega) ?_
  rw [iab_nat, iab_nat, iab_nat, ← e, ← Int.natCast_mul, ← Int.natCast_mul, h1]
/-- the ratio of a / b stands at p -/
structure RatQ (ca : Nat → Addr) (H : Hp) (p : Addr) (a b : Int) : Prop where
  ne : b ≠ 0
  at_ : RatAt ca H p (nrm a b).1 (nrm a b).2
theorem RatQ.same {ca : Nat → Addr} {H H' : Hp} {p : Addr} {a b : Int} (h : RatQ ca H p a b) (s : Same H H') : RatQ ca H' p a b := ⟨h.ne, h.at_.same s⟩
theorem rsame {ca : Nat → Addr} {H H' : Hp} {p : Addr} {a b : Int} (s : Same H H') (h : RatQ ca H p a b) : RatQ ca H' p a b := h.same s
theorem strans {H H1 H2 : Hp} (t : Same H1 H2) (s : Same H H1) : Same H H2 := s.trans t
theorem RatQ.to {ca : Nat → Addr} {H : Hp} {p : Addr} {a b c d : Int} (h : RatQ ca H p a b) (hd : d ≠ 0) (e : a * d = c * b) : RatQ ca H p c d := ⟨hd, by rw [← nrm_same h.ne hd e]; exact h.at_⟩
theorem RatQ.ins {ca : Nat → Addr} {H : Hp} {p : Addr} {a b : Int} (h : RatQ ca H p a b) : ∃ dx, H p = some (.ins (ca 2) dx [("top", .int (nrm a b).1), ("bottom", .int (nrm a b).2)]) := h.at_.2
theorem RatQ.of {ca : Nat → Addr} {H : Hp} {p dx : Addr} {a b a' b' : Int} (hb : b ≠ 0) (e : H p = some (.ins (ca 2) dx [("top", .int (nrm a' b').1), ("bottom", .int (nrm a' b').2)])) (n : nrm a' b' = nrm a b) : RatQ ca H p a b :=
  ⟨hb, by rw [n] at e; exact RatAt.of hb e⟩
/-- a number that is a / b: an int, or a ratio -/
def NumQ (ca : Nat → Addr) (H : Hp) (x : V) (a b : Int) : Prop := (x = .int a ∧ b = 1) ∨ ∃ p, x = .ref p ∧ RatQ ca H p a b
theorem NumQ.same {ca : Nat → Addr} {H H' : Hp} {x : V} {a b : Int} (h : NumQ ca H x a b) (s : Same H H') : NumQ ca H' x a b := h.imp id fun ⟨p, e, r⟩ => ⟨p, e, r.same s⟩
theorem NumQ.ne {ca : Nat → Addr} {H : Hp} {x : V} {a b : Int} (h : NumQ ca H x a b) : b ≠ 0 := by
  rcases h with ⟨_, rfl⟩ | ⟨_, _, r⟩
  · decide
  · exact r.ne
theorem NumQ.num {ca : Nat → Addr} {H : Hp} {x : V} {a b : Int} (h : NumQ ca H x a b) : NumV ca H x (nrm a b).1 (nrm a b).2 := by
  rcases h with ⟨rfl, rfl⟩ | ⟨p, e, r⟩
  · rw [nrm_one]
    exact .inl ⟨rfl, rfl⟩
  · exact .inr ⟨p, e, r.at_⟩
theorem RatQ.num {ca : Nat → Addr} {H : Hp} {p : Addr} {a b : Int} (h : RatQ ca H p a b) : NumQ ca H (.ref p) a b := .inr ⟨p, rfl, h⟩
theorem NumQ.int {ca : Nat → Addr} {H : Hp} {a : Int} : NumQ ca H (.int a) a 1 := .inl ⟨rfl, rfl⟩
theorem rOwn_of {ca : Nat → Addr} {H : Hp} {p : Addr} {x : V} {a b a' b' : Int} {sp : Sp} {E : XK} {Q : VK} (h : RatQ ca H p a b) (n : NumQ ca H x a' b') (k : sp [.ref p, x] H Q E) : rOwn (ca 2) sp E (.ref p) x H Q := by
  obtain ⟨dx, e⟩ := h.ins
  refine ⟨p, dx, _, rfl, e, ?_, k⟩
  rcases n with ⟨rfl, rfl⟩ | ⟨q, rfl, r⟩
  · exact .inl ⟨_, rfl⟩
  · obtain ⟨dy, e2⟩ := r.ins
    exact .inr ⟨q, dy, _, rfl, e2⟩
theorem rRefl_of {ca : Nat → Addr} {H : Hp} {p : Addr} {i a b : Int} {sp : Sp} {E : XK} {Q : VK} (h : RatQ ca H p a b) (k : sp [.ref p, .int i] H Q E) : rRefl (ca 2) sp E (.int i) (.ref p) H Q := by
  obtain ⟨dx, e⟩ := h.ins
  exact ⟨i, p, dx, _, rfl, rfl, e, k⟩
theorem rUna_of {ca : Nat → Addr} {H : Hp} {p : Addr} {a b : Int} {sp : Sp} {E : XK} {Q : VK} (h : RatQ ca H p a b) (k : sp [.ref p] H Q E) : rUna (ca 2) sp E (.ref p) H Q := by
  obtain ⟨dx, e⟩ := h.ins
  exact ⟨p, dx, _, rfl, e, k⟩
/-- sums of fractions, from the left -/
def sumQ : Int × Int → List (Int × Int) → Int × Int := List.foldl fun x y => (x.1 * y.2 + y.1 * x.2, x.2 * y.2)
theorem sumQ_size : ∀ (fs : List (Int × Int)) (z : Int × Int) (n : Nat), (∀ f ∈ fs, Sz 200 f.1 ∧ Sz 200 f.2) → Sz n z.1 → Sz n z.2 → Sz (n + 201 * fs.length) (sumQ z fs).1 ∧ Sz (n + 201 * fs.length) (sumQ z fs).2
  | [], z, n, _, h1, h2 => ⟨h1, h2⟩
  | f :: fs, z, n, hf, h1, h2 => by
    obtain ⟨f1, f2⟩ := hf f List.mem_cons_self
    have g1 : Sz (n + 201) (z.1 * f.2 + f.1 * z.2) := ((h1.mul f2).add' ((f1.mul h2).mono (by omega))).mono (by omega)
    have g2 : Sz (n + 201) (z.2 * f.2) := (h2.mul f2).mono (by omega)
    obtain ⟨r1, r2⟩ := sumQ_size fs (z.1 * f.2 + f.1 * z.2, z.2 * f.2) (n + 201) (fun g hg => hf g (List.mem_cons_of_mem _ hg)) g1 g2
    rw [List.length_cons]
    exact ⟨r1.mono (by omega), r2.mono (by omega)⟩
theorem sumQ_ne : ∀ (fs : List (Int × Int)) (z : Int × Int), (∀ f ∈ fs, f.2 ≠ 0) → z.2 ≠ 0 → (sumQ z fs).2 ≠ 0
  | [], _, _, h => h
  | f :: fs, z, hf, h => sumQ_ne fs (z.1 * f.2 + f.1 * z.2, z.2 * f.2) (fun g hg => hf g (List.mem_cons_of_mem _ hg)) (Int.mul_ne_zero h (hf f List.mem_cons_self))
theorem sumQ_app {fs : List (Int × Int)} {z f : Int × Int} : sumQ z (fs ++ [f]) = ((sumQ z fs).1 * f.2 + f.1 * (sumQ z fs).2, (sumQ z fs).2 * f.2) := by
  unfold sumQ
  rw [List.foldl_append]
  rfl
/-- a sum whose first part alone is in lowest terms -/
theorem nrm_addL {a b c d : Int} (hb : b ≠ 0) (hd : d ≠ 0) : nrm ((nrm a b).1 * d + c * (nrm a b).2) ((nrm a b).2 * d) = nrm (a * d + c * b) (b * d) := by
  have h1 := nrm_cross (a := a) (b := b)
  refine nrm_same (Int.mul_ne_zero (nrm_ne hb) hd) (Int.mul_ne_zero hb hd) ?_
  rw [Int.add_mul, Int.add_mul]
  congr 1
  · calc (nrm a b).1 * d * (b * d) = ((nrm a b).1 * b) * (d * d) := by ac_rfl
      _ = a * (nrm a b).2 * (d * d) := by rw [h1]
      _ = a * d * ((nrm a b).2 * d) := by ac_rfl
  · ac_rfl
theorem RatQ.low {ca : Nat → Addr} {H : Hp} {p : Addr} {a b : Int} (h : RatQ ca H p a b) : RatQ ca H p (nrm a b).1 (nrm a b).2 := h.to (nrm_ne h.ne) nrm_cross.symm
/-! ### what another object's change leaves -/
theorem Bag.lst {H : Hp} {L b : Addr} (h : Bag H L b) : ∃ xs, H b = Option.some (.lst xs) := by
  obtain ⟨ns, i, big, mix, cnt, h1, _⟩ := h
  exact ⟨_, h1⟩
theorem RatQ.put {ca : Nat → Addr} {H H' : Hp} {p c : Addr} {a b : Int} {xs : List V} (h : RatQ ca H p a b) (e : H c = some (.lst xs)) (k : Keep c H H') : RatQ ca H' p a b :=
  ⟨h.ne, h.at_.1, let ⟨dx, q⟩ := h.at_.2; ⟨dx, k _ _ q (ne_of q e fun z => nomatch z)⟩⟩
theorem NumQ.put {ca : Nat → Addr} {H H' : Hp} {c : Addr} {x : V} {a b : Int} {xs : List V} (h : NumQ ca H x a b) (e : H c = some (.lst xs)) (k : Keep c H H') : NumQ ca H' x a b := h.imp id fun ⟨p, q, r⟩ => ⟨p, q, r.put e k⟩
theorem tput {H H' : Hp} {p c : Addr} {ys xs : List V} (h : H p = some (.tup ys)) (e : H c = some (.lst xs)) (k : Keep c H H') : H' p = some (.tup ys) := k _ _ h (ne_of h e fun z => nomatch z)
/-- a number with its fraction -/
def Item (ca : Nat → Addr) (H : Hp) (z : V) : Prop := ∃ t x v a b, z = .ref t ∧ H t = some (.tup [x, .ref v]) ∧ H v = some (.tup [.int a, .int b]) ∧ NumQ ca H x a b ∧ Sz 200 a ∧ Sz 200 b
theorem Item.put {ca : Nat → Addr} {H H' : Hp} {c : Addr} {z : V} {xs : List V} (h : Item ca H z) (e : H c = some (.lst xs)) (k : Keep c H H') : Item ca H' z := by
  obtain ⟨t, x, v, a, b, rfl, h1, h2, n, s⟩ := h
  exact ⟨t, x, v, a, b, rfl, tput h1 e k, tput h2 e k, n.put e k, s⟩
theorem Item.same {ca : Nat → Addr} {H H' : Hp} {z : V} (h : Item ca H z) (s : Same H H') : Item ca H' z := by
  obtain ⟨t, x, v, a, b, rfl, h1, h2, n, z⟩ := h
  exact ⟨t, x, v, a, b, rfl, s _ _ h1, s _ _ h2, n.same s, z⟩
/-- the numbers of a list and their fractions, beside each other -/
def Nums (ca : Nat → Addr) (H : Hp) : List V → List (Int × Int) → Prop := Paired fun x f => NumQ ca H x f.1 f.2 ∧ Sz 200 f.1 ∧ Sz 200 f.2
theorem paired_get {α β : Type} {F : α → β → Prop} : ∀ {xs : List α} {fs : List β} {i : Nat} {x : α} {f : β}, Paired F xs fs → xs[i]? = some x → fs[i]? = some f → F x f
  | _, _, 0, _, _, .cons r _, h1, h2 => by
    simp at h1 h2
    subst h1; subst h2
    exact r
  | _, _, i + 1, _, _, .cons _ t, h1, h2 => paired_get (i := i) t (by simpa using h1) (by simpa using h2)
theorem paired_mem {α β : Type} {F : α → β → Prop} : ∀ {xs : List α} {fs : List β}, Paired F xs fs → ∀ f ∈ fs, ∃ x, F x f
  | _, _, .cons r t, f, h => by
    rcases List.mem_cons.mp h with rfl | h
    · exact ⟨_, r⟩
    · exact paired_mem t f h
theorem Nums.same {ca : Nat → Addr} {H H' : Hp} {xs : List V} {fs : List (Int × Int)} (h : Nums ca H xs fs) (s : Same H H') : Nums ca H' xs fs := Paired.mapP h fun _ _ n => ⟨n.1.same s, n.2⟩
theorem Nums.put {ca : Nat → Addr} {H H' : Hp} {c : Addr} {xs ys : List V} {fs : List (Int × Int)} (h : Nums ca H xs fs) (e : H c = some (.lst ys)) (k : Keep c H H') : Nums ca H' xs fs := Paired.mapP h fun _ _ n => ⟨n.1.put e k, n.2⟩
theorem Nums.ne {ca : Nat → Addr} {H : Hp} {xs : List V} {fs : List (Int × Int)} (h : Nums ca H xs fs) : ∀ f ∈ fs, f.2 ≠ 0 := fun f m => let ⟨_, n⟩ := paired_mem h f m; n.1.ne
theorem Nums.sz {ca : Nat → Addr} {H : Hp} {xs : List V} {fs : List (Int × Int)} (h : Nums ca H xs fs) : ∀ f ∈ fs, Sz 200 f.1 ∧ Sz 200 f.2 := fun f m => let ⟨_, n⟩ := paired_mem h f m; n.2
/-! ### lists of the same things -/
def DId : Eqv := fun x y H => DFlat x y H ∨ ∃ a, x = .ref a ∧ y = .ref a
theorem mon_id : Mon DId := fun _ _ _ _ _ d => d
theorem eqG_id {X : Cx} : EqG X 0 DId := EqG.or eqG_flat fun A pins s σ H x y u v sb I rx ry d => by
  obtain ⟨a, rfl, rfl⟩ := d
  cases rx
  cases ry
  exact SeqAt.EqAt.same (A := A) (s := s) (.ref a) X.prog X.w X.xe _ ⟨rfl, H, I, Ext.rfl'⟩
theorem op_eqId {X : Cx} (hr : Room 1 X.A) : OpR X (compareOp .Eq) (rEqG (DList DId)) := op_eqG (rcG_list mon_id eqG_id) hr
/-! ### a static method, called on its class -/
structure OwnS (P : Program) (w : World) (K : PySem.W.Frag) (mg : Str → Option Value) (base : Heap) (k : Nat) (C : Addr) (m : Str) (ps : List Str) (sp : Sp) : Prop where
  ex : ∃ f fd p mc, FnOk P w K mg base (L2.CX P w) k f fd ps sp ∧ ClX.CRead K C mc ∧ PySem.W.findCls K (.ref C) mc m = some (.get (.builtin "staticmethod.__get__") (.ref p) .none (.ref C)) ∧ (∃ rest, PySem.W.recIn K p "staticmethod" = some (.ref f :: rest)) ∧
    PySem.W.keepIn K (.ref f) = true ∧ Binds K fd ps []
def tStatS (C : Addr) (sp : Sp) (E : L2.St → XK) (ta : TE) (t : TA) : TE := fun σ H Q => ta σ H fun x H1 => x = .ref C ∧ t σ H1 fun vs H2 => sp vs H2 Q (E σ)
theorem pe_owns {X : Cx} {k : Nat} {C : Addr} {m : Str} {ps : List Str} {sp : Sp} {E : L2.St → XK} {pos apos : Pos} {e o : Expr} {es : List Expr} {ta : TE} {t : TA} {pl : Sem Bool} (O : OwnS X.prog X.w X.K X.mg X.base k C m ps sp) (he : PE X o ta) (hr : Room k X.A)
    (hx : ∀ σ, PassesAt (L2.CX X.prog X.w) X σ (E σ)) (ha : PA X (e :: es) t)
    (hst : starEach (e :: es) X.env = (false, eval e X.env) :: starEach es X.env := by rfl) (hpl : (backTo pos (starEach es X.env)).any (·.1) = false := by rfl)
    (ht : eval (.Call (.Attribute o m apos) (e :: es) [] pos) X.env = (do
      let ov ← eval o X.env
      standAt apos.atName
      let (f, first) ← holding [ov] (getMethod ov m pl)
      callWith pos f first (backTo pos (starEach (e :: es) X.env)) (backToKw pos (keywordEach [] X.env))) := by rfl) :
    PE X (.Call (.Attribute o m apos) (e :: es) [] pos) (tStatS C sp E ta t) := by
  obtain ⟨f, fd, q, mc, F, r, hc, ⟨rest, hp⟩, hk, hb⟩ := O.ex
  refine ⟨fun pins s σ H Q I h => ?_⟩
  refine PySem.W.methodCall_KW (pl := pl) (thn (he.run pins s σ H _ I h) fun u s1 ⟨x, H1, I1, rx, ex, q1⟩ => ?_) ht
  subst ex
  obtain rfl : u = Value.ref C := rx
  refine PySem.W.method_cls I1.kIn r.ga (PySem.W.cls_bind I1.kIn r.rd hc ?_)
  refine wpAny_call (PySem.W.sm_get (s := { s1 with toks := s1.toks + 1 }) I1.kIn hp (PySem.W.handed_on rfl ?_))
  have I2 := I1.tok (s1.toks + 1)
  refine PySem.W.callWith_K (first := []) (h₀ := X.base) I.ok.mod.kin hk (thn (ha.run pos pins _ σ H1 _ I2 q1) fun us s2 ⟨vs, H2, I3, rv, q2⟩ => ⟨I3.kIn, ?_⟩) hst hpl
  exact run_fnS F hr hb (hx σ) I3 rv q2
/-! ### an own error that is caught -/
theorem exm1 {K : PySem.W.Frag} {C : Addr} (h1 : PySem.W.subIn K (.ref C) (.type "BaseException") = some true) (h2 : PySem.W.isClsIn K C = true) (h3 : PySem.W.typeIn K (.ref C) = some (.type "type")) (h4 : PySem.W.subIn K (.ref C) (.ref C) = some true) :
    PySem.W.exmOne K (.ref C) (.ref C) = some true := by
  have h2' : (PySem.W.clsIn K C).isSome = true := h2
  unfold PySem.W.exmOne PySem.W.kitCls
  rw [if_pos (by rw [h1]; rfl)]
  simp only [h2', h3, h4]
  rfl
def tGuard (p : Prop) (t : TS) : TS := fun D σ H => p ∧ t D σ H
theorem pss_err {X : Cx} {st : List Stmt} {t : TS} {cls : Value} {d : Option Addr} {oe : Obj} {C : Addr} (hz : Zc cls d oe) (h : Zc (.ref C) none oe → PSs X st t) : PSs X st (tGuard (cls = .ref C ∧ d = none) t) :=
  ⟨fun pins s σ H D I q => (h (q.1.1 ▸ q.1.2 ▸ hz)).run pins s σ H D I q.2⟩
/-! ### the law's own promise, and the end -/
def sp_law (K : PySem.W.Frag) (_ : Nat → Addr) : Sp := fun vs H Q _ => ∃ (a : Addr) (ns : List Int), vs = [.ref a] ∧ SqL K H a (ns.map V.int) ∧ ∀ H' : Hp, Q (.bl true) H'
theorem walk {l : PySem.W.OpenLaw} {q : Program} {loose : List Str} {XP : (Str → Option Value) → Heap → Prop} {YP : World → Heap → Prop} {d : DefRec} {K : Params → PySem.W.Frag} (k : Nat) (hk : Room k callerA) (hn : l.most = some 63) (hdf : d.params.defaults = [])
    (hY : ∀ (w : World) (h : Heap), YP w h → (K w.params).In h)
    (F : ∀ (w : World) (mg : Str → Option Value) (fa : Addr) (h : Heap), (K w.params).In h → h.Ns mainGlobals mg → mg d.name = some (.ref fa) →
      ∃ fd : FuncData, (∀ (s : Shared) (u : Value), BindsTo s fd ⟨[u], []⟩ [("_law_script", u)]) ∧ ∀ base : Heap, (K w.params).In base → base.Ns mainGlobals mg → FnOk l.prog w (K w.params) mg base (L2.CX l.prog w) k fa fd ["_law_script"] (sp_law (K w.params) fun _ => 0)) :
    PySem.W.WalkO q loose XP YP l.row.toRowW d [] (fun f vs => PySem.call f vs) :=
  L2.walk_of (n := 63) (k := k) (x := "_law_script") (CX := fun w => L2.CX l.prog w) (sp := fun w => sp_law (K w.params) fun _ => 0) hn (by decide) hdf hk hY F (fun _ _ a ns _ _ hS => ⟨a, ns, rfl, hS, fun _ => rfl⟩)
    fun _ _ _ _ _ h => by
      obtain ⟨_, _, _, _, _, _, _, _, _, _, _, _, z⟩ := h
      exact z
theorem binds_all {K : PySem.W.Frag} {fd : FuncData} {ps : List Str} {ds : List Value} (v : Vals [] ds) (b : L2.Binds K fd ps ds) : L2.Binds K fd ps [] := by
  cases v
  exact b
end Lo

set_option Elab.async false
set_option linter.all false
set_option maxRecDepth 100000
set_option maxHeartbeats 4000000
namespace Lo
open PySem PySem.Spec PyProof.Rows L2
open TL (tl tl_append)
/-! ### further rules -/
/-- a statement that is never reached -/
def tDead : TS := fun _ _ _ => False
theorem ps_dead {X : Cx} {st : Stmt} : PS X st tDead := ⟨fun _ _ _ _ _ _ h => h.elim⟩
theorem pe_const {X : Cx} {x : Str} {i : Int} {p : Pos} (hm : ∃ t, X.mg x = some (.int i t)) (hg : Gl X x) (hdb : (x == ("__debug__" : Str)) = false := by decide) : PE X (.Name x p) (tC (.int i)) := by
  obtain ⟨t, h⟩ := hm
  exact pe_glob hg h ⟨t, rfl⟩ hdb
theorem op_mulS {X : Cx} : OpR X (binaryOp .Mult) (fun x y H Q => ∃ z n, x = .str z ∧ y = .int n ∧ MulOk z n ∧ Q (.str (Txt.mul z n)) H) := by
  intro pins s σ H x y v u Q I rx ry h
  obtain ⟨z, n, rfl, rfl, hok, q⟩ := h
  obtain ⟨t, rfl⟩ := rx
  obtain ⟨t2, rfl⟩ := ry
  exact SB.mul hok fun t' k => ⟨.str (Txt.mul z n), H, I.tok _, ⟨t', rfl⟩, q⟩
section
variable {X : Cx} {k i : Nat} {C : Addr} {ps : List Str} {sp : Sp} {E : L2.St → XK} {x m y : Str} {p pos apos : Pos} {e o : Expr} {es : List Expr} {ta : TE} {t : TA} {dvs : List V}
/-- C() -/
theorem pe_owni0 (O : OwnI X.prog X.w X.K X.mg X.base k x C ps dvs sp) (hr : Room (k + 1) X.A) (hg : Gl X x) (hx : ∀ σ, PassesAt (L2.CX X.prog X.w) X σ (E σ)) (hdb : (x == ("__debug__" : Str)) = false := by decide) :
    PE X (.Call (.Name x p) [] [] pos) (tMakeS C sp dvs E tNil) := by
  obtain ⟨f, fd, ds, F, M, hm, hb, hd⟩ := O.ex
  refine ⟨fun pins s σ H Q I h => ?_⟩
  refine wpAny_Call_Name_kw (ld_glob I hg hm ?_ hdb)
  exact PySem.W.callWith_K0 I.kIn M.kp (run_makeS (us := []) (vs := []) M F hr hb hd (hx σ) I .nil h)
/-- cls(..), cls a name of the def that holds the class -/
def tMakeL (i : Nat) (C : Addr) (sp : Sp) (dvs : List V) (E : L2.St → XK) (t : TA) : TE := fun σ H Q => σ[i]? = some (some (.ref C)) ∧ tMakeS C sp dvs E t σ H Q
theorem pe_ownl (O : OwnI X.prog X.w X.K X.mg X.base k x C ps dvs sp) (hr : Room (k + 1) X.A) (hN : X.N[i]? = some y) (hv : Vis X.env.scope y) (hx : ∀ σ, PassesAt (L2.CX X.prog X.w) X σ (E σ)) (ha : PA X (e :: es) t)
    (hdb : (y == ("__debug__" : Str)) = false := by decide) (hcd : (y == ("__classdict__" : Str)) = false := by decide)
    (he : starEach (e :: es) X.env = (false, eval e X.env) :: starEach es X.env := by rfl) (hpl : (backTo pos (starEach es X.env)).any (·.1) = false := by rfl) :
    PE X (.Call (.Name y p) (e :: es) [] pos) (tMakeL i C sp dvs E t) := by
  obtain ⟨f, fd, ds, F, M, hm, hb, hd⟩ := O.ex
  refine ⟨fun pins s σ H Q I h => ?_⟩
  obtain ⟨hs, ht⟩ := h
  refine wpAny_Call_Name_kw (thn ((pe_var (pos := p) hN hv hdb hcd).run pins s σ H (fun v H1 => v = .ref C ∧ H1 = H) I ⟨.ref C, hs, rfl, rfl⟩) fun u s1 ⟨v, H1, I1, r1, q1⟩ => ?_)
  obtain ⟨rfl, rfl⟩ := q1
  cases r1
  refine PySem.W.callWith_K (h₀ := X.base) I.ok.mod.kin M.kp (thn (ha.run pos pins s1 σ _ _ I1 ht) fun us s2 ⟨vs, H2, I2, r, q⟩ => ⟨I2.kIn, ?_⟩) he hpl
  exact run_makeS M F hr hb hd (hx σ) I2 r q
end
/-- a field, the written part by its own name (within a comprehension) -/
theorem pe_fldK {X : Cx} {K : PySem.W.Frag} {e : Expr} {ta : TE} {f : Str} {pos : Pos} (he : PE X e ta) (hb : attributeBase e f X.env (eval e X.env) = eval e X.env) (hK : X.K = K) : PE X (.Attribute e f pos) (tFld K ta f) := by
  subst hK
  exact pe_fld he hb
/-- a class method, called on its class -/
structure OwnC (P : Program) (w : World) (K : PySem.W.Frag) (mg : Str → Option Value) (base : Heap) (k : Nat) (C : Addr) (m : Str) (ps : List Str) (sp : Sp) : Prop where
  ex : ∃ f fd p mc, FnOk P w K mg base (L2.CX P w) k f fd ps sp ∧ ClX.CRead K C mc ∧ ClX.CMet K C mc m p f ∧ Binds K fd ps []
theorem pe_ownc {X : Cx} {k : Nat} {C : Addr} {m : Str} {ps : List Str} {sp : Sp} {E : XK} {pos apos : Pos} {e o : Expr} {es : List Expr} {ta : TE} {t : TA} {pl : Sem Bool} (O : OwnC X.prog X.w X.K X.mg X.base k C m ps sp) (he : PE X o ta) (hr : Room k X.A)
    (hx : Passes (L2.CX X.prog X.w) X E) (ha : PA X (e :: es) t)
    (hst : starEach (e :: es) X.env = (false, eval e X.env) :: starEach es X.env := by rfl) (hpl : (backTo pos (starEach es X.env)).any (·.1) = false := by rfl)
    (ht : eval (.Call (.Attribute o m apos) (e :: es) [] pos) X.env = (do
      let ov ← eval o X.env
      standAt apos.atName
      let (f, first) ← holding [ov] (getMethod ov m pl)
      callWith pos f first (backTo pos (starEach (e :: es) X.env)) (backToKw pos (keywordEach [] X.env))) := by rfl) :
    PE X (.Call (.Attribute o m apos) (e :: es) [] pos) (ClX.tCMeth C sp E ta t) := by
  obtain ⟨f, fd, q, mc, F, r, c, hb⟩ := O.ex
  exact ClX.pe_cmeth he r c ((F.raw hb .nil).imp fun vs H Q E h => by rw [List.append_nil]; exact h) hr hx ha hst hpl ht
/-! ### an instance of another class on the right -/
section
open PySem.W
variable {prog : Program} {w : World} {A : Around} {E : Value → Shared → Prop} {s : Shared} {x y C D f g : Addr} {K : Frag} {ox oy : Obj} {od od' : Option Obj} {nm : String} {Q : Option Value → Shared → Prop} {rc ro : Option Value}
theorem bin1_other (X : K.In s.heap) (I : InstAt s.heap x ox C od) (J : InstAt s.heap y oy D od') (hc : selfFirst K C = true) (hs : findIn K (.ref C) (PySem.dunder nm) = some (some (.ref f))) (hf : isFn K (.ref f) = true) (hr : findIn K (.ref C) (dunderR nm) = some rc) (hp : rc = none ∨ ∃ g : Addr, rc = some (.ref g))
    (hcD : selfFirst K D = true) (hsD : findIn K (.ref D) (PySem.dunder nm) = some (some (.ref g))) (hrD : findIn K (.ref D) (dunderR nm) = some ro) (hpD : ro = none ∨ ∃ g : Addr, ro = some (.ref g)) (hne : C ≠ D) (hsub : subIn K (.ref D) (.ref C) = some false)
    (h : wpAny (model prog w) A (call (.ref f) [.ref x, .ref y]) (PySem.W.CmpBack fun v => Q (some v)) E s) : wpAny (model prog w) A (binaryOp1 nm (.ref x) (.ref y)) Q E s := by
  have one := ksp_try X I hs hf h
  have L3 : Looks (model prog w) s.heap (fillsNumberSlot (.ref C) nm) true := slot_fills X hc hs
  have L4 : Looks (model prog w) s.heap (fillsNumberSlot (.ref D) nm) true := slot_fills X hcD hsD
  have L1 : Looks (model prog w) s.heap (typeOf (.ref x)) (.ref C) := I.type
  have L2 : Looks (model prog w) s.heap (typeOf (.ref y)) (.ref D) := J.type
  have L5 : Looks (model prog w) s.heap (isSubtype (.ref D) (.ref C)) false := looks_subIn X hsub
  have L6 : Looks (model prog w) s.heap (numberSlotInPython (.ref C) nm) true := ksp_inPy X hs hr hp
  have L7 : Looks (model prog w) s.heap (numberSlotInPython (.ref D) nm) true := ksp_inPy X hsD hrD hpD
  have hne : (Value.ref C == Value.ref D) = false := Bool.eq_false_iff.mpr fun q => hne (Value.ref.inj (beq_iff_eq.mp q))
  obtain ⟨hh, gg, d, tt, os⟩ := s
  unfold binaryOp1
  refine wpAny_bind (L1.at (wpAny_bind (L2.at (wpAny_bind (L3.at ?_)))))
  simp only [hne, Bool.false_eq_true, if_false]
  ksp_lk
  refine wpAny_mono one (fun r s' hr => ?_) fun _ _ e => e
  obtain ⟨v, rfl, hq⟩ := hr
  ksp_lk
  exact hq
end
section
variable {X : Cx} {k : Nat} {C D : Addr} {ps : List Str} {sp : Sp} {E : XK}
/-- an instance of C on the left; an int, or an instance of C or of D on the right -/
def rOwnN (C D : Addr) (sp : Sp) (E : XK) : R2 := fun x y H Q => ∃ a dx fs, x = .ref a ∧ H a = some (.ins C dx fs) ∧ ((∃ i, y = .int i) ∨ (∃ b dy gs, y = .ref b ∧ H b = some (.ins C dy gs)) ∨ ∃ b dy gs, y = .ref b ∧ H b = some (.ins D dy gs)) ∧ sp [x, y] H Q E
theorem op_ownN (o : AOp) (A : Arith X.K C) (B : Arith X.K D) (hne : C ≠ D) (hsub : PySem.W.subIn X.K (.ref D) (.ref C) = some false) (O : OwnM X.prog X.w X.K X.mg X.base k C o.m ps sp) (hr : Room k X.A) (hx : Passes (L2.CX X.prog X.w) X E) :
    OpR X (binaryOp o.op) (rOwnN C D sp E) := by
  intro pins s σ H x y v u Q I rx ry h
  obtain ⟨a, dx, fs, ex, ha, hy, hsp⟩ := h
  rcases hy with h1 | h1 | ⟨b, dy, gs, ey, hb'⟩
  · exact op_own o A O hr hx pins s σ H x y v u Q I rx ry ⟨a, dx, fs, ex, ha, .inl h1, hsp⟩
  · exact op_own o A O hr hx pins s σ H x y v u Q I rx ry ⟨a, dx, fs, ex, ha, .inr h1, hsp⟩
  · subst ex
    subst ey
    obtain rfl : v = Value.ref a := rx
    obtain rfl : u = Value.ref b := ry
    obtain ⟨f, fd, Fo, hm, hb⟩ := O.ex
    obtain ⟨_, od, J⟩ := inst_at I ha
    obtain ⟨_, od2, J2⟩ := inst_at I hb'
    have h1 : PySem.W.findIn X.K (.ref C) (PySem.dunder o.op.info.2) = some (some (.ref f)) := by rw [o.em]; exact hm.at_
    have refl_of : ∀ {c : Addr}, Arith X.K c → ∃ rc, PySem.W.findIn X.K (.ref c) (dunderR o.op.info.2) = some rc ∧ refOr rc = true := by
      intro c A
      rw [o.er]
      obtain ⟨a, b, c, q1, q2, q3⟩ := A.refl
      cases o
      · exact ⟨_, q1⟩
      · exact ⟨_, q2⟩
      · exact ⟨_, q3⟩
    obtain ⟨rc, h2, hrc⟩ := refl_of A
    obtain ⟨rd, h3, hrd⟩ := refl_of B
    obtain ⟨g, h4⟩ : ∃ g : Addr, PySem.W.findIn X.K (.ref D) (PySem.dunder o.op.info.2) = some (some (.ref g)) := by
      rw [o.em]
      obtain ⟨a, b, c, q1, q2, q3⟩ := B.has
      cases o
      · exact ⟨_, q1⟩
      · exact ⟨_, q2⟩
      · exact ⟨_, q3⟩
    have run := run_fn (us := [.ref a, .ref b]) (vs := [.ref a, .ref b]) (dvs := []) Fo hr hb .nil hx I (.cons rfl (.cons rfl .nil)) hsp
    have run2 := wpAny_mono run (fun u s' q => back_of (R := fun v s' => ∃ z, some v = some z ∧ EP X pins σ Q z s') q fun v s' q => ⟨v, rfl, q⟩) fun _ _ e => e
    exact bin_of1 (bin1_other I.kIn J J2 A.sf h1 hm.fn h2 (refOr_of hrc) B.sf h4 h3 (refOr_of hrd) hne hsub run2)
end
/-! ### name = {..} of a comprehension, the name a local -/
theorem ps_setDc {X : Cx} {slot : Nat} {nm : Str} {np : Pos} {ke ve target src : Expr} {tests : List Expr} {sc : Scope} {mine : List (Str × Nat)} {pc ps : Pos} {ti : TI} {tg : TG} {tt : TT} {tk tv : TE} (calm : X.calm = true) (nodup : X.N.Nodup) (at_ : X.N[slot]? = some nm)
    (loc : X.env.scope.names.lookup nm = some .local) (sw : swapsWith (.DictComp ke ve [⟨target, src, tests, 0⟩] sc pc) (some (.Name nm np)) ps.line X.env = pure true) (over : PI X target src ti) (blk : BlkOk X.N X.env.scope sc mine)
    (pg : ∀ (s1 : Shared) (H1 : Hp) (c1 : Addr) (l1 : List (Str × Addr)) (f1 : List Addr), PG (X.blk s1 H1 sc (compEnvC sc l1 c1 X.env) f1) target tg)
    (pt : ∀ (s1 : Shared) (H1 : Hp) (c1 : Addr) (l1 : List (Str × Addr)) (f1 : List Addr), PTs (X.blk s1 H1 sc (compEnvC sc l1 c1 X.env) f1) tests tt)
    (pk : ∀ (s1 : Shared) (H1 : Hp) (c1 : Addr) (l1 : List (Str × Addr)) (f1 : List Addr), PE (X.blk s1 H1 sc (compEnvC sc l1 c1 X.env) f1) ke tk)
    (pv : ∀ (s1 : Shared) (H1 : Hp) (c1 : Addr) (l1 : List (Str × Addr)) (f1 : List Addr), PE (X.blk s1 H1 sc (compEnvC sc l1 c1 X.env) f1) ve tv) (fold : ∀ x, foldedSetIterable src X.env x = pure x := by intro _; rfl) :
    PS X (.Assign [.Name nm np] (.DictComp ke ve [⟨target, src, tests, 0⟩] sc pc) ps) (tAsg (tDc ti tg tt tk tv (mine.map (·.2))) (gName slot)) := by
  refine ⟨fun pins s σ H D I want => ?_⟩
  rw [exec_Assign_Name_used _ _ _ _ sw]
  refine wpAny_bind (wpAny_standAt (wpAny_bind ?_))
  show wpAny _ X.A (do let _ ← comprehension (.DictComp ke ve [⟨target, src, tests, 0⟩] sc pc) sc X.env (firstIterPos [⟨target, src, tests, 0⟩] pc) newDict false (eval src X.env) (some (assign (.Name nm np) X.env))) _ _ s
  have want : tDc ti tg tt tk tv (mine.map (·.2)) σ H (fun x H1 => gName slot x σ H1 D.nx) := want
  refine wpAny_bind (thn (dc_core (Qf := fun _ s' => SP X pins D .next s') calm nodup I over blk pg pt pk pv fold want fun new C s' m H' I' q ns fp => ?_) fun _ s' hq => wpAny_pure (wpAny_pure hq))
  show wpAny _ _ (assign (.Name nm np) X.env (.ref new)) _ _ _
  refine wpAny_assign_Name (store_ok2 (v := V.ref new) I' nodup at_ (.inl loc) rfl (fun s2 I2 ⟨a, sb, ha⟩ => ?_) (.inr loc))
  obtain ⟨g0, g1, g2, g3, g4, g5⟩ := fp
  have apart : C ≠ a := ha.elim (fun z => z ▸ g1) fun z e => g4 nm a z e.symm
  exact ⟨m, ns.sameBut sb apart, fun h3 sb3 => ⟨_, H', I2.turned (t' := s2.toks) (fun b o hb e => (sb3.2 b hb).trans e) g0 g1 g3 g4 g5, q⟩⟩
theorem sw_trueD {ke ve : Expr} {gs : List Comprehension} {sc : Scope} {pc np : Pos} {nm : Str} {l : Nat} {env : Env} (kind : env.scope.kind = .function) (loc : env.scope.names.lookup nm = some .local) (line : (np.line == pc.line) = true)
    (other : (sc.names.any fun (n, k) => n == nm && (k == .local || k == .cell)) = false) : swapsWith (.DictComp ke ve gs sc pc) (some (.Name nm np)) l env = pure true := by
  have one : env.kindOf nm = some .local := loc
  have two : env.blockKind = .function := by unfold Env.blockKind; rw [kind]; rfl
  unfold swapsWith
  simp only [two, one, other, Expr.pos, line]
  rfl
/-! ### words of letters -/
def Lets (z : Str) : Prop := ∀ c ∈ tl z, 97 ≤ c ∧ c ≤ 122
structure NameOk (z : Str) : Prop where
  le : z.length ≤ 12
  ne : 0 < z.length
  ls : Lets z
theorem lets_app {x y : Str} (h : Lets x) (k : Lets y) : Lets (x ++ y) := fun c m => by
  rw [tl_append] at m
  rcases List.mem_append.mp m with m | m
  · exact h c m
  · exact k c m
theorem len_app {x y : Str} : (x ++ y).length = x.length + y.length := by
  show (x.cps ++ y.cps).size = _
  rw [Array.size_append]
  rfl
theorem lets_cut {z : Str} {lo hi : Option Int} (h : Lets z) : Lets (cutS z lo hi) := fun c m => h c (by
  have m : c ∈ (z.cps.toList.drop (HT.sIx z.length 0 lo)).take (HT.sIx z.length z.length hi - HT.sIx z.length 0 lo) := by
    have e : tl (cutS z lo hi) = (z.cps.toList.drop (HT.sIx z.length 0 lo)).take (HT.sIx z.length z.length hi - HT.sIx z.length 0 lo) := by
      unfold cutS tl
      rfl
    rw [e] at m
    exact m
  exact List.mem_of_mem_drop (List.mem_of_mem_take m))
theorem len_cuts {z : Str} {w : Int} : (cutS z none (some w)).length + (cutS z (some w) none).length = z.length := by
  unfold cutS Str.length
  have e1 : HT.sIx z.cps.size 0 none = 0 := rfl
  have e2 : HT.sIx z.cps.size z.cps.size none = z.cps.size := rfl
  have e3 : HT.sIx z.cps.size z.cps.size (some w) = HT.sIx z.cps.size 0 (some w) := rfl
  have e4 := HT.sIx_le z.cps.size 0 (Nat.zero_le _) (some w)
  simp only [Str.length, e1, e2, e3, List.size_toArray, List.length_take, List.length_drop, Array.length_toList]
  omega
theorem lets_one {c : Nat} (h : 97 ≤ c ∧ c ≤ 122) : Lets ⟨#[c]⟩ := fun d m => by
  have e : d = c := by simpa [tl] using m
  subst e
  exact h
theorem len_one {c : Nat} : (⟨#[c]⟩ : Str).length = 1 := rfl
theorem lets_nil : Lets Str.empty := fun c m => by simp [tl, Str.empty] at m
theorem mul_01 {z : Str} {n : Int} (h : n = 0 ∨ n = 1) : MulOk z n ∧ (Txt.mul z n = Str.empty ∨ Txt.mul z n = z) := by
  rcases h with rfl | rfl
  · exact ⟨⟨by decide, fun z => absurd (by decide) z, fun z => absurd (by decide) z⟩, .inl rfl⟩
  · exact ⟨⟨by decide, fun _ z => by simp at z, fun _ z => by simp at z⟩, .inr rfl⟩
theorem uni_alpha : ∀ c : Fin 26, Unicode.isAlpha (97 + c) = true ∧ Unicode.isLower (97 + c) = true ∧ Unicode.isUpper (97 + c) = false ∧ Unicode.isTitle (97 + c) = false := by decide +kernel
theorem uni_of {c : Nat} (h : 97 ≤ c ∧ c ≤ 122) : Unicode.isAlpha c = true ∧ Unicode.isLower c = true ∧ Unicode.isUpper c = false ∧ Unicode.isTitle c = false := by
  have := uni_alpha ⟨c - 97, by omega⟩
  have e : 97 + (c - 97) = c := by omega
  simp only [e] at this
  exact this
def nmB (z : Str) : Bool := decide (z.length ≤ 12) && (Txt.isascii z && (Txt.isalpha z && Txt.islower z))
theorem NameOk.asc {z : Str} (h : NameOk z) : Txt.isascii z = true := by
  unfold Txt.isascii
  rw [← Array.all_toList, List.all_eq_true]
  intro c m
  have := h.ls c m
  exact decide_eq_true (by omega)
theorem NameOk.alp {z : Str} (h : NameOk z) : Txt.isalpha z = true := by
  unfold Txt.isalpha
  rw [Bool.and_eq_true]
  refine ⟨decide_eq_true h.ne, ?_⟩
  rw [← Array.all_toList, List.all_eq_true]
  exact fun c m => (uni_of (h.ls c m)).1
theorem NameOk.low {z : Str} (h : NameOk z) : Txt.islower z = true := by
  unfold Txt.islower
  rw [Bool.and_eq_true, ← Array.any_toList, List.any_eq_true, Bool.not_eq_true', ← Array.any_toList, List.any_eq_false]
  have n := h.ne
  refine ⟨?_, fun c m => ?_⟩
  · have m : z.cps[0]'n ∈ z.cps.toList := by simpa using Array.getElem_mem n
    exact ⟨z.cps[0]'n, m, (uni_of (h.ls _ m)).2.1⟩
  · have u := uni_of (h.ls c m)
    rw [u.2.2.1, u.2.2.2]
    decide
theorem NameOk.nm {z : Str} (h : NameOk z) : nmB z = true := by
  unfold nmB
  rw [h.asc, h.alp, h.low, decide_eq_true h.le]
  rfl
/-! ### sorted lists of words -/
theorem tl_inj {x y : Str} (h : tl x = tl y) : x = y := by
  obtain ⟨⟨a⟩⟩ := x
  obtain ⟨⟨b⟩⟩ := y
  cases (show a = b from h)
  rfl
theorem rising_pw : ∀ (p : Str) (l : List Str), risingS p l = true → (p :: l).Pairwise fun a b => ¬ tl b < tl a
  | p, [], _ => by simp
  | p, x :: r, h => by
    have h : (!ltCps x.cps.toList p.cps.toList && risingS x r) = true := h
    rw [Bool.and_eq_true, Bool.not_eq_true', ltCps_eq] at h
    have h1 : ¬ tl x < tl p := of_decide_eq_false h.1
    have ih := rising_pw x r h.2
    refine List.pairwise_cons.mpr ⟨fun y m => ?_, ih⟩
    rcases List.mem_cons.mp m with rfl | m
    · exact h1
    · have h2 := (List.pairwise_cons.mp ih).1 y m
      exact List.not_lt.mpr (List.le_trans (List.not_lt.mp h1) (List.not_lt.mp h2))
theorem sorted_pw {l : List Str} (h : sortedS l = true) : l.Pairwise fun a b => ¬ tl b < tl a := by
  cases l with
  | nil => exact .nil
  | cons x r => exact rising_pw x r h
theorem sorted_uniq {l m : List Str} (h : sortedS l = true) (k : sortedS m = true) (p : l.Perm m) : l = m :=
  List.Perm.eq_of_pairwise (fun a b _ _ h1 h2 => tl_inj (List.le_antisymm (List.not_lt.mp h1) (List.not_lt.mp h2))) (sorted_pw h) (sorted_pw k) p
theorem nodup_len {α : Type} [DecidableEq α] : ∀ {l m : List α}, l.Nodup → (∀ x ∈ l, x ∈ m) → l.length ≤ m.length
  | [], m, _, _ => Nat.zero_le _
  | x :: l, m, h, s => by
    obtain ⟨h1, h2⟩ := List.nodup_cons.mp h
    have hx := s x List.mem_cons_self
    have ih := nodup_len (l := l) (m := m.erase x) h2 fun y hy => (List.mem_erase_of_ne (fun e => h1 (by rw [← e]; exact hy))).mpr (s y (List.mem_cons_of_mem _ hy))
    rw [List.length_erase_of_mem hx] at ih
    have : 0 < m.length := List.length_pos_of_mem hx
    rw [List.length_cons]
    omega
theorem nodup_perm {α : Type} [DecidableEq α] {l m : List α} (h : l.Nodup) (k : m.Nodup) (s : ∀ x, x ∈ l ↔ x ∈ m) : l.Perm m := by
  rw [List.perm_iff_count]
  intro a
  rw [h.count, k.count]
  simp only [s a]
/-! ### tables by names -/
/-- the names that may stand in tables -/
structure Uni (N : List Str) : Prop where
  len : N.length ≤ 60
  ok : ∀ z ∈ N, NameOk z
structure KOk (N : List Str) (kvs : List (Key × V)) : Prop where
  nd : (kvs.map (·.1)).Nodup
  mem : ∀ kv ∈ kvs, ∃ z ∈ N, kv.1 = .inr z
theorem KOk.nil {N : List Str} : KOk N [] := ⟨.nil, fun _ h => nomatch h⟩
theorem KOk.len {N : List Str} {kvs : List (Key × V)} (h : KOk N kvs) : kvs.length ≤ N.length := by
  have e := nodup_len (m := N.map (Sum.inr : Str → Key)) h.nd fun k hk => by
    obtain ⟨kv, m, rfl⟩ := List.mem_map.mp hk
    obtain ⟨z, hz, e⟩ := h.mem kv m
    rw [e]
    exact List.mem_map.mpr ⟨z, hz, rfl⟩
  rw [List.length_map, List.length_map] at e
  exact e
theorem valV_mem {kvs : List (Key × V)} {k : Key} {v : V} (h : valV kvs k = some v) : (k, v) ∈ kvs := by
  unfold valV at h
  obtain ⟨p, h1, rfl⟩ := Option.map_eq_some_iff.mp h
  have e : decide (p.1 = k) = true := List.find?_some (p := fun kv : Key × V => decide (kv.1 = k)) h1
  have e := of_decide_eq_true e
  have m := List.mem_of_find?_eq_some h1
  obtain ⟨a, b⟩ := p
  cases e
  exact m
theorem valV_none {kvs : List (Key × V)} {k : Key} : valV kvs k = none ↔ k ∉ kvs.map (·.1) := by
  unfold valV
  rw [Option.map_eq_none_iff, List.find?_eq_none]
  constructor
  · intro h m
    obtain ⟨p, hp, e⟩ := List.mem_map.mp m
    exact h p hp (decide_eq_true e)
  · intro h p hp e
    exact h (List.mem_map.mpr ⟨p, hp, of_decide_eq_true e⟩)
theorem valV_of : ∀ {kvs : List (Key × V)} {k : Key} {v : V}, (kvs.map (·.1)).Nodup → (k, v) ∈ kvs → valV kvs k = some v
  | p :: r, k, v, h, m => by
    rw [List.map_cons] at h
    obtain ⟨h1, h2⟩ := List.nodup_cons.mp h
    rcases List.mem_cons.mp m with e | m
    · subst e
      exact valV_pos rfl
    · rw [valV_neg fun e => h1 (by rw [e]; exact List.mem_map.mpr ⟨_, m, rfl⟩)]
      exact valV_of h2 m
theorem KOk.put {N : List Str} {kvs : List (Key × V)} {z : Str} (h : KOk N kvs) (hz : z ∈ N) (v : V) : KOk N (putK kvs (.inr z) v) := by
  cases e : valV kvs (.inr z) with
  | none =>
    rw [putK_new v e]
    refine ⟨?_, fun kv m => ?_⟩
    · rw [List.map_append, List.nodup_append]
      refine ⟨h.nd, by simp, fun a ha b hb => ?_⟩
      have eb : b = .inr z := by simpa using hb
      rintro rfl
      rw [eb] at ha
      exact valV_none.mp e ha
    · rcases List.mem_append.mp m with m | m
      · exact h.mem kv m
      · cases List.mem_singleton.mp m
        exact ⟨z, hz, rfl⟩
  | some u =>
    have a : (kvs.any fun kv => decide (kv.1 = .inr z)) = true := by rw [valV_any, e]; rfl
    unfold putK
    rw [if_pos a]
    have hk : (kvs.map fun kv => if kv.1 = .inr z then (kv.1, v) else kv).map (·.1) = kvs.map (·.1) := by
      rw [List.map_map]
      refine List.map_congr_left fun kv _ => ?_
      show (if kv.1 = .inr z then (kv.1, v) else kv).1 = kv.1
      split <;> rfl
    refine ⟨by rw [hk]; exact h.nd, fun kv m => ?_⟩
    obtain ⟨kv', m', rfl⟩ := List.mem_map.mp m
    obtain ⟨y, hy, e'⟩ := h.mem kv' m'
    refine ⟨y, hy, ?_⟩
    split
    · exact e'
    · exact e'
theorem KOk.at_ {N : List Str} {kvs : List (Key × V)} {k : Key} {v : V} {i : Nat} (h : KOk N kvs) (e : kvs[i]? = some (k, v)) : ∃ z ∈ N, k = .inr z ∧ valV kvs (.inr z) = some v := by
  have m := List.mem_of_getElem? e
  obtain ⟨z, hz, ez⟩ := h.mem _ m
  have ez : k = .inr z := ez
  subst ez
  exact ⟨z, hz, rfl, valV_of h.nd m⟩
/-- what stands at the names -/
structure Tab (N : List Str) (R : Str → V → Prop) (Z : Str → Prop) (kvs : List (Key × V)) : Prop where
  k : KOk N kvs
  r : ∀ z v, valV kvs (.inr z) = some v → R z v
  z : ∀ z, valV kvs (.inr z) = none → Z z
theorem Tab.mono {N : List Str} {R R' : Str → V → Prop} {Z Z' : Str → Prop} {kvs : List (Key × V)} (h : Tab N R Z kvs) (a : ∀ z v, R z v → R' z v) (b : ∀ z, Z z → Z' z) : Tab N R' Z' kvs := ⟨h.k, fun z v e => a z v (h.r z v e), fun z e => b z (h.z z e)⟩
theorem Tab.off {N : List Str} {R : Str → V → Prop} {Z : Str → Prop} {kvs : List (Key × V)} (h : Tab N R Z kvs) {z : Str} (n : z ∉ N) : Z z := h.z z (by
  rw [valV_none]
  intro m
  obtain ⟨kv, m, e⟩ := List.mem_map.mp m
  obtain ⟨y, hy, e'⟩ := h.k.mem kv m
  rw [e] at e'
  cases e'
  exact n hy)
/-- the first i names of kvs are done: the new table holds what R says, or nothing where Z holds; the others are not in it -/
structure Part (N : List Str) (R : Str → V → Prop) (Z : Str → Prop) (kvs : List (Key × V)) (i : Nat) (new : List (Key × V)) : Prop where
  k : KOk N new
  r : ∀ z v, valV new (.inr z) = some v → R z v ∧ (.inr z : Key) ∈ (kvs.take i).map (·.1)
  z : ∀ z, valV new (.inr z) = none → (.inr z : Key) ∈ (kvs.take i).map (·.1) → Z z
theorem Part.start {N : List Str} {R : Str → V → Prop} {Z : Str → Prop} {kvs : List (Key × V)} : Part N R Z kvs 0 [] := ⟨.nil, fun z v e => (by rw [valV_nil] at e; cases e), fun z _ m => (by simp at m)⟩
theorem take_mem {kvs : List (Key × V)} {k y : Key} {v : V} {i : Nat} (e : kvs[i]? = some (k, v)) : y ∈ (kvs.take (i + 1)).map (·.1) ↔ y ∈ (kvs.take i).map (·.1) ∨ y = k := by
  rw [List.take_add_one, e, List.map_append, List.mem_append]
  simp
theorem Part.mono {N : List Str} {R R' : Str → V → Prop} {Z Z' : Str → Prop} {kvs new : List (Key × V)} {i : Nat} (h : Part N R Z kvs i new) (a : ∀ z v, R z v → R' z v) (b : ∀ z, Z z → Z' z) : Part N R' Z' kvs i new :=
  ⟨h.k, fun z v e => ⟨a z v (h.r z v e).1, (h.r z v e).2⟩, fun z e m => b z (h.z z e m)⟩
theorem Part.put {N : List Str} {R : Str → V → Prop} {Z : Str → Prop} {kvs new : List (Key × V)} {i : Nat} {z : Str} {v u : V} (h : Part N R Z kvs i new) (e : kvs[i]? = some (.inr z, u)) (hz : z ∈ N) (r : R z v) : Part N R Z kvs (i + 1) (putK new (.inr z) v) := by
  refine ⟨h.k.put hz v, fun y w q => ?_, fun y q m => ?_⟩
  · rw [valV_put] at q
    rw [take_mem e]
    by_cases c : (Sum.inr y : Key) = Sum.inr z
    · rw [if_pos c] at q
      cases q
      cases c
      exact ⟨r, .inr rfl⟩
    · rw [if_neg c] at q
      obtain ⟨a, b⟩ := h.r y w q
      exact ⟨a, .inl b⟩
  · rw [valV_put] at q
    by_cases c : (Sum.inr y : Key) = Sum.inr z
    · rw [if_pos c] at q
      cases q
    · rw [if_neg c] at q
      rcases (take_mem e).mp m with m | m
      · exact h.z y q m
      · exact absurd m c
theorem Part.skip {N : List Str} {R : Str → V → Prop} {Z : Str → Prop} {kvs new : List (Key × V)} {i : Nat} {z : Str} {u : V} (h : Part N R Z kvs i new) (e : kvs[i]? = some (.inr z, u)) (n : Z z) : Part N R Z kvs (i + 1) new := by
  refine ⟨h.k, fun y w q => ?_, fun y q m => ?_⟩
  · obtain ⟨a, b⟩ := h.r y w q
    exact ⟨a, (take_mem e).mpr (.inl b)⟩
  · rcases (take_mem e).mp m with m | m
    · exact h.z y q m
    · cases m
      exact n
theorem Part.done {N : List Str} {R : Str → V → Prop} {Z : Str → Prop} {kvs new : List (Key × V)} (h : Part N R Z kvs kvs.length new) (o : ∀ z, valV kvs (.inr z) = none → Z z) : Tab N R Z new := by
  refine ⟨h.k, fun z v e => (h.r z v e).1, fun z e => ?_⟩
  cases q : valV kvs (.inr z) with
  | none => exact o z q
  | some u =>
    refine h.z z e ?_
    rw [List.take_length]
    exact List.mem_map.mpr ⟨_, valV_mem q, rfl⟩
/-! ### locks -/
theorem same_lock {H H2 : Hp} {d : Addr} {od : Obj} {u : HO} (h : H d = some u) (s : Same (upd H d (.frz od u)) H2) : Same H (upd H2 d u) := fun a o e => by
  by_cases c : a = d
  · subst c
    rw [h] at e
    cases e
    exact upd_same
  · rw [upd_ne c]
    exact s a o (by rw [upd_ne c]; exact e)
/-- over what is locked already, or with a lock of its own -/
structure LkW (p q : Prop) : Prop where
  h : p ∨ q
def tLk (t : TS) : TS := fun D σ H => LkW (tLock t D σ H) (t D σ H)
def tLkE (t : TE) : TE := fun σ H Q => LkW (tLockE t σ H Q) (t σ H Q)
theorem ps_lk {X : Cx} {st : Stmt} {t : TS} (h : PS X st t) : PS X st (tLk t) := ⟨fun pins s σ H D I q => q.h.elim (fun q => (ps_lock h).run pins s σ H D I q) fun q => h.run pins s σ H D I q⟩
theorem pe_lk {X : Cx} {e : Expr} {t : TE} (h : PE X e t) : PE X e (tLkE t) := ⟨fun pins s σ H Q I q => q.h.elim (fun q => (pe_lock h).run pins s σ H Q I q) fun q => h.run pins s σ H Q I q⟩
/-- a dict comprehension over what Walk tells of -/
theorem dc_it {J : It} {n : Nat} {G : Hp → Prop} {Y : Nat → Hp → V → Hp → Prop} (w : Walk J n G Y) {g : TG} {tt : TT} {tk tv : TE} {vs : List Nat} {σ : L2.St} {H1 : Hp} {D : Addr} {Qd : Hp → Prop} (Pv : Nat → Hp → Prop) (h0 : Pv 0 (upd H1 D (.dK []))) (hG : ∀ i H, i ≤ n → Pv i H → G H)
    (hs : ∀ i x H H', i < n → Pv i H → Y i H x H' → g x (wipe σ vs) H' fun σ2 H2 => wipe σ2 vs = wipe σ vs ∧ tt σ2 H2 fun b H3 =>
      if b = true then tk σ2 H3 fun y H4 => tv σ2 H4 fun z H5 => ∃ kvs k, y = kV k ∧ H5 D = some (.dK kvs) ∧ kvs.length < sizeLine ∧ Pv (i + 1) (upd H5 D (.dK (putK kvs k z))) else Pv (i + 1) H3) (hd : ∀ H, Pv n H → Qd H) :
    ∃ W : Nat → Nat → Hp → Prop, (∃ m, W 0 m (upd H1 D (.dK []))) ∧ ∀ i m H, W i m H →
      (J.stop i H ∧ Qd H) ∨ (J.go i H ∧ ∃ Nx : Hp → Prop, (∀ H', Nx H' → ∃ m', m' < m ∧ W (i + 1) m' H') ∧ ∀ x H', J.yld i H x H' → g x (wipe σ vs) H' fun σ2 H2 => wipe σ2 vs = wipe σ vs ∧ tt σ2 H2 fun b H3 =>
        if b = true then tk σ2 H3 fun y H4 => tv σ2 H4 fun z H5 => ∃ kvs k, y = kV k ∧ H5 D = some (.dK kvs) ∧ kvs.length < sizeLine ∧ Nx (upd H5 D (.dK (putK kvs k z))) else Nx H3) := by
  refine ⟨fun i m H => m = n - i ∧ i ≤ n ∧ Pv i H, ⟨n, by simp, Nat.zero_le _, h0⟩, ?_⟩
  rintro i m H ⟨rfl, hi, p⟩
  have q := hG i H hi p
  by_cases hlt : i < n
  · refine .inr ⟨w.goes i H hlt q, Pv (i + 1), fun H' p' => ⟨n - (i + 1), by omega, rfl, hlt, p'⟩, fun x H' y => hs i x H H' hlt p (w.yields i H x H' hlt q y)⟩
  · have e : i = n := by omega
    subst e
    exact .inl ⟨w.stops H q, hd H p⟩
/-- the same over the keys of a locked dict with names -/
theorem dc_names {d : Addr} {od : Obj} {N : List Str} {kvs : List (Key × V)} (hk : KOk N kvs) {g : TG} {tt : TT} {tk tv : TE} {vs : List Nat} {σ : L2.St} {H1 : Hp} {D : Addr} {Qd : Hp → Prop} (Pv : Nat → Hp → Prop) (h0 : Pv 0 (upd H1 D (.dK [])))
    (hG : ∀ i H, i ≤ kvs.length → Pv i H → H d = some (.frz od (.dK kvs)))
    (hs : ∀ i z v H, kvs[i]? = some (.inr z, v) → z ∈ N → valV kvs (.inr z) = some v → Pv i H → g (.str z) (wipe σ vs) H fun σ2 H2 => wipe σ2 vs = wipe σ vs ∧ tt σ2 H2 fun b H3 =>
      if b = true then tk σ2 H3 fun y H4 => tv σ2 H4 fun z H5 => ∃ kvs k, y = kV k ∧ H5 D = some (.dK kvs) ∧ kvs.length < sizeLine ∧ Pv (i + 1) (upd H5 D (.dK (putK kvs k z))) else Pv (i + 1) H3) (hd : ∀ H, Pv kvs.length H → Qd H) :
    ∃ W : Nat → Nat → Hp → Prop, (∃ m, W 0 m (upd H1 D (.dK []))) ∧ ∀ i m H, W i m H →
      ((Itk d od kvs).stop i H ∧ Qd H) ∨ ((Itk d od kvs).go i H ∧ ∃ Nx : Hp → Prop, (∀ H', Nx H' → ∃ m', m' < m ∧ W (i + 1) m' H') ∧ ∀ x H', (Itk d od kvs).yld i H x H' → g x (wipe σ vs) H' fun σ2 H2 => wipe σ2 vs = wipe σ vs ∧ tt σ2 H2 fun b H3 =>
        if b = true then tk σ2 H3 fun y H4 => tv σ2 H4 fun z H5 => ∃ kvs k, y = kV k ∧ H5 D = some (.dK kvs) ∧ kvs.length < sizeLine ∧ Nx (upd H5 D (.dK (putK kvs k z))) else Nx H3) :=
  dc_it walk_keys Pv h0 hG (fun i x H H' hi p y => by
    obtain ⟨e, k, v, hkv, ex⟩ := y
    obtain ⟨z, hz, ek, hv⟩ := hk.at_ hkv
    subst e; subst ex; subst ek
    exact hs i z v _ hkv hz hv p) hd
/-- a list comprehension over the keys of a locked dict with names -/
theorem lc_names {d : Addr} {od : Obj} {N : List Str} {kvs : List (Key × V)} (hk : KOk N kvs) {g : TG} {tt : TT} {te : TE} {vs : List Nat} {σ : L2.St} {H1 : Hp} {D : Addr} {Qd : Hp → Prop} (Pv : Nat → Hp → Prop) (h0 : Pv 0 (upd H1 D (.lst [])))
    (hG : ∀ i H, i ≤ kvs.length → Pv i H → H d = some (.frz od (.dK kvs)))
    (hs : ∀ i z v H, kvs[i]? = some (.inr z, v) → z ∈ N → valV kvs (.inr z) = some v → Pv i H → g (.str z) (wipe σ vs) H fun σ2 H2 => wipe σ2 vs = wipe σ vs ∧ tt σ2 H2 fun b H3 =>
      if b = true then te σ2 H3 fun y H4 => ∃ acc, H4 D = some (.lst acc) ∧ acc.length < sizeLine ∧ Pv (i + 1) (upd H4 D (.lst (acc ++ [y]))) else Pv (i + 1) H3) (hd : ∀ H, Pv kvs.length H → Qd H) :
    ∃ W : Nat → Nat → Hp → Prop, (∃ m, W 0 m (upd H1 D (.lst []))) ∧ ∀ i m H, W i m H →
      ((Itk d od kvs).stop i H ∧ Qd H) ∨ ((Itk d od kvs).go i H ∧ ∃ Nx : Hp → Prop, (∀ H', Nx H' → ∃ m', m' < m ∧ W (i + 1) m' H') ∧ ∀ x H', (Itk d od kvs).yld i H x H' → g x (wipe σ vs) H' fun σ2 H2 => wipe σ2 vs = wipe σ vs ∧ tt σ2 H2 fun b H3 =>
        if b = true then te σ2 H3 fun y H4 => ∃ acc, H4 D = some (.lst acc) ∧ acc.length < sizeLine ∧ Nx (upd H4 D (.lst (acc ++ [y]))) else Nx H3) :=
  lc_it walk_keys Pv h0 hG (fun i x H H' hi p y => by
    obtain ⟨e, k, v, hkv, ex⟩ := y
    obtain ⟨z, hz, ek, hv⟩ := hk.at_ hkv
    subst e; subst ex; subst ek
    exact hs i z v _ hkv hz hv p) hd
/-- a for over the keys of a locked dict with names -/
theorem for_names {d : Addr} {od : Obj} {N : List Str} {kvs : List (Key × V)} (hk : KOk N kvs) {g : TG} {tb : TS} {D : Ends} {σ : L2.St} {H : Hp} (Pv : Nat → L2.St → Hp → Prop) (h0 : Pv 0 σ H) (hG : ∀ i σ H, i ≤ kvs.length → Pv i σ H → H d = some (.frz od (.dK kvs)))
    (hs : ∀ i z v σ H, kvs[i]? = some (.inr z, v) → z ∈ N → valV kvs (.inr z) = some v → Pv i σ H → g (.str z) σ H fun σ2 H2 => tb { D with nx := Pv (i + 1), ct := Pv (i + 1), bk := D.nx } σ2 H2) (hd : ∀ σ H, Pv kvs.length σ H → D.nx σ H) :
    ∃ W : Nat → Nat → L2.St → Hp → Prop, (∃ m, W 0 m σ H) ∧ ∀ i m σ H, W i m σ H →
      ((Itk d od kvs).stop i H ∧ D.nx σ H) ∨ ((Itk d od kvs).go i H ∧ ∃ N : L2.St → Hp → Prop, (∀ σ' H', N σ' H' → ∃ m', m' < m ∧ W (i + 1) m' σ' H') ∧ ∀ x H', (Itk d od kvs).yld i H x H' → g x σ H' fun σ2 H2 => tb { D with nx := N, ct := N, bk := D.nx } σ2 H2) :=
  for_it walk_keys Pv h0 hG (fun i x σ H H' hi p y => by
    obtain ⟨e, k, v, hkv, ex⟩ := y
    obtain ⟨z, hz, ek, hv⟩ := hk.at_ hkv
    subst e; subst ex; subst ek
    exact hs i z v σ _ hkv hz hv p) hd
/-! ### forms -/
abbrev Fm := Str → Int × Int
def RedF (f : Fm) : Prop := ∀ z, Red (f z).1 (f z).2
def SzF (n : Nat) (f : Fm) : Prop := ∀ z, Sz n (f z).1 ∧ Sz n (f z).2
theorem SzF.mono {n m : Nat} {f : Fm} (h : SzF n f) (l : n ≤ m := by decide) : SzF m f := fun z => ⟨(h z).1.mono l, (h z).2.mono l⟩
def ShR (ca : Nat → Addr) (f : Fm) (H : Hp) : Str → V → Prop := fun z v => ∃ q, v = .ref q ∧ RatAt ca H q (f z).1 (f z).2 ∧ (f z).1 ≠ 0
def ShZ (f : Fm) : Str → Prop := fun z => f z = (0, 1)
/-- the dict of a form's shares -/
def FormSh (ca : Nat → Addr) (H : Hp) (d : Addr) (N : List Str) (f : Fm) : Prop := ∃ kvs, H d = some (.dK kvs) ∧ Tab N (ShR ca f H) (ShZ f) kvs
def FormAt (ca : Nat → Addr) (H : Hp) (p : Addr) (N : List Str) (f : Fm) : Prop := ∃ dx d, H p = some (.ins (ca 3) dx [("_shares", .ref d)]) ∧ FormSh ca H d N f
theorem ShR.same {ca : Nat → Addr} {f : Fm} {H H' : Hp} (s : Same H H') {z : Str} {v : V} (h : ShR ca f H z v) : ShR ca f H' z v := by
  obtain ⟨q, e, r, n⟩ := h
  exact ⟨q, e, r.same s, n⟩
theorem RatAt.keep {ca : Nat → Addr} {H H' : Hp} {p c : Addr} {a b : Int} {u : HO} (h : RatAt ca H p a b) (e : H c = some u) (n : ∀ C dx fs, u ≠ .ins C dx fs) (k : Keep c H H') : RatAt ca H' p a b :=
  ⟨h.1, let ⟨dx, q⟩ := h.2; ⟨dx, k _ _ q (ne_of q e fun z => n _ _ _ z.symm)⟩⟩
theorem ShR.keep {ca : Nat → Addr} {f : Fm} {H H' : Hp} {c : Addr} {u : HO} (e : H c = some u) (n : ∀ C dx fs, u ≠ .ins C dx fs) (k : Keep c H H') {z : Str} {v : V} (h : ShR ca f H z v) : ShR ca f H' z v := by
  obtain ⟨q, e1, r, m⟩ := h
  exact ⟨q, e1, r.keep e n k, m⟩
theorem FormSh.same {ca : Nat → Addr} {H H' : Hp} {d : Addr} {N : List Str} {f : Fm} (h : FormSh ca H d N f) (s : Same H H') : FormSh ca H' d N f := by
  obtain ⟨kvs, e, t⟩ := h
  exact ⟨kvs, s _ _ e, t.mono (fun _ _ => ShR.same s) fun _ z => z⟩
theorem FormAt.same {ca : Nat → Addr} {H H' : Hp} {p : Addr} {N : List Str} {f : Fm} (h : FormAt ca H p N f) (s : Same H H') : FormAt ca H' p N f := by
  obtain ⟨dx, d, e, t⟩ := h
  exact ⟨dx, d, s _ _ e, t.same s⟩
theorem FormAt.put {ca : Nat → Addr} {H H' : Hp} {p c : Addr} {N : List Str} {f : Fm} {xs : List V} (h : FormAt ca H p N f) (e : H c = some (.lst xs)) (k : Keep c H H') : FormAt ca H' p N f := by
  obtain ⟨dx, d, e1, kvs, e2, t⟩ := h
  exact ⟨dx, d, k _ _ e1 (ne_of e1 e fun z => nomatch z), kvs, k _ _ e2 (ne_of e2 e fun z => nomatch z), t.mono (fun _ _ => ShR.keep e (fun _ _ _ z => nomatch z) k) fun _ z => z⟩
theorem red01 : Red 0 1 := ⟨by decide, by decide⟩
theorem FormSh.red {ca : Nat → Addr} {H : Hp} {d : Addr} {N : List Str} {f : Fm} (h : FormSh ca H d N f) : RedF f := fun z => by
  obtain ⟨kvs, _, t⟩ := h
  cases e : valV kvs (.inr z) with
  | none =>
    rw [show f z = (0, 1) from t.z z e]
    exact red01
  | some v =>
    obtain ⟨q, _, r, _⟩ := t.r z v e
    exact r.1
theorem FormAt.red {ca : Nat → Addr} {H : Hp} {p : Addr} {N : List Str} {f : Fm} (h : FormAt ca H p N f) : RedF f := by
  obtain ⟨_, _, _, t⟩ := h
  exact t.red
theorem FormAt.off {ca : Nat → Addr} {H : Hp} {p : Addr} {N : List Str} {f : Fm} (h : FormAt ca H p N f) {z : Str} (n : z ∉ N) : f z = (0, 1) := by
  obtain ⟨_, _, _, kvs, _, t⟩ := h
  exact t.off n
theorem RatAt.q {ca : Nat → Addr} {H : Hp} {p : Addr} {a b : Int} (h : RatAt ca H p a b) : RatQ ca H p a b := ⟨by have := h.1.pos; omega, by rw [nrm_id h.1]; exact h⟩
/-- sums, and products with c / d -/
def addP (x y : Int × Int) : Int × Int := nrm (x.1 * y.2 + y.1 * x.2) (x.2 * y.2)
def mulP (x y : Int × Int) : Int × Int := nrm (x.1 * y.1) (x.2 * y.2)
/-- numbers handed to a form -/
def NumR (ca : Nat → Addr) (f : Fm) (H : Hp) : Str → V → Prop := fun z v => NumV ca H v (f z).1 (f z).2
theorem NumR.same {ca : Nat → Addr} {f : Fm} {H H' : Hp} (s : Same H H') {z : Str} {v : V} (h : NumR ca f H z v) : NumR ca f H' z v := NumV.same h s
theorem dget {H : Hp} {d : Addr} {kvs : List (Key × V)} {z : Str} {v : V} (e : Rd H d (.dK kvs)) (h : valV kvs (.inr z) = some v) : DGet H d (.str z) (some v) := .inl ⟨kvs, .inr z, e, rfl, h.symm⟩
/-- what a form's dict is, while it is built over the keys of kvs -/
def Build (ca : Nat → Addr) (N : List Str) (f : Fm) (Z : Str → Prop) (R : Str → V → Hp → Prop) (H0 : Hp) (D : Addr) (kvs : List (Key × V)) (i : Nat) (H : Hp) : Prop :=
  Same H0 H ∧ ∃ new, H D = some (.dK new) ∧ Part N (fun z v => R z v H) Z kvs i new
theorem NumV.keep {ca : Nat → Addr} {H H' : Hp} {x : V} {c : Addr} {a b : Int} {u : HO} (h : NumV ca H x a b) (e : H c = some u) (n : ∀ C dx fs, u ≠ .ins C dx fs) (k : Keep c H H') : NumV ca H' x a b := h.imp id fun ⟨p, q, r⟩ => ⟨p, q, r.keep e n k⟩
theorem nd {kvs : List (Key × V)} : ∀ C dx fs, HO.dK kvs ≠ .ins C dx fs := fun _ _ _ z => nomatch z
theorem nf {o : Obj} {u : HO} : ∀ C dx fs, HO.frz o u ≠ .ins C dx fs := fun _ _ _ z => nomatch z
theorem KOk.line {N : List Str} {kvs : List (Key × V)} (h : KOk N kvs) (u : Uni N) : kvs.length < sizeLine := by
  have := h.len
  have := u.len
  rw [sizeLine_eq]
  omega
theorem Red.zero {t b : Int} (h : Red t b) (e : t = 0) : b = 1 := by
  subst e
  have c := h.cop
  have p := h.pos
  simp only [Int.natAbs_zero, Nat.gcd_zero_left] at c
  omega
theorem RatAt.keepN {ca : Nat → Addr} {H H' : Hp} {p c C dx : Addr} {a b : Int} (h : RatAt ca H p a b) (e : H c = some (.ins C dx [])) (k : Keep c H H') : RatAt ca H' p a b :=
  ⟨h.1, let ⟨dy, q⟩ := h.2; ⟨dy, k _ _ q (ne_of q e fun z => by injection z with _ _ h; cases h)⟩⟩
theorem ShR.keepN {ca : Nat → Addr} {f : Fm} {H H' : Hp} {c C dx : Addr} (e : H c = some (.ins C dx [])) (k : Keep c H H') {z : Str} {v : V} (h : ShR ca f H z v) : ShR ca f H' z v := by
  obtain ⟨q, e1, r, m⟩ := h
  exact ⟨q, e1, r.keepN e k, m⟩
theorem KOk.names {N : List Str} {kvs : List (Key × V)} (h : KOk N kvs) : ∃ ks : List Str, kvs.map (·.1) = ks.map Sum.inr ∧ ks.Nodup ∧ (∀ z, z ∈ ks ↔ ∃ v, valV kvs (.inr z) = some v) ∧ ks.length = kvs.length := by
  have all : ∀ l : List (Key × V), (∀ kv ∈ l, ∃ z ∈ N, kv.1 = .inr z) → ∃ ks : List Str, l.map (·.1) = ks.map Sum.inr := by
    intro l
    induction l with
    | nil => exact fun _ => ⟨[], rfl⟩
    | cons a l ih =>
      intro hm
      obtain ⟨z, _, e⟩ := hm a List.mem_cons_self
      obtain ⟨ks, e2⟩ := ih fun kv m => hm kv (List.mem_cons_of_mem _ m)
      exact ⟨z :: ks, by rw [List.map_cons, List.map_cons, e, e2]⟩
  obtain ⟨ks, e⟩ := all kvs h.mem
  have n := h.nd
  rw [e] at n
  refine ⟨ks, e, ?_, fun z => ?_, by have := congrArg List.length e; rw [List.length_map, List.length_map] at this; exact this.symm⟩
  · exact List.Pairwise.of_map Sum.inr (fun a b hab e => hab (by rw [e])) n
  · have m : z ∈ ks ↔ (Sum.inr z : Key) ∈ kvs.map (·.1) := by
      rw [e, List.mem_map]
      exact ⟨fun m => ⟨z, m, rfl⟩, fun ⟨y, m, q⟩ => by cases q; exact m⟩
    rw [m]
    cases q : valV kvs (.inr z) with
    | none => exact ⟨fun m => absurd m (valV_none.mp q), fun ⟨v, r⟩ => nomatch r⟩
    | some v => exact ⟨fun _ => ⟨v, rfl⟩, fun _ => List.mem_map.mpr ⟨_, valV_mem q, rfl⟩⟩
theorem Tab.put {N : List Str} {R : Str → V → Prop} {Z : Str → Prop} {kvs : List (Key × V)} {z : Str} {v : V} (h : Tab N R Z kvs) (hz : z ∈ N) (r : R z v) : Tab N R Z (putK kvs (.inr z) v) := by
  refine ⟨h.k.put hz v, fun y w q => ?_, fun y q => ?_⟩
  · rw [valV_put] at q
    by_cases c : (Sum.inr y : Key) = Sum.inr z
    · rw [if_pos c] at q
      cases q
      cases c
      exact r
    · rw [if_neg c] at q
      exact h.r y w q
  · rw [valV_put] at q
    by_cases c : (Sum.inr y : Key) = Sum.inr z
    · rw [if_pos c] at q
      cases q
    · rw [if_neg c] at q
      exact h.z y q
/-- .. where at z something else is told from then on -/
theorem Tab.set {N : List Str} {R R' : Str → V → Prop} {Z Z' : Str → Prop} {kvs : List (Key × V)} {z : Str} {v : V} (h : Tab N R Z kvs) (hz : z ∈ N) (r : R' z v) (a : ∀ y u, y ≠ z → R y u → R' y u) (b : ∀ y, y ≠ z → Z y → Z' y) : Tab N R' Z' (putK kvs (.inr z) v) := by
  refine ⟨h.k.put hz v, fun y w q => ?_, fun y q => ?_⟩
  · rw [valV_put] at q
    by_cases c : (Sum.inr y : Key) = Sum.inr z
    · rw [if_pos c] at q
      cases q
      cases c
      exact r
    · rw [if_neg c] at q
      exact a y w (fun e => c (by rw [e])) (h.r y w q)
  · rw [valV_put] at q
    by_cases c : (Sum.inr y : Key) = Sum.inr z
    · rw [if_pos c] at q
      cases q
    · rw [if_neg c] at q
      exact b y (fun e => c (by rw [e])) (h.z y q)
theorem Tab.nil {N : List Str} {R : Str → V → Prop} {Z : Str → Prop} (h : ∀ z, Z z) : Tab N R Z [] := ⟨.nil, fun z v e => (by rw [valV_nil] at e; cases e), fun z _ => h z⟩
theorem FormSh.mem {ca : Nat → Addr} {H : Hp} {N : List Str} {f : Fm} {kvs : List (Key × V)} (t : Tab N (ShR ca f H) (ShZ f) kvs) (z : Str) : (∃ v, valV kvs (.inr z) = some v) ↔ (f z).1 ≠ 0 := by
  cases q : valV kvs (.inr z) with
  | none => exact ⟨fun ⟨v, r⟩ => (nomatch r), fun n => absurd (by rw [show f z = (0, 1) from t.z z q]) n⟩
  | some v =>
    obtain ⟨_, _, _, n⟩ := t.r z v q
    exact ⟨fun _ => n, fun _ => ⟨v, rfl⟩⟩
/-- the form of one name -/
def oneF (z : Str) : Fm := fun y => if y = z then (1, 1) else (0, 1)
theorem addP_zero {x : Int × Int} (h : Red x.1 x.2) : addP x (0, 1) = x := by
  unfold addP
  rw [Int.mul_one, Int.zero_mul, Int.add_zero, Int.mul_one, nrm_id h]
theorem oneF_self {z : Str} : oneF z z = (1, 1) := if_pos rfl
theorem oneF_ne {z y : Str} (h : y ≠ z) : oneF z y = (0, 1) := if_neg h
theorem FormAt.ins {ca : Nat → Addr} {H : Hp} {p : Addr} {N : List Str} {f : Fm} (h : FormAt ca H p N f) : ∃ dx d, H p = some (.ins (ca 3) dx [("_shares", .ref d)]) := let ⟨dx, d, e, _⟩ := h; ⟨dx, d, e⟩
/-- a form and a form beside an operator of theirs -/
theorem fOwn2_of {ca : Nat → Addr} {H : Hp} {p q : Addr} {N N' : List Str} {f g : Fm} {sp : Sp} {E : XK} {Q : VK} (h : FormAt ca H p N f) (h2 : FormAt ca H q N' g) (k : sp [.ref p, .ref q] H Q E) : rOwn (ca 3) sp E (.ref p) (.ref q) H Q := by
  obtain ⟨dx, d, e⟩ := h.ins
  obtain ⟨dy, d2, e2⟩ := h2.ins
  exact ⟨p, dx, _, rfl, e, .inr ⟨q, dy, _, rfl, e2⟩, k⟩
/-- a form and an int -/
theorem fOwn_of {ca : Nat → Addr} {H : Hp} {p : Addr} {x : V} {N : List Str} {f : Fm} {sp : Sp} {E : XK} {Q : VK} (h : FormAt ca H p N f) (hx : ∃ i, x = .int i) (k : sp [.ref p, x] H Q E) : rOwn (ca 3) sp E (.ref p) x H Q := by
  obtain ⟨dx, d, e⟩ := h.ins
  exact ⟨p, dx, _, rfl, e, .inl hx, k⟩
theorem fRefl_of {ca : Nat → Addr} {H : Hp} {p : Addr} {i : Int} {N : List Str} {f : Fm} {sp : Sp} {E : XK} {Q : VK} (h : FormAt ca H p N f) (k : sp [.ref p, .int i] H Q E) : rRefl (ca 3) sp E (.int i) (.ref p) H Q := by
  obtain ⟨dx, d, e⟩ := h.ins
  exact ⟨i, p, dx, _, rfl, rfl, e, k⟩
theorem fUna_of {ca : Nat → Addr} {H : Hp} {p : Addr} {N : List Str} {f : Fm} {sp : Sp} {E : XK} {Q : VK} (h : FormAt ca H p N f) (k : sp [.ref p] H Q E) : rUna (ca 3) sp E (.ref p) H Q := by
  obtain ⟨dx, d, e⟩ := h.ins
  exact ⟨p, dx, _, rfl, e, k⟩
theorem nrm_0 {d : Int} (h : d ≠ 0) : nrm 0 d = (0, 1) := by
  rw [nrm_same h (show (1 : Int) ≠ 0 by decide) (show (0 : Int) * 1 = 0 * d by rw [Int.zero_mul, Int.zero_mul]), nrm_id red01]
theorem mulP_0 {c d : Int} (h : d ≠ 0) : mulP (0, 1) (c, d) = (0, 1) := by
  unfold mulP
  rw [Int.zero_mul, Int.one_mul, nrm_0 h]
theorem RatQ.keep {ca : Nat → Addr} {H H' : Hp} {p c : Addr} {a b : Int} {u : HO} (h : RatQ ca H p a b) (e : H c = some u) (n : ∀ C dx fs, u ≠ .ins C dx fs) (k : Keep c H H') : RatQ ca H' p a b := ⟨h.ne, h.at_.keep e n k⟩
theorem NumQ.keep {ca : Nat → Addr} {H H' : Hp} {x : V} {c : Addr} {a b : Int} {u : HO} (h : NumQ ca H x a b) (e : H c = some u) (n : ∀ C dx fs, u ≠ .ins C dx fs) (k : Keep c H H') : NumQ ca H' x a b := h.imp id fun ⟨p, q, r⟩ => ⟨p, q, r.keep e n k⟩
theorem NumQ.own {ca : Nat → Addr} {H : Hp} {x : V} {a b : Int} (h : NumQ ca H x a b) : (∃ i, x = .int i) ∨ (∃ b dy gs, x = .ref b ∧ H b = some (.ins (ca 3) dy gs)) ∨ ∃ b dy gs, x = .ref b ∧ H b = some (.ins (ca 2) dy gs) := by
  rcases h with ⟨e, _⟩ | ⟨p, e, r⟩
  · exact .inl ⟨_, e⟩
  · obtain ⟨dx, q⟩ := r.ins
    exact .inr (.inr ⟨p, dx, _, e, q⟩)
theorem fOwnN_of {ca : Nat → Addr} {H : Hp} {p : Addr} {x : V} {N : List Str} {f : Fm} {a b : Int} {sp : Sp} {E : XK} {Q : VK} (h : FormAt ca H p N f) (hx : NumQ ca H x a b) (k : sp [.ref p, x] H Q E) : rOwnN (ca 3) (ca 2) sp E (.ref p) x H Q := by
  obtain ⟨dx, d, e⟩ := h.ins
  exact ⟨p, dx, _, rfl, e, hx.own, k⟩
theorem mulP_neg {y : Int × Int} (h : Red y.1 y.2) : mulP y (-1, 1) = (-y.1, y.2) := by
  have n : y.2 ≠ 0 := by have := h.pos; omega
  unfold mulP
  show nrm (y.1 * -1) (y.2 * 1) = _
  rw [Int.mul_one, Int.mul_neg, Int.mul_one, nrm_neg n, nrm_id h]
theorem sub_0 {x y : Int × Int} (h : Red x.1 x.2) (k : Red y.1 y.2) : (addP x (mulP y (-1, 1))).1 = 0 ↔ x = y := by
  have n1 : x.2 ≠ 0 := by have := h.pos; omega
  have n2 : y.2 ≠ 0 := by have := k.pos; omega
  rw [mulP_neg k]
  unfold addP
  rw [nrm_zero (Int.mul_ne_zero n1 n2)]
  show x.1 * y.2 + -y.1 * x.2 = 0 ↔ x = y
  rw [Int.neg_mul]
  constructor
  · intro e
    obtain ⟨a, b⟩ := h.uniq k (show x.1 * y.2 = y.1 * x.2 by omega)
    exact Prod.ext a b
  · rintro rfl
    omega
/-! ### drawn words -/
theorem joinL_nil : ∀ ps : List (List Nat), TL.joinL [] ps = ps.flatten
  | [] => rfl
  | [p] => by simp [TL.joinL]
  | p :: q :: r => by
    show p ++ ([] ++ TL.joinL [] (q :: r)) = _
    rw [List.nil_append, joinL_nil (q :: r), List.flatten_cons (l := p)]
def Sign (z : Str) : Prop := ∃ c, (97 ≤ c ∧ c ≤ 122) ∧ z = ⟨#[c]⟩
theorem Sign.lets {z : Str} (h : Sign z) : Lets z := by
  obtain ⟨c, hc, rfl⟩ := h
  exact lets_one hc
theorem Sign.len {z : Str} (h : Sign z) : z.length = 1 := by
  obtain ⟨c, hc, rfl⟩ := h
  rfl
theorem tl_len {z : Str} : (tl z).length = z.length := by
  unfold tl Str.length
  rw [Array.length_toList]
theorem join_signs {zs : List Str} (h : ∀ z ∈ zs, Sign z) : Lets (Txt.join Str.empty zs) ∧ (Txt.join Str.empty zs).length = zs.length := by
  have e : tl (Txt.join Str.empty zs) = (zs.map tl).flatten := by
    rw [TL.join_eq, TL.tl_join]
    exact joinL_nil _
  constructor
  · intro c m
    rw [e] at m
    obtain ⟨l, hl, hc⟩ := List.mem_flatten.mp m
    obtain ⟨z, hz, rfl⟩ := List.mem_map.mp hl
    exact (h z hz).lets c hc
  · rw [← tl_len, e]
    clear e
    induction zs with
    | nil => rfl
    | cons z zs ih =>
      rw [List.map_cons, List.flatten_cons, List.length_append, ih fun y m => h y (List.mem_cons_of_mem _ m), tl_len, (h z List.mem_cons_self).len, List.length_cons]
      omega
theorem abc_all : (Str.ofString "abcdefghijklmnopqrstuvwxyz").length = 26 ∧ ∀ d : Fin 26, (Str.ofString "abcdefghijklmnopqrstuvwxyz").cps[d.val]? = some (97 + d.val) := by decide +kernel
/-- one of the letters -/
theorem abc_at {d : Int} (h0 : 0 ≤ d) (h1 : d < 26) : (Str.ofString "abcdefghijklmnopqrstuvwxyz").cps[d.toNat]? = some (97 + d.toNat) := abc_all.2 ⟨d.toNat, by omega⟩
theorem sign_abc {d : Int} (h1 : d < 26) : Sign ⟨#[97 + d.toNat]⟩ := ⟨_, by omega, rfl⟩
theorem rIxS_abc {d : Int} {H : Hp} {Q : VK} (h0 : 0 ≤ d) (h1 : d < 26) (k : Q (.str ⟨#[97 + d.toNat]⟩) H) : rIxS (.str (Str.ofString "abcdefghijklmnopqrstuvwxyz")) (.int d) H Q := by
  obtain ⟨n, rfl⟩ := Int.eq_ofNat_of_zero_le h0
  have e : (Str.ofString "abcdefghijklmnopqrstuvwxyz").cps.toList[n]? = some (97 + n) := by
    rw [Array.getElem?_toList]
    exact abc_at h0 h1
  exact ⟨_, _, _, rfl, rfl, line_le (by rw [abc_all.1]; decide), atI_nat e, k⟩
theorem keep_new {b D : Addr} {H H' : Hp} {o : HO} (k : Keep b H H') (n : H D = none) : Keep b H (upd H' D o) := fun a u e m => by
  rw [upd_ne (ne_of_none e n)]
  exact k a u e m
theorem size_line {n : Nat} (h : n < 10000) : n < sizeLine := Nat.lt_of_lt_of_le h (line_le (by decide))
theorem size_le {n : Nat} (h : n < 10000) : n ≤ sizeLine := Nat.le_of_lt (size_line h)
theorem strs_snoc {acc : List Str} {z : Str} : acc.map V.str ++ [V.str z] = (acc ++ [z]).map V.str := by simp
theorem keep_free {b p : Addr} {H H' : Hp} (k : Keep b H H') (n : H' p = none) (m : p ≠ b) : H p = none := by
  cases e : H p with
  | none => rfl
  | some o =>
    rw [k p o e m] at n
    cases n
theorem keep_put {b p : Addr} {H H1 H2 : Hp} (k : Keep b H H1) (k2 : Keep p H1 H2) (n : H p = none) : Keep b H H2 := fun a o e m => k2 a o (k a o e m) (ne_of_none e n)
/-- a text once or not at all -/
theorem op_mulS1 {X : Cx} : OpR X (binaryOp .Mult) (fun x y H Q => ∃ z n, x = .str z ∧ y = .int n ∧ (n = 0 ∨ n = 1) ∧ ∀ w, (w = Str.empty ∨ w = z) → Q (.str w) H) := by
  intro pins s σ H x y v u Q I rx ry h
  obtain ⟨z, n, rfl, rfl, hn, q⟩ := h
  obtain ⟨m1, m2⟩ := mul_01 (z := z) hn
  exact op_mulS pins s σ H _ _ v u Q I rx ry ⟨z, n, rfl, rfl, m1, q _ m2⟩
/-! ### the law's tables -/
def TupF (f : Fm) (H : Hp) : Str → V → Prop := fun z v => ∃ t, v = .ref t ∧ H t = some (.tup [.int (f z).1, .int (f z).2])
/-- a dict with a pair for each name -/
def TabAt (H : Hp) (d : Addr) (N : List Str) (f : Fm) : Prop := ∃ kvs, H d = some (.dK kvs) ∧ Tab N (TupF f H) (ShZ f) kvs
theorem TupF.same {f : Fm} {H H' : Hp} (s : Same H H') {z : Str} {v : V} (h : TupF f H z v) : TupF f H' z v := let ⟨t, e, q⟩ := h; ⟨t, e, s _ _ q⟩
theorem TupF.keep {f : Fm} {H H' : Hp} {c : Addr} {u : HO} (e : H c = some u) (n : ∀ xs, u ≠ .tup xs) (k : Keep c H H') {z : Str} {v : V} (h : TupF f H z v) : TupF f H' z v := let ⟨t, e1, q⟩ := h; ⟨t, e1, k _ _ q (ne_of q e fun z => n _ z.symm)⟩
theorem TabAt.same {H H' : Hp} {d : Addr} {N : List Str} {f : Fm} (h : TabAt H d N f) (s : Same H H') : TabAt H' d N f := let ⟨kvs, e, t⟩ := h; ⟨kvs, s _ _ e, t.mono (fun _ _ => TupF.same s) fun _ z => z⟩
theorem TabAt.put {H H' : Hp} {d c : Addr} {N : List Str} {f : Fm} {xs : List V} (h : TabAt H d N f) (e : H c = some (.lst xs)) (k : Keep c H H') : TabAt H' d N f :=
  let ⟨kvs, e1, t⟩ := h; ⟨kvs, k _ _ e1 (ne_of e1 e fun z => nomatch z), t.mono (fun _ _ => TupF.keep e (fun _ z => nomatch z) k) fun _ z => z⟩
theorem TabAt.off {H : Hp} {d : Addr} {N : List Str} {f : Fm} (h : TabAt H d N f) {z : Str} (n : z ∉ N) : f z = (0, 1) := let ⟨_, _, t⟩ := h; t.off n
theorem ndt {kvs : List (Key × V)} : ∀ xs, HO.dK kvs ≠ .tup xs := fun _ z => nomatch z
theorem nft {o : Obj} {u : HO} : ∀ xs, HO.frz o u ≠ .tup xs := fun _ z => nomatch z
def setF (f : Fm) (z : Str) (x : Int × Int) : Fm := fun y => if y = z then x else f y
theorem setF_self {f : Fm} {z : Str} {x : Int × Int} : setF f z x z = x := if_pos rfl
theorem setF_ne {f : Fm} {z y : Str} {x : Int × Int} (h : y ≠ z) : setF f z x y = f y := if_neg h
theorem setF_red {f : Fm} {z : Str} {x : Int × Int} (h : RedF f) (k : Red x.1 x.2) : RedF (setF f z x) := fun y => by
  unfold setF
  split
  · exact k
  · exact h y
theorem setF_sz {n : Nat} {f : Fm} {z : Str} {x : Int × Int} (h : SzF n f) (k : Sz n x.1 ∧ Sz n x.2) : SzF n (setF f z x) := fun y => by
  unfold setF
  split
  · exact k
  · exact h y
theorem zeroF_sz {n : Nat} (l : 1 ≤ n := by decide) : SzF n fun _ => (0, 1) := fun _ => ⟨Sz.zero.mono l, Sz.one.mono l⟩
theorem Tab.setT {N : List Str} {f : Fm} {H : Hp} {d p : Addr} {kvs : List (Key × V)} {y : Str} {x : Int × Int} (t : Tab N (TupF f H) (ShZ f) kvs) (hd : H d = some (.dK kvs)) (hy : y ∈ N) (hp : H p = some (.tup [.int x.1, .int x.2])) :
    TabAt (upd H d (.dK (putK kvs (.inr y) (.ref p)))) d N (setF f y x) := by
  refine ⟨_, upd_same, t.set hy ?_ (fun z u c r => ?_) fun z c n => ?_⟩
  · refine ⟨p, rfl, ?_⟩
    rw [setF_self, upd_ne (ne_of hp hd fun z => nomatch z)]
    exact hp
  · obtain ⟨q, e, h⟩ := TupF.keep hd ndt keep_upd r
    exact ⟨q, e, by rw [setF_ne c]; exact h⟩
  · show setF f y x z = (0, 1)
    rw [setF_ne c]
    exact n
theorem Part.again {N : List Str} {R : Str → V → Prop} {Z : Str → Prop} {kvs new : List (Key × V)} {i : Nat} {z : Str} {v : V} (h : Part N R Z kvs i new) (m : (Sum.inr z : Key) ∈ (kvs.take i).map (·.1)) (hz : z ∈ N) (r : R z v) : Part N R Z kvs i (putK new (.inr z) v) := by
  refine ⟨h.k.put hz v, fun y w q => ?_, fun y q m => ?_⟩
  · rw [valV_put] at q
    by_cases c : (Sum.inr y : Key) = Sum.inr z
    · rw [if_pos c] at q
      cases q
      cases c
      exact ⟨r, m⟩
    · rw [if_neg c] at q
      exact h.r y w q
  · rw [valV_put] at q
    by_cases c : (Sum.inr y : Key) = Sum.inr z
    · rw [if_pos c] at q
      cases q
    · rw [if_neg c] at q
      exact h.z y q m
theorem keep_lock {H H2 : Hp} {b d : Addr} {od : Obj} {u : HO} (h : H d = some u) (s : Keep b (upd H d (.frz od u)) H2) : Keep b H (upd H2 d u) := fun a o e n => by
  by_cases c : a = d
  · subst c
    rw [h] at e
    cases e
    exact upd_same
  · rw [upd_ne c]
    exact s a o (by rw [upd_ne c]; exact e) n
theorem same_updL {H H1 : Hp} {d : Addr} {o : HO} (s : Same H H1) : Same (upd H d o) (upd H1 d o) := fun a u e => by
  by_cases c : a = d
  · subst c
    rw [upd_same] at e ⊢
    exact e
  · rw [upd_ne c] at e ⊢
    exact s a u e
theorem Bag.ned {H : Hp} {L b d : Addr} {kvs : List (Key × V)} (h : Bag H L b) (e : H d = Option.some (.dK kvs)) : d ≠ b ∧ d ≠ L := by
  obtain ⟨ns, i, big, mix, cnt, h1, h2, h3⟩ := h
  exact ⟨ne_of e h1 fun z => (nomatch z), ne_of e h2 fun z => nomatch z⟩
/-! ### lists of words compared -/
theorem strs_lay : ∀ {zs : List Str}, (∀ z ∈ zs, Lets z) → PyData.canLayAll0 (zs.map PyData.str) = true ∧ PyData.depthAll (zs.map PyData.str) = 0
  | [], _ => ⟨rfl, rfl⟩
  | z :: zs, h => by
    obtain ⟨a, b⟩ := strs_lay (zs := zs) fun y m => h y (List.mem_cons_of_mem _ m)
    have hz := h z List.mem_cons_self
    constructor
    · show (PyData.strOk z && PyData.canLayAll0 (zs.map PyData.str)) = true
      rw [a, Bool.and_true]
      show z.cps.all (· < 0x110000) = true
      rw [← Array.all_toList, List.all_eq_true]
      intro c m
      have := hz c m
      exact decide_eq_true (by omega)
    · show max 0 (PyData.depthAll (zs.map PyData.str)) = 0
      rw [b]
      rfl
theorem strs_dp {K : PySem.W.Frag} {H : Hp} : ∀ {zs : List Str}, DpAll K H (zs.map V.str) (zs.map PyData.str)
  | [] => .nil
  | z :: zs => .cons (.str z) strs_dp
theorem neS {K : PySem.W.Frag} {H : Hp} {p q : Addr} {zs : List Str} {Q : VK} (hp : H p = some (.lst (zs.map V.str))) (hq : H q = some (.lst (zs.map V.str))) (h : ∀ z ∈ zs, Lets z) (k : Q (.bl false) H) : rNeD K (.ref p) (.ref q) H Q := by
  obtain ⟨a, b⟩ := strs_lay h
  have c : (PyData.list (zs.map .str)).canLay0 = true := a
  have s : SeqAt.shaped (PyData.list (zs.map .str)) = true := by
    unfold SeqAt.shaped
    rw [c, Bool.true_and]
    refine decide_eq_true ?_
    show PyData.depthAll (zs.map .str) + 1 ≤ 64
    rw [b]
    decide
  refine ⟨_, _, .lst (SqL.of hp) strs_dp, .lst (SqL.of hq) strs_dp, s, s, ?_⟩
  rw [SeqAt.eqv_refl _ c]
  exact k
theorem eqS {K : PySem.W.Frag} {H : Hp} {p q : Addr} {zs : List Str} {Q : VK} (hp : H p = some (.lst (zs.map V.str))) (hq : H q = some (.lst (zs.map V.str))) (h : ∀ z ∈ zs, Lets z) (k : Q (.bl true) H) : rEqD K (.ref p) (.ref q) H Q := by
  obtain ⟨a, b⟩ := strs_lay h
  have c : (PyData.list (zs.map .str)).canLay0 = true := a
  have s : SeqAt.shaped (PyData.list (zs.map .str)) = true := by
    unfold SeqAt.shaped
    rw [c, Bool.true_and]
    refine decide_eq_true ?_
    show PyData.depthAll (zs.map .str) + 1 ≤ 64
    rw [b]
    decide
  refine ⟨_, _, .lst (SqL.of hp) strs_dp, .lst (SqL.of hq) strs_dp, s, s, ?_⟩
  rw [SeqAt.eqv_refl _ c]
  exact k
theorem pw_uniq {l m : List Str} (h : l.Pairwise fun a b => ¬ tl b < tl a) (k : m.Pairwise fun a b => ¬ tl b < tl a) (a : l.Nodup) (b : m.Nodup) (s : ∀ z, z ∈ l ↔ z ∈ m) : l = m :=
  List.Perm.eq_of_pairwise (fun a b _ _ h1 h2 => tl_inj (List.le_antisymm (List.not_lt.mp h1) (List.not_lt.mp h2))) h k (nodup_perm a b s)
/-! ### tables added and multiplied -/
def sumF (s : Int) (f g : Fm) : Fm := fun z => nrm ((f z).1 * (g z).2 + s * (g z).1 * (f z).2) ((f z).2 * (g z).2)
def timesF (f : Fm) (c d : Int) : Fm := fun z => mulP (f z) (c, d)
theorem keys_str {kvs : List (Key × V)} {ks : List Str} (e : kvs.map (·.1) = ks.map Sum.inr) : (kvs.map fun kv => kV kv.1) = ks.map V.str := by
  have := congrArg (List.map kV) e
  rw [List.map_map, List.map_map] at this
  exact this
def doneF (L : List Str) (h : Fm) : Fm := fun z => if z ∈ L then h z else (0, 1)
theorem doneF_red {L : List Str} {h : Fm} (r : RedF h) : RedF (doneF L h) := fun z => by
  unfold doneF
  split
  · exact r z
  · exact red01
theorem doneF_snoc {L : List Str} {h : Fm} {y : Str} : doneF (L ++ [y]) h = setF (doneF L h) y (h y) := by
  funext z
  unfold doneF setF
  by_cases c : z = y
  · subst c
    simp
  · simp [c]
theorem sumF_red {s : Int} {f g : Fm} (rf : RedF f) (rg : RedF g) : RedF (sumF s f g) := fun z => nrm_red (Int.mul_ne_zero (by have := (rf z).pos; omega) (by have := (rg z).pos; omega))
theorem sumF_add {f g : Fm} : sumF 1 f g = fun z => addP (f z) (g z) := by
  funext z
  unfold sumF addP
  rw [Int.one_mul]
theorem sumF_sub {f g : Fm} (r : RedF g) : sumF (-1) f g = fun z => addP (f z) (mulP (g z) (-1, 1)) := by
  funext z
  rw [mulP_neg (r z)]
  unfold sumF addP
  show nrm ((f z).1 * (g z).2 + -1 * (g z).1 * (f z).2) _ = nrm ((f z).1 * (g z).2 + -(g z).1 * (f z).2) _
  rw [Int.neg_mul 1, Int.one_mul]
theorem sumF_off {s : Int} {f g : Fm} {z : Str} (a : f z = (0, 1)) (b : g z = (0, 1)) : sumF s f g z = (0, 1) := by
  unfold sumF
  rw [a, b]
  show nrm (0 * 1 + s * 0 * 1) (1 * 1) = (0, 1)
  rw [Int.mul_zero]
  exact nrm_0 (by decide)
theorem rd_lock {H : Hp} {a b : Addr} {u v : HO} {od : Obj} (h1 : H a = some u) (h2 : H b = some v) : Rd (upd H b (.frz od v)) a u := by
  by_cases c : a = b
  · subst c
    rw [h1] at h2
    cases h2
    exact .inr ⟨od, upd_same⟩
  · exact .inl (by rw [upd_ne c]; exact h1)
theorem rd_same {H H' : Hp} {a : Addr} {u : HO} (s : Same H H') (h : Rd H a u) : Rd H' a u := h.imp (fun e => s _ _ e) fun ⟨o, e⟩ => ⟨o, s _ _ e⟩
theorem dget_at {H : Hp} {d : Addr} {kvs : List (Key × V)} {z : Str} (e : Rd H d (.dK kvs)) : DGet H d (.str z) (valV kvs (.inr z)) := .inl ⟨kvs, .inr z, e, rfl, rfl⟩
theorem get_tup {H : Hp} {N : List Str} {f : Fm} {kvs : List (Key × V)} {z : Str} {p : Addr} (t : Tab N (TupF f H) (ShZ f) kvs) (hp : H p = some (.tup [.int 0, .int 1])) : ∃ u, (valV kvs (.inr z)).getD (.ref p) = .ref u ∧ H u = some (.tup [.int (f z).1, .int (f z).2]) := by
  cases q : valV kvs (.inr z) with
  | none => exact ⟨p, rfl, by rw [show f z = (0, 1) from t.z z q]; exact hp⟩
  | some v =>
    obtain ⟨u, rfl, h⟩ := t.r z v q
    exact ⟨u, rfl, h⟩
theorem fsame {ca : Nat → Addr} {H H' : Hp} {p : Addr} {N : List Str} {f : Fm} (s : Same H H') (h : FormAt ca H p N f) : FormAt ca H' p N f := h.same s
theorem tsame {H H' : Hp} {d : Addr} {N : List Str} {f : Fm} (s : Same H H') (h : TabAt H d N f) : TabAt H' d N f := h.same s
theorem addP_sz {n m : Nat} {x y : Int × Int} (hx : Sz n x.1 ∧ Sz n x.2) (hy : Sz m y.1 ∧ Sz m y.2) (nx : x.2 ≠ 0) (ny : y.2 ≠ 0) : Sz (n + m + 1) (addP x y).1 ∧ Sz (n + m + 1) (addP x y).2 := by
  have n0 := Int.mul_ne_zero nx ny
  unfold addP
  exact ⟨((hx.1.mul hy.2).add' ((hy.1.mul hx.2).mono (by omega))).le (nrm_le1 n0), ((hx.2.mul hy.2).mono (by omega)).le (nrm_le2 n0)⟩
theorem mulP_sz {n m : Nat} {x y : Int × Int} (hx : Sz n x.1 ∧ Sz n x.2) (hy : Sz m y.1 ∧ Sz m y.2) (nx : x.2 ≠ 0) (ny : y.2 ≠ 0) : Sz (n + m) (mulP x y).1 ∧ Sz (n + m) (mulP x y).2 := by
  have n0 := Int.mul_ne_zero nx ny
  unfold mulP
  exact ⟨(hx.1.mul hy.1).le (nrm_le1 n0), (hx.2.mul hy.2).le (nrm_le2 n0)⟩
theorem RedF.ne {f : Fm} (h : RedF f) (z : Str) : (f z).2 ≠ 0 := by have := (h z).pos; omega
theorem addF_sz {n m k : Nat} {f g : Fm} (hf : SzF n f) (hg : SzF m g) (rf : RedF f) (rg : RedF g) (l : n + m + 1 ≤ k := by decide) : SzF k fun z => addP (f z) (g z) := fun z =>
  let ⟨a, b⟩ := addP_sz (hf z) (hg z) (rf.ne z) (rg.ne z); ⟨a.mono l, b.mono l⟩
theorem mulF_sz {n m k : Nat} {f : Fm} {c d : Int} (hf : SzF n f) (rf : RedF f) (hc : Sz m c) (hd : Sz m d) (nd : d ≠ 0) (l : n + m ≤ k := by decide) : SzF k fun z => mulP (f z) (c, d) := fun z =>
  let ⟨a, b⟩ := mulP_sz (y := (c, d)) (hf z) ⟨hc, hd⟩ (rf.ne z) nd; ⟨a.mono l, b.mono l⟩
theorem neg_sub {x y : Int × Int} (h : Red x.1 x.2) (k : Red y.1 y.2) : mulP (addP x (mulP y (-1, 1))) (-1, 1) = addP y (mulP x (-1, 1)) := by
  have n1 : x.2 ≠ 0 := by have := h.pos; omega
  have n2 : y.2 ≠ 0 := by have := k.pos; omega
  rw [mulP_neg k, mulP_neg h]
  have r : Red (addP x (-y.1, y.2)).1 (addP x (-y.1, y.2)).2 := nrm_red (Int.mul_ne_zero n1 n2)
  rw [mulP_neg r]
  unfold addP
  show (-(nrm (x.1 * y.2 + -y.1 * x.2) (x.2 * y.2)).1, (nrm (x.1 * y.2 + -y.1 * x.2) (x.2 * y.2)).2) = nrm (y.1 * x.2 + -x.1 * y.2) (y.2 * x.2)
  rw [← nrm_neg (Int.mul_ne_zero n1 n2), Int.mul_comm y.2 x.2]
  congr 1
  rw [Int.neg_mul, Int.neg_mul]
  omega
/-! ### a dict and its copy -/
def Plain1 (v : V) : Prop := flatB v = true ∨ ∃ a, v = .ref a
theorem hits_copy {A : Around} {s : Shared} {all : List (Key × V)} {other : List (Key × Value)} (r : KV all other) : ∀ {part : List (Key × V)} {mine : List (Key × Value)}, KV part mine → (∀ e ∈ part, valV all e.1 = some e.2) → (∀ e ∈ part, Plain1 e.2) → PySem.W.KeqHits A s other mine true
  | _, _, .nil, _, _ => .nil
  | e :: part, (k, v) :: mine, .cons ⟨same, rv⟩ rest, hall, hplain => by
    obtain ⟨y, hy, ry⟩ := RelO.some_of (v := e.2) (o := valueAt other e.1) (by rw [← hall e List.mem_cons_self]; exact r.val e.1)
    have same : e.1 = k := same
    rw [same] at hy
    have tail := hits_copy (A := A) (s := s) r rest (fun x m => hall x (List.mem_cons_of_mem _ m)) fun x m => hplain x (List.mem_cons_of_mem _ m)
    have both : PySem.W.KeqHits A s other ((k, v) :: mine) (true && true) := by
      refine .hit hy ?_ tail
      rcases hplain e List.mem_cons_self with h | ⟨a, h⟩
      · exact eqAt_same rv ry h
      · rw [h] at rv ry
        cases rv
        cases ry
        exact SeqAt.EqAt.same (.ref a)
    exact both
def rNeCopy : R2 := fun x y H Q => ∃ (a b : Addr) (kvs : List (Key × V)), x = .ref a ∧ y = .ref b ∧ H a = some (.dK kvs) ∧ H b = some (.dK kvs) ∧ (kvs.map (·.1)).Nodup ∧ (∀ e ∈ kvs, Plain1 e.2) ∧ Q (.bl false) H
theorem op_ne_copy {X : Cx} (hu : X.A.units < cLine) : OpR X (compareOp .NotEq) rNeCopy := by
  intro pins s σ H x y v u Q I rx ry ⟨a, b, kvs, ex, ey, ea, eb, hnd, hpl, q⟩
  subst ex ey
  cases (show v = Value.ref a from rx)
  cases (show u = Value.ref b from ry)
  obtain ⟨_, la, va, ka, da⟩ := (show ObjOk X.prog X.w H s.heap a (.dK kvs) from I.hok a _ ea)
  obtain ⟨_, lb, vb, kb, db⟩ := (show ObjOk X.prog X.w H s.heap b (.dK kvs) from I.hok b _ eb)
  have len : va.length = vb.length := by rw [← ka.length, ← kb.length]
  refine PySem.W.keq_ne (knd := mixKind X.prog X.w) (r := true) la lb da db hu (fun _ => hits_copy kb ka (fun e m => valV_of hnd m) hpl) (fin_bl I q (by simp [len]))
def nameB (z : Str) : Bool := decide (z.length ≤ 12) && (decide (0 < z.length) && z.cps.toList.all fun c => decide (97 ≤ c) && decide (c ≤ 122))
theorem nameB_ok {z : Str} (h : nameB z = true) : NameOk z := by
  obtain ⟨h1, h⟩ := Bool.and_eq_true_iff.mp h
  obtain ⟨h2, h3⟩ := Bool.and_eq_true_iff.mp h
  refine ⟨of_decide_eq_true h1, of_decide_eq_true h2, fun c m => ?_⟩
  obtain ⟨a, b⟩ := Bool.and_eq_true_iff.mp (List.all_eq_true.mp h3 c m)
  exact ⟨of_decide_eq_true a, of_decide_eq_true b⟩
theorem namesB_ok {ws : List Str} (h : ws.all nameB = true) : ∀ z ∈ ws, NameOk z := fun z m => nameB_ok (List.all_eq_true.mp h z m)
theorem FormSh.putD {ca : Nat → Addr} {H H' : Hp} {d c : Addr} {N : List Str} {f : Fm} {kvs : List (Key × V)} (h : FormSh ca H d N f) (e : H c = some (.dK kvs)) (n : d ≠ c) (k : Keep c H H') : FormSh ca H' d N f :=
  let ⟨ks, e1, t⟩ := h; ⟨ks, k _ _ e1 n, t.mono (fun _ _ => ShR.keep e nd k) fun _ z => z⟩
theorem TabAt.putD {H H' : Hp} {d c : Addr} {N : List Str} {f : Fm} {kvs : List (Key × V)} (h : TabAt H d N f) (e : H c = some (.dK kvs)) (n : d ≠ c) (k : Keep c H H') : TabAt H' d N f :=
  let ⟨ks, e1, t⟩ := h; ⟨ks, k _ _ e1 n, t.mono (fun _ _ => TupF.keep e ndt k) fun _ z => z⟩
theorem TabAt.ne {H : Hp} {d c : Addr} {N : List Str} {f : Fm} (h : TabAt H d N f) (n : H c = none) : d ≠ c := let ⟨_, e, _⟩ := h; ne_of_none e n
theorem numR_plain {ca : Nat → Addr} {H : Hp} {N : List Str} {f : Fm} {kvs : List (Key × V)} (t : Tab N (NumR ca f H) (ShZ f) kvs) : ∀ e ∈ kvs, Plain1 e.2 := fun e m => by
  obtain ⟨k, v⟩ := e
  obtain ⟨z, _, ek⟩ := t.k.mem _ m
  have ek : k = .inr z := ek
  subst ek
  rcases t.r z v (valV_of t.k.nd m) with ⟨h, _⟩ | ⟨p, h, _⟩
  · exact .inl (by show flatB v = true; rw [h]; rfl)
  · exact .inr ⟨p, h⟩
theorem FormSh.putL {ca : Nat → Addr} {H H' : Hp} {d c : Addr} {N : List Str} {f : Fm} {xs : List V} (h : FormSh ca H d N f) (e : H c = some (.lst xs)) (k : Keep c H H') : FormSh ca H' d N f :=
  let ⟨ks, e1, t⟩ := h; ⟨ks, k _ _ e1 (ne_of e1 e fun z => nomatch z), t.mono (fun _ _ => ShR.keep e (fun _ _ _ z => nomatch z) k) fun _ z => z⟩
theorem oneT {H : Hp} {d t : Addr} {N : List Str} {z : Str} (hz : z ∈ N) (ht : H t = some (.tup [.int 1, .int 1])) (n : t ≠ d) : TabAt (upd H d (.dK (mergeK [] [(.inr z, .ref t)]))) d N (oneF z) := by
  refine ⟨_, upd_same, Tab.set (R := fun _ _ => False) (Z := fun _ => True) (.nil fun _ => True.intro) hz ?_ (fun _ _ _ h => h.elim) fun y c _ => oneF_ne c⟩
  refine ⟨t, rfl, ?_⟩
  rw [oneF_self, upd_ne n]
  exact ht
end Lo

set_option Elab.async false
set_option linter.all false
set_option maxRecDepth 100000
set_option maxHeartbeats 4000000
namespace Lo
open PySem PySem.Spec PyProof.Rows L2
/-! ### own errors with fields -/
/-- __init__ of an error stores its parameters under the names fs -/
def spErr (C : Addr) (fs : List Str) : Sp := fun vs H Q _ => ∃ (a : Addr) (us : List V), vs = .ref a :: us ∧ us.length = fs.length ∧ H a = some (exo a C none) ∧
  ∀ (dx : Addr) (H2 : Hp), H dx = none → dx ≠ a → H2 a = some (exo a C (some dx)) → H2 dx = some (exd dx (fs.zip us).reverse) → (∀ b o, H b = some o → b ≠ a → H2 b = some o) → Q .non H2
structure OwnE (P : Program) (w : World) (K : PySem.W.Frag) (mg : Str → Option Value) (base : Heap) (x : Str) (C : Addr) (fs : List Str) : Prop where
  cl : OexC K C
  ex : ∃ f fd ps, FnOk P w K mg base (L2.CX P w) 1 f fd ps (spErr C fs) ∧ PySem.W.findIn K (.ref C) "__init__" = some (some (.ref f)) ∧ PySem.W.typeIn K (.ref f) = some (.type "function") ∧ mg x = some (.ref C) ∧ Binds K fd ps []
theorem pmk_err {X : Cx} {x : Str} {C : Addr} {fs : List Str} {e : Expr} {es : List Expr} {ta : TA} {p pos : Pos} (O : OwnE X.prog X.w X.K X.mg X.base x C fs) (hr : Room 2 X.A) (hg : Gl X x) (ha : PA X (e :: es) ta)
    (hdb : (x == ("__debug__" : Str)) = false := by decide) (he : starEach (e :: es) X.env = (false, eval e X.env) :: starEach es X.env := by rfl) (hpl : (backTo pos (starEach es X.env)).any (·.1) = false := by rfl) :
    PMk X (.Call (.Name x p) (e :: es) [] pos) (tMkO C (spErr C fs) [] ta) := by
  obtain ⟨f, fd, ps, F, hi, ht, hm, hb⟩ := O.ex
  exact pmk_oex O.cl hi ht F hr hb .nil passL hg hm ha hdb he hpl
/-- raise X(e, ..) -/
def tRaiseE (C : Addr) (fs : List Str) (W : WX) (ta : TA) : TS := fun _ σ H => tMkO C (spErr C fs) [] ta σ H fun cls d H' => W cls d σ H'
theorem ps_raiseE {X : Cx} {x : Str} {C : Addr} {fs : List Str} {e : Expr} {es : List Expr} {ta : TA} {W : WX} {p pos pos2 : Pos} (hc : X.calm = true) (O : OwnE X.prog X.w X.K X.mg X.base x C fs) (hr : Room 2 X.A) (tk : Takes X W) (hg : Gl X x) (ha : PA X (e :: es) ta)
    (hdb : (x == ("__debug__" : Str)) = false := by decide) (he : starEach (e :: es) X.env = (false, eval e X.env) :: starEach es X.env := by rfl) (hpl : (backTo pos (starEach es X.env)).any (·.1) = false := by rfl) :
    PS X (.Raise (some (.Call (.Name x p) (e :: es) [] pos)) none pos2) (tRaiseE C fs W ta) := ps_raise hc tk (pmk_err O hr hg ha hdb he hpl)
/-- behind the arguments' reading -/
theorem err_in {C : Addr} {fs : List Str} {us : List V} {H1 : Hp} {Q : XK} (hl : us.length = fs.length) (h100 : fs.length ≤ 100) (k : ∀ (d : Addr) (H2 : Hp), H1 d = none → Same H1 H2 → H2 d = some (.xd (fs.zip us).reverse) → Q (.ref C) (some d) H2) :
    us.length ≤ 1000 ∧ ∀ a, H1 a = none → spErr C fs (.ref a :: (us ++ [])) (upd H1 a (exo a C none))
      (fun v H2 => v = .non ∧ ∃ (d : Addr) (fs' : List (Str × V)), H2 a = some (exo a C (some d)) ∧ H2 d = some (exd d fs') ∧ H1 d = none ∧ Q (.ref C) (some d) (upd (L2.del H2 a) d (.xd fs'))) (fun _ _ _ => False) := by
  refine ⟨by omega, fun a na => ⟨a, us, by rw [List.append_nil], hl, upd_same, fun dx H2 nd ne ea ed sm => ⟨rfl, dx, _, ea, ed, ?_, ?_⟩⟩⟩
  · rw [upd_ne ne] at nd
    exact nd
  · rw [upd_ne ne] at nd
    refine k dx _ nd (fun b o e => ?_) upd_same
    have hb := ne_of_none e na
    rw [upd_ne (ne_of_none e nd), del_ne hb]
    exact sm b o (by rw [upd_ne hb]; exact e) hb
/-- the stores of __init__ -/
theorem err_1 {K : PySem.W.Frag} {C a : Addr} {f : Str} {y : V} {H : Hp} {R : Hp → Prop} (T : OexC K C) (hno : PySem.W.findIn K (.ref C) f = some none) (h : H a = some (exo a C none)) (k : ∀ dx H2, H dx = none → dx ≠ a → H2 a = some (exo a C (some dx)) → H2 dx = some (exd dx [(f, y)]) → (∀ b o, H b = some o → b ≠ a → H2 b = some o) → R H2) :
    ∃ a' C' : Addr, V.ref a = .ref a' ∧ OexC K C' ∧ PySem.W.findIn K (.ref C') f = some none ∧
      ((H a' = some (exo a' C' none) ∧ ∀ dx, H dx = none → dx ≠ a' → R (upd (upd H dx (exd dx [(f, y)])) a' (exo a' C' (some dx)))) ∨
        ∃ (dx : Addr) (fs : List (Str × V)), H a' = some (exo a' C' (some dx)) ∧ H dx = some (exd dx fs) ∧ fs.length ≤ 900 ∧ R (upd H dx (exd dx ((f, y) :: fs)))) :=
  ⟨a, C, rfl, T, hno, .inl ⟨h, fun dx n ne => k dx _ n ne upd_same (by rw [upd_ne ne]; exact upd_same) fun b o e m => by rw [upd_ne m, upd_ne (ne_of_none e n)]; exact e⟩⟩
theorem err_2 {K : PySem.W.Frag} {C a dx : Addr} {f : Str} {y : V} {H : Hp} {R : Hp → Prop} {fs : List (Str × V)} (T : OexC K C) (hno : PySem.W.findIn K (.ref C) f = some none) (h : H a = some (exo a C (some dx))) (h2 : H dx = some (exd dx fs)) (hl : fs.length ≤ 900) (hne : dx ≠ a)
    (k : ∀ H2, H2 a = some (exo a C (some dx)) → H2 dx = some (exd dx ((f, y) :: fs)) → (∀ b o, H b = some o → b ≠ dx → H2 b = some o) → R H2) :
    ∃ a' C' : Addr, V.ref a = .ref a' ∧ OexC K C' ∧ PySem.W.findIn K (.ref C') f = some none ∧
      ((H a' = some (exo a' C' none) ∧ ∀ dx, H dx = none → dx ≠ a' → R (upd (upd H dx (exd dx [(f, y)])) a' (exo a' C' (some dx)))) ∨
        ∃ (dx : Addr) (fs : List (Str × V)), H a' = some (exo a' C' (some dx)) ∧ H dx = some (exd dx fs) ∧ fs.length ≤ 900 ∧ R (upd H dx (exd dx ((f, y) :: fs)))) :=
  ⟨a, C, rfl, T, hno, .inr ⟨dx, fs, h, h2, hl, k _ (by rw [upd_ne hne.symm]; exact h) upd_same fun b o e m => by rw [upd_ne m]; exact e⟩⟩
end Lo

set_option Elab.async false
set_option linter.all false
set_option maxRecDepth 100000
set_option maxHeartbeats 4000000
namespace Lo
open PySem L2
/-! ### sets of words: set(list), sorted(set) -/
section
variable {P : Program} {w : World} {K : Type} [DecidableEq K]
def SetQ (knd : KeyKind P w K) (h : Heap) (a : Addr) (S : K → Bool) (n : Nat) : Prop :=
  ∃ o es ep t, h.get? a = some o ∧ o.ExactSet ∧ o.data = Data.set es ep t ∧ ElemsOf knd es.toList ∧ (es.toList.Pairwise fun x y => ∀ k, knd.is k x.2 = true → knd.is k y.2 = false) ∧
    (∀ k, S k = true ↔ ∃ e, e ∈ es.toList ∧ knd.is k e.2 = true) ∧ es.size < scanBound ∧ t.fits es.size = true ∧ es.size = n ∧ Ris t.place.toList ∧ (w.params.followText "set-order" = true ∨ t.led = true)
theorem gate {M : Model} {A : Around} {E : Value → Shared → Prop} {s : Shared} {α : Type} {g : Bool → Sem Unit} {b : Bool} {rest : Unit → Sem α} {R : α → Shared → Prop} (hg : ∀ (b : Bool) (s₁ : Shared) (Q' : Unit → Shared → Prop), Q' () s₁ → wpAny M A (g b) Q' E s₁)
    (k : (∀ (b : Bool) (s₁ : Shared) (Q' : Unit → Shared → Prop), Q' () s₁ → wpAny M A (g b) Q' E s₁) → wpAny M A (rest ()) R E s) : wpAny M A (g b >>= rest) R E s := wpAny_bind (hg _ _ _ (k hg))
theorem pw_sym {knd : KeyKind P w K} {es es' : List (Int × Value)} (h : es.Perm es') (k : es'.Pairwise fun x y => ∀ k, knd.is k x.2 = true → knd.is k y.2 = false) : es.Pairwise fun x y => ∀ k, knd.is k x.2 = true → knd.is k y.2 = false :=
  (h.pairwise_iff (fun {x y} hxy k hy => by
    cases e : knd.is k x.2 with
    | false => rfl
    | true => rw [hxy k e] at hy; exact hy.symm)).mpr k
theorem setQ_tail {knd : KeyKind P w K} {A : Around} {E : Value → Shared → Prop} {s : Shared} {a : Addr} {g : Bool → Sem Unit} (hg : ∀ (b : Bool) (s₁ : Shared) (Q' : Unit → Shared → Prop), Q' () s₁ → wpAny (model P w) A (g b) Q' E s₁)
    {o : Obj} {es : Array (Int × Value)} {ep : Nat} {t : SetTable} (ho : s.heap.get? a = some o) (hex : o.ExactSet) (hd : o.data = Data.set es ep t) {es1 : Array (Int × Value)} {t2 : SetTable} {S' : K → Bool}
    (hel : ElemsOf knd es1.toList) (hnd : es1.toList.Pairwise fun x y => ∀ k, knd.is k x.2 = true → knd.is k y.2 = false) (hm : ∀ k, S' k = true ↔ ∃ e, e ∈ es1.toList ∧ knd.is k e.2 = true) (hsb : es1.size < scanBound)
    (hf : t2.fits es1.size = true) (hr : Ris t2.place.toList) (hl : w.params.followText "set-order" = true ∨ t2.led = true) {wasDummy : Bool} {R : Option Bool → Shared → Prop}
    (h : ∀ h', Heap.SameBut a s.heap h' → SetQ knd h' a S' es1.size → R (some true) { s with heap := h' }) :
    wpAny (model P w) A (do
      storeSet a es1 t2
      if (!wasDummy && t2.tooFull) = true then do
        g (relayAll t2 es1 (SetTable.grown es1.size)).snd.snd
        storeSet a (relayAll t2 es1 (SetTable.grown es1.size)).fst (relayAll t2 es1 (SetTable.grown es1.size)).snd.fst
        pure (some true)
      else pure (some true)) R E s := by
  have e1 := store_at (es' := es1) (t' := t2) ho hd
  refine wpAny_bind (wpAny_storeSet_of ho hd ?_ (fits_of_scanBound hsb))
  have sb := Heap.SameBut.update s.heap a (Obj.putSet es1 t2)
  generalize s.heap.update a (Obj.putSet es1 t2) = h1 at *
  by_cases c : (!wasDummy && t2.tooFull) = true
  · rw [if_pos c]
    refine wpAny_bind (hg _ _ _ ?_)
    have hp := relayAll_perm t2 es1 (SetTable.grown es1.size)
    have hz : (relayAll t2 es1 (SetTable.grown es1.size)).fst.size = es1.size := by simpa using hp.length_eq
    refine wpAny_bind (wpAny_storeSet_of e1 rfl ?_ (fits_of_scanBound (by rw [hz]; exact hsb)))
    have e2 := store_at (es' := (relayAll t2 es1 (SetTable.grown es1.size)).fst) (t' := (relayAll t2 es1 (SetTable.grown es1.size)).snd.fst) e1 rfl
    have sb2 := sb.trans (Heap.SameBut.update h1 a (Obj.putSet (relayAll t2 es1 (SetTable.grown es1.size)).fst (relayAll t2 es1 (SetTable.grown es1.size)).snd.fst))
    refine wpAny_pure (h _ sb2 ⟨_, _, _, _, e2, ⟨hex.1, hex.2.1, hex.2.2⟩, rfl, fun e m => hel e (hp.mem_iff.mp m), pw_sym hp hnd, fun k => ?_, by rw [hz]; exact hsb, relayAll_fits _ _ _, hz, relayAll_ris _ _ _, ?_⟩)
    · rw [hm]
      exact ⟨fun ⟨e, m, q⟩ => ⟨e, hp.mem_iff.mpr m, q⟩, fun ⟨e, m, q⟩ => ⟨e, hp.mem_iff.mp m, q⟩⟩
    · rw [relayAll_led]
      exact hl
  · rw [if_neg c]
    exact wpAny_pure (h _ sb ⟨_, _, _, _, e1, ⟨hex.1, hex.2.1, hex.2.2⟩, rfl, hel, hnd, hm, hsb, hf, rfl, hr, hl⟩)
theorem setQ_add {knd : KeyKind P w K} {A : Around} {E : Value → Shared → Prop} {s : Shared} {a : Addr} {S : K → Bool} {n : Nat} {k : K} {x : Value} {Q : Bool → Shared → Prop}
    (hS : SetQ knd s.heap a S n) (hn : n + 1 < scanBound) (hx : knd.is k x = true) (hsc : x.scannable = true)
    (h : ∀ h', Heap.SameBut a s.heap h' → SetQ knd h' a (fun j => S j || decide (j = k)) (if S k = true then n else n + 1) → Q (!S k) { s with heap := h' }) :
    wpAny (model P w) A (setAddHashed a x (knd.hash k)) Q E s := by
  obtain ⟨o, es, ep, t, ho, hex, hd, hel, hnd, hm, hsb, hf, hsz, hr, hl⟩ := hS
  unfold setAddHashed
  refine wpAny_holding ?_
  unfold setAddHashedIn
  refine wpAny_bind (wpAny_setState_of ho hd hf ?_)
  simp only
  rw [byScan_of hsc hsb hel]
  rw [if_pos rfl]
  refine wpAny_bind ?_
  unfold setAddByScan
  refine wpAny_bind (wpAny_rule ?_)
  refine wpAny_bind (wpAny_setScan_of hx ho hd hf hel ?_)
  have hk : S k = true ↔ (es.toList.findIdx? fun e => knd.is k e.2).isSome = true := by
    rw [hm, List.findIdx?_isSome, List.any_eq_true]
  cases q : es.toList.findIdx? fun e => knd.is k e.2 with
  | some j =>
    rw [q] at hk
    have hk : S k = true := hk.mpr rfl
    refine wpAny_pure (wpAny_pure ?_)
    have e : (fun j => S j || decide (j = k)) = S := by
      funext j
      by_cases c : j = k
      · rw [c, hk]; rfl
      · rw [decide_eq_false c, Bool.or_false]
    have := h s.heap ⟨rfl, fun _ _ => rfl⟩ (by rw [e, if_pos hk]; exact ⟨o, es, ep, t, ho, hex, hd, hel, hnd, hm, hsb, hf, hsz, hr, hl⟩)
    rw [hk] at this
    exact this
  | none =>
    rw [q] at hk
    have hk : S k = false := by
      cases e : S k with
      | false => rfl
      | true => exact nomatch hk.mp e
    rw [hk, if_neg (fun z => nomatch z)] at h
    simp only
    have hp := layNew_perm t es (knd.hash k) x
    have hf1 := layNew_fits t es (knd.hash k) x
    have hr1 := layNew_ris t es (knd.hash k) x hr
    have hl1 := layNew_led t es (knd.hash k) x
    have hz : (layNew t es (knd.hash k) x).1.size = n + 1 := by
      have := hp.length_eq
      simp at this
      omega
    have hmem : ∀ e, e ∈ (layNew t es (knd.hash k) x).1.toList ↔ e ∈ es.toList ∨ e = (knd.hash k, x) := fun e => by
      rw [hp.mem_iff, Array.toList_push, List.mem_append, List.mem_singleton]
    have tl : ∀ (g : Bool → Sem Unit) (hg : ∀ (b : Bool) (s₁ : Shared) (Q' : Unit → Shared → Prop), Q' () s₁ → wpAny (model P w) A (g b) Q' E s₁) (t2 : SetTable), t2.fits (layNew t es (knd.hash k) x).1.size = true → Ris t2.place.toList → t2.led = t.led → wpAny (model P w) A (do
        storeSet a (layNew t es (knd.hash k) x).1 t2
        if (!(layNew t es (knd.hash k) x).2.2.1 && t2.tooFull) = true then do
          g (relayAll t2 (layNew t es (knd.hash k) x).1 (SetTable.grown (layNew t es (knd.hash k) x).1.size)).snd.snd
          storeSet a (relayAll t2 (layNew t es (knd.hash k) x).1 (SetTable.grown (layNew t es (knd.hash k) x).1.size)).fst (relayAll t2 (layNew t es (knd.hash k) x).1 (SetTable.grown (layNew t es (knd.hash k) x).1.size)).snd.fst
          pure (some true)
        else pure (some true)) (fun a_1 s' => wpAny (model P w) A (match a_1 with | some added => pure added | none => setAddHashedIn a x (knd.hash k) 99999) Q E s') E s := by
      intro g hg t2 f2 r2 l2
      refine setQ_tail (knd := knd) (S' := fun j => S j || decide (j = k)) hg ho hex hd ?_ ?_ ?_ (by rw [hz]; exact hn) f2 r2 (by rw [l2]; exact hl) fun h' sb hq => wpAny_pure (h h' sb (by rw [← hz]; exact hq))
      · intro e m
        rcases (hmem e).mp m with m | rfl
        · exact hel e m
        · exact ⟨⟨k, hx, rfl⟩, hsc⟩
      · refine pw_sym hp ?_
        rw [Array.toList_push, List.pairwise_append]
        refine ⟨hnd, List.pairwise_singleton _ _, fun e m y my j hj => ?_⟩
        rw [List.mem_singleton] at my
        subst my
        cases ex : knd.is j x with
        | false => rfl
        | true =>
          have ej := knd.inj x j k ex hx
          subst ej
          rw [(hm j).mpr ⟨e, m, hj⟩] at hk
          cases hk
      · intro j
        rw [Bool.or_eq_true, decide_eq_true_iff, hm]
        constructor
        · rintro (⟨e, m, q⟩ | rfl)
          · exact ⟨e, (hmem e).mpr (.inl m), q⟩
          · exact ⟨_, (hmem _).mpr (.inr rfl), hx⟩
        · rintro ⟨e, m, q⟩
          rcases (hmem e).mp m with m | rfl
          · exact .inl ⟨e, m, q⟩
          · exact .inr (knd.inj x j k q hx)
    refine gate (fun b s₁ Q' q => ?_) fun hg => ?_
    · cases b
      · exact wpAny_pure q
      · exact wpAny_rule q
    by_cases c : (layNew t es (knd.hash k) x).2.1.plain = true
    · rw [if_pos c, hashByValue_scannable 8 hsc]
      refine wpAny_bind (wpAny_pure ?_)
      refine tl _ hg _ ?_ ?_ ?_
      · split
        · exact hf1
        · exact hf1
      · split
        · exact hr1
        · exact hr1
      · split
        · exact hl1
        · exact hl1
    · rw [if_neg c]
      refine wpAny_bind (wpAny_pure ?_)
      exact tl _ hg _ hf1 hr1 hl1
theorem SetQ.at {knd : KeyKind P w K} {h h' : Heap} {a : Addr} {S : K → Bool} {n : Nat} (q : SetQ knd h a S n) (k : ∀ o, h.get? a = some o → h'.get? a = some o) : SetQ knd h' a S n :=
  let ⟨o, es, ep, t, ho, r⟩ := q
  ⟨o, es, ep, t, k o ho, r⟩
theorem SetQ.congr {knd : KeyKind P w K} {h : Heap} {a : Addr} {S S' : K → Bool} {n : Nat} (q : SetQ knd h a S n) (k : S' = S) : SetQ knd h a S' n := k ▸ q
theorem setQ_update {knd : KeyKind P w K} {A : Around} {I : Addr} {fp wr : List Addr} {G : Array GenState → Array GenState → Prop} {n : Nat} {Pv : Nat → Value → Prop} {St : Nat → Shared → Prop} {R : Result → Shared → Prop}
    (hW : WalksS P w A.in1 I fp wr G n Pv St) (S : Addr) (hS : ¬ S ∈ fp) (ks : List K) (hn : n = ks.length) (hb : ks.length + 1 < scanBound) (hv : ∀ i v, Pv i v → ∃ k, ks[i]? = some k ∧ knd.is k v = true ∧ v.scannable = true) :
    ∀ (k i : Nat) (s : Shared), n - i = k → i ≤ n → St i s → (∃ c, c ≤ i ∧ SetQ knd s.heap S (fun j => decide (j ∈ ks.take i)) c) →
      (∀ (s' : Shared) (c : Nat), Moved (S :: wr) G s s' → c ≤ n → SetQ knd s'.heap S (fun j => decide (j ∈ ks)) c → R (Except.ok (Flow.ret Value.none)) s') →
      codeAny (model P w) A (Code.builtin "set.update.loop" { pos := [Value.ref S, Value.ref I] }) R s
  | k, i, s, hk, hi, hst, ⟨c, hc, hq⟩, h => by
    refine codeAny_builtin PyProof.Rows.F.entry_set_update_loop ?_
    unfold Builtin.«set.update.loop»
    simp only
    show wpAny _ A.in1 _ _ _ s
    have hSw : ¬ S ∈ wr := fun m => hS (hW.sub _ m)
    by_cases e : i = n
    · subst e
      refine wpAny_bind (hW.done s _ _ hst fun s' m => wpAny_pure (h s' c ⟨fun b o nb => m.heap b o fun z => nb (List.mem_cons_of_mem _ z), m.gens, m.drawn, m.os, m.toks⟩ hc ?_))
      refine (hq.at fun o => m.heap S o hSw).congr ?_
      rw [hn, List.take_length]
    · refine wpAny_bind (hW.item i s _ _ (by omega) hst fun v s' hp hst' m => ?_)
      obtain ⟨z, hz, hzv, hsc⟩ := hv i v hp
      simp only
      refine wpAny_bind (wpAny_holding ?_)
      unfold setAdd
      refine wpAny_holding (wpAny_bind (knd.pyHash hzv ?_))
      have hq1 := hq.at fun o => m.heap S o hSw
      refine setQ_add (s := { s' with toks := s'.toks + 1 }) (n := c) hq1 (by omega) hzv hsc fun h' sb q2 => wpAny_pure ⟨plainId_quiet PyProof.Rows.F.plain_set_update_loop _, ?_⟩
      have hst2 := hW.frame (i + 1) s' h' (s'.toks + 1) hst' (Nat.le_succ _) fun b mb o ho => by rw [sb.2 b (fun z => hS (z ▸ mb))]; exact ho
      refine setQ_update hW S hS ks hn hb hv (n - (i + 1)) (i + 1) _ rfl (by omega) hst2 ⟨_, ?_, q2.congr ?_⟩ fun s3 c3 m3 => h s3 c3 ⟨fun b o nb ho => ?_, ?_, ?_, ?_, ?_⟩
      · split <;> omega
      · funext j
        have e : ks.take (i + 1) = ks.take i ++ [z] := by rw [List.take_add_one, hz]; rfl
        rw [e]
        by_cases c1 : j ∈ ks.take i
        · rw [decide_eq_true c1, decide_eq_true (List.mem_append_left _ c1)]; rfl
        · rw [decide_eq_false c1, Bool.false_or]
          by_cases c2 : j = z
          · rw [decide_eq_true c2, decide_eq_true (List.mem_append_right _ (by rw [c2]; simp))]
          · rw [decide_eq_false c2, decide_eq_false fun q => (List.mem_append.mp q).elim c1 fun q => c2 (by simpa using q)]
      · refine m3.heap b o nb ?_
        show h'.get? b = some o
        rw [sb.2 b (fun z => nb (by rw [z]; exact List.mem_cons_self))]
        exact m.heap b o (fun z => nb (List.mem_cons_of_mem _ z)) ho
      · exact hW.gtrans _ _ _ m.gens m3.gens
      · exact m3.drawn.trans m.drawn
      · exact m3.os.trans m.os
      · exact Nat.le_trans m.toks (Nat.le_trans (Nat.le_succ _) m3.toks)
  termination_by k => k
  decreasing_by omega
theorem tc_quiet (a : Args) : (Code.builtin "type.__call__" a).quiet = true := by
  unfold Code.quiet Thread.loud
  simp [L2.call_set_tups._proof_1, Thread.atCollectorCode, Thread.yieldsInsideHandler, Thread.atExit]
theorem call_setQ {knd : KeyKind P w K} {A : Around} {E : Value → Shared → Prop} {s : Shared} {l : Addr} {items : Array Value} (ks : List K) {Q : Value → Shared → Prop} (hA : A.handled = none) (hl : s.heap.IsList l items)
    (hlen : items.size = ks.length) (hb : ks.length + 1 < scanBound) (hv : ∀ (i : Nat) (v : Value), items[i]? = some v → ∃ k, ks[i]? = some k ∧ knd.is k v = true ∧ v.scannable = true)
    (h : ∀ (h' : Heap) (tk c : Nat), c ≤ ks.length → SetQ knd h' s.heap.objs.size (fun j => decide (j ∈ ks)) c → (∀ (b : Addr) (o : Obj), s.heap.get? b = some o → h'.get? b = some o) → Q (Value.ref s.heap.objs.size) { s with heap := h', toks := tk }) :
    wpAny (model P w) A (call (Value.type "set") [Value.ref l]) Q E s := by
  refine wpAny_call (codeAny_of_tree ?_)
  show wpAny _ (A.under _) (pure (Fin.again (Code.builtin "type.__call__" { pos := [Value.type "set", Value.ref l] }))) _ _ s
  refine wpAny_pure ⟨tc_quiet _, ?_⟩
  refine codeAny_builtin F.entry_type_call ?_
  show wpAny _ A.in1 _ _ _ s
  unfold Builtin.«type.__call__»
  simp only
  refine wpAny_ite_false (by decide) ?_
  refine wpAny_ite_false (by decide +kernel) ?_
  rw [F.typeCall_set_1]
  refine wpAny_bind (wpAny_pure ?_)
  have hs := F.called_set
  obtain ⟨c0, tl, hm⟩ := hs.mro
  rw [hm]
  refine wpAny_bind (wpAny_pure ?_)
  refine wpAny_ite_false rfl ?_
  rw [hs.made]
  refine wpAny_bind (wpAny_pure ?_)
  simp only
  refine wpAny_bind (wpAny_pure ?_)
  refine wpAny_bind (wpAny_holding (wpAny_call ?_))
  refine codeAny_mono (code_set_led1 (E := fun _ _ => False) (Q₁ := fun v s' => v = Value.ref s.heap.objs.size ∧ s' = { s with heap := s.heap.push { cls := Value.type "set", data := Data.set #[] 0 (SetTable.fresh 0 0 !w.params.followText "set-order") } }) _ ⟨rfl, rfl⟩) fun r s1 hr => ?_
  obtain ⟨v, rfl, e1, e2⟩ : ∃ v, r = .ok (.ret v) ∧ v = Value.ref s.heap.objs.size ∧ s1 = { s with heap := s.heap.push { cls := Value.type "set", data := Data.set #[] 0 (SetTable.fresh 0 0 !w.params.followText "set-order") } } := by
    match r with
    | .ok (.ret v) => exact ⟨v, rfl, hr.1, hr.2⟩
    | .error _ => exact hr.elim
    | .ok (.next) => exact hr.elim
    | .ok (.brk) => exact hr.elim
  subst e1
  subst e2
  simp only
  have ho := Heap.get?_push_size (h := s.heap) (o := { cls := Value.type "set", data := Data.set #[] 0 (SetTable.fresh 0 0 !w.params.followText "set-order") }) rfl
  refine wpAny_bind (wpAny_isInstance (T := "set") ⟨_, ho, rfl⟩ hs.sub ?_)
  refine wpAny_ite_false rfl ?_
  refine wpAny_bind (wpAny_holding ?_)
  unfold callSpecial?
  refine wpAny_bind (wpAny_specialOf (T := "set") ⟨_, ho, rfl⟩ hs.init.lookup ?_)
  simp only
  refine wpAny_holding ?_
  rw [hs.init.bind]
  refine wpAny_bind (wpAny_pure ?_)
  simp only
  refine wpAny_bind (wpAny_call ?_)
  refine codeAny_call_builtin hs.init.plain F.entry_set_init (check_set_init_1 ⟨_, ho, rfl⟩ ?_)
  unfold Builtin.«set.__init__»
  simp only [List.cons_append, List.nil_append]
  refine wpAny_bind (wpAny_pure ?_)
  refine wpAny_bind ?_
  unfold typeNameOfCut
  refine wpAny_bind (?_ : wpAny _ _ (shownTypeOf _) _ _ _)
  unfold shownTypeOf
  refine wpAny_bind (wpAny_typeOf (T := "set") ⟨_, ho, rfl⟩ ?_)
  refine wpAny_ite_false (by decide) (wpAny_pure ?_)
  unfold typeNameCut typeName
  refine wpAny_pure ?_
  refine wpAny_bind ?_
  unfold checkCount
  refine wpAny_ite_false rfl ?_
  refine wpAny_ite_false rfl ?_
  refine wpAny_ite_false rfl (wpAny_pure ?_)
  refine wpAny_bind (wpAny_pure ?_)
  unfold setUsed
  refine wpAny_bind (wpAny_bind (wpAny_setState_of ho rfl rfl (wpAny_pure ?_)))
  refine wpAny_ite_false rfl ?_
  unfold Builtin.Frozenset.updateFrom
  refine wpAny_bind (wpAny_bind ?_)
  unfold Builtin.Frozenset.isAnySet
  obtain ⟨ol, hol, hcls, cap, hdat⟩ := hl
  have hol1 := Heap.get?_push_of_some (o := { cls := Value.type "set", data := Data.set #[] 0 (SetTable.fresh 0 0 !w.params.followText "set-order") }) hol
  refine wpAny_bind (wpAny_isInstance (T := "list") ⟨_, hol1, hcls⟩ F.sub_list_set ?_)
  refine wpAny_isInstance (T := "list") ⟨_, hol1, hcls⟩ F.sub_list_frozenset ?_
  refine wpAny_ite_false rfl ?_
  refine wpAny_bind (wpAny_typeOf (T := "list") ⟨_, hol1, hcls⟩ ?_)
  refine wpAny_ite_false (by decide) ?_
  refine wpAny_bind (wpAny_pyIter_list ⟨_, hol1, hcls, cap, hdat⟩ ?_)
  refine wpAny_bind (wpAny_runValue ?_)
  have hlt : l ≠ s.heap.objs.size + 1 := Nat.ne_of_lt (Nat.lt_succ_of_lt (Heap.lt_size hol))
  have hlt2 : l ≠ s.heap.objs.size := Nat.ne_of_lt (Heap.lt_size hol)
  have hI := Heap.get?_push_size (s.heap.push { cls := Value.type "set", data := Data.set #[] 0 (SetTable.fresh 0 0 !w.params.followText "set-order") }) (o := { cls := Value.type "list_iterator", data := Data.fields #[Value.ref l, Value.int 0 0] }) rfl
  have hol2 := Heap.get?_push_of_some { cls := Value.type "list_iterator", data := Data.fields #[Value.ref l, Value.int 0 0] } hol1
  have ho2 := Heap.get?_push_of_some { cls := Value.type "list_iterator", data := Data.fields #[Value.ref l, Value.int 0 0] } ho
  have hsz : (s.heap.push { cls := Value.type "set", data := Data.set #[] 0 (SetTable.fresh 0 0 !w.params.followText "set-order") }).objs.size = s.heap.objs.size + 1 := Heap.size_push _ _
  rw [hsz] at hI ⊢
  refine setQ_update (knd := knd) (Walks.toS (Walks.list (A := A.in1.in1.in1) hA (s.heap.objs.size + 1) l hlt items)) s.heap.objs.size ?_ ks hlen hb hv items.size 0 _ rfl (Nat.zero_le _) ⟨?_, ?_⟩ ⟨0, Nat.le_refl _, ?_⟩ fun s3 c3 m3 hc3 q3 => ?_
  · intro m
    simp only [List.mem_cons, List.not_mem_nil, or_false] at m
    rcases m with m | m
    · exact absurd m (Nat.ne_of_lt (Nat.lt_succ_self _))
    · exact hlt2 m.symm
  · exact ⟨_, hI, rfl, rfl⟩
  · exact ⟨_, hol2, hcls, cap, hdat⟩
  · refine ⟨_, _, _, _, ho2, ⟨rfl, rfl, rfl⟩, rfl, fun e m => ?_, ?_, fun j => ?_, ?_, rfl, rfl, ?_, ?_⟩
    · exact absurd m (by simp)
    · exact List.Pairwise.nil
    · simp
    · show 0 < scanBound
      omega
    · exact List.Pairwise.nil
    · show w.params.followText "set-order" = true ∨ (!w.params.followText "set-order") = true
      cases w.params.followText "set-order"
      · exact .inr rfl
      · exact .inl rfl
  · refine wpAny_pure (wpAny_pure (wpAny_pure ?_))
    refine wpAny_ite_false (by decide) (wpAny_pure ?_)
    have eg : s3.gens = s.gens := m3.gens
    have ed : s3.drawn = s.drawn := m3.drawn
    have eo : s3.os = s.os := m3.os
    have := h s3.heap s3.toks c3 (by omega) q3 fun b o hb => m3.heap b o (fun m => ?_) (Heap.get?_push_of_some _ (Heap.get?_push_of_some _ hb))
    · rw [← eg, ← ed, ← eo] at this
      exact this
    · have hb1 := Heap.lt_size hb
      rcases List.mem_cons.mp m with m | m
      · exact absurd m (Nat.ne_of_lt hb1)
      · exact absurd (List.mem_singleton.mp m) (Nat.ne_of_lt (Nat.lt_succ_of_lt hb1))
/-! ### sorted of a set of texts -/
def toS : Value → Str
  | .str z _ => z
  | _ => Str.empty
theorem strs_are : ∀ {vs : List Value}, (∀ v ∈ vs, ∃ z t, v = Value.str z t) → PyProof.Rows.StrsAre vs (vs.map toS)
  | [], _ => .nil
  | v :: vs, h => by
    obtain ⟨z, t, rfl⟩ := h v List.mem_cons_self
    exact .cons z t (strs_are fun u m => h u (List.mem_cons_of_mem _ m))
theorem isStrOf_of {z : Str} {v : Value} (h : Value.isStrOf z v = true) : ∃ t, v = Value.str z t := by
  cases v <;> simp [Value.isStrOf, Value.isStr] at h
  subst h
  exact ⟨_, rfl⟩
theorem sorted_setQ {A : Around} {E : Value → Shared → Prop} {s : Shared} {a : Addr} {S : Str → Bool} {n : Nat} {Q : Value → Shared → Prop} (hq : SetQ (strKind P w) s.heap a S n) (hA : A.handled = none) (hn : n < 64)
    (h : ∀ (s' : Shared) (p : Nat) (out : Array Value) (c : Nat) (ys : List Str), (∀ (b : Addr) (o : Obj), s.heap.get? b = some o → s'.heap.get? b = some o) → s'.gens = s.gens → s'.os = s.os → s.heap.objs.size ≤ p →
      s'.heap.get? p = some (PyProof.Rows.seqObj "list" out c) → PyProof.Rows.StrsAre out.toList ys → PyProof.Rows.sortedS ys = true → ys.Nodup → (∀ z, z ∈ ys ↔ S z = true) → ys.length = n → Q (Value.ref p) s') :
    wpAny (model P w) A (call (Value.builtin "sorted") [Value.ref a]) Q E s := by
  obtain ⟨o, es, ep, t, ho, hex, hd, hel, hnd, hm, hsb, hf, hsz, hr, hl⟩ := hq
  refine Calls.call_function_entry PyProof.Rows.kind_sorted PyProof.Rows.plain_sorted PyProof.Rows.entry_sorted (PyProof.Rows.args_sorted1 _) ?_
  unfold Builtin.sorted
  refine wpAny_bind ?_
  unfold checkCount
  refine wpAny_ite_false rfl ?_
  refine wpAny_ite_false rfl ?_
  refine wpAny_ite_false rfl (wpAny_pure ?_)
  refine wpAny_bind (collect_set (A := A.in1) hA ⟨o, ho, hex.1, hd⟩ hf hsb hr hl fun s1 out k1 z1 g1 o1 pm => ?_)
  have hlen : out.length = n := by
    have e := pm.length_eq
    rw [List.length_map] at e
    rw [e, ← hsz]
    exact Array.length_toList
  have ha : ∀ e ∈ es.toList, ∃ t, e.2 = Value.str (toS e.2) t := fun e m => by
    obtain ⟨⟨k, hk, _⟩, _⟩ := hel e m
    obtain ⟨t, ht⟩ := isStrOf_of hk
    rw [ht]
    exact ⟨t, rfl⟩
  have hs := strs_are (vs := out) fun v m => by
    obtain ⟨e, me, rfl⟩ := List.mem_map.mp (pm.mem_iff.mp m)
    obtain ⟨t, ht⟩ := ha e me
    exact ⟨_, t, ht⟩
  have nd : (out.map toS).Nodup := by
    have n1 : ((es.toList.map (·.2)).map toS).Nodup := by
      rw [List.map_map, List.Nodup, List.pairwise_map]
      refine (List.Pairwise.and_mem.mp hnd).imp fun {x y} ⟨mx, my, hxy⟩ e => ?_
      obtain ⟨t1, h1⟩ := ha x mx
      obtain ⟨t2, h2⟩ := ha y my
      have i1 : (strKind P w).is (toS x.2) x.2 = true := by rw [h1]; exact beq_self_eq_true _
      have i2 : (strKind P w).is (toS x.2) y.2 = true := by
        have e : toS x.2 = toS y.2 := e
        rw [e, h2]
        exact beq_self_eq_true _
      rw [hxy _ i1] at i2
      cases i2
    exact (pm.map toS).nodup_iff.mpr n1
  have mem : ∀ z, z ∈ out.map toS ↔ S z = true := fun z => by
    rw [hm]
    constructor
    · intro m
      obtain ⟨v, mv, rfl⟩ := List.mem_map.mp m
      obtain ⟨e, me, rfl⟩ := List.mem_map.mp (pm.mem_iff.mp mv)
      obtain ⟨t, ht⟩ := ha e me
      exact ⟨e, me, by rw [ht]; exact beq_self_eq_true _⟩
    · rintro ⟨e, me, hz⟩
      obtain ⟨t, ht⟩ := isStrOf_of hz
      exact List.mem_map.mpr ⟨e.2, pm.mem_iff.mpr (List.mem_map.mpr ⟨e, me, rfl⟩), by rw [ht]; rfl⟩
  refine wpAny_bind (wpAny_newList ?_ (by rw [hlen]; exact small64 hn))
  have hp := Heap.get?_push_size s1.heap (o := { cls := Value.type "list", data := Data.seq out.toArray }) rfl
  have old : ∀ (b : Addr) (o : Obj), s.heap.get? b = some o → (s1.heap.push { cls := Value.type "list", data := Data.seq out.toArray }).get? b = some o ∧ b < s1.heap.objs.size := fun b o hb => ⟨Heap.get?_push_of_some _ (k1 b o hb), Heap.lt_size (k1 b o hb)⟩
  refine wpAny_bind (wpAny_holding (wpAny_call_entry PyProof.Rows.slot_list_sort ⟨_, hp, rfl⟩ PyProof.Rows.entry_list_sort ?_ (PyProof.Rows.args_list_sort _)))
  refine PyProof.Rows.list_sort_treeK PyProof.Rows.strKind_oneLt hp (PyProof.Rows.StrsAre.keysOf hs) (fun v1 v2 rest e => ?_) (by rw [hlen]; exact hn) fun st' pm2 so => ?_
  · exact PyProof.Rows.keyKind_strs (e ▸ hs)
  · obtain ⟨ss, h1, h2, h3⟩ := PyProof.Rows.sorted_out_str hs pm2 so
    obtain ⟨c, hc⟩ := PyProof.Rows.sortedHeap_at (out := Array.map (fun x => x.2) (PyProof.Rows.arrOf st')) hp
    generalize hO : Array.map (fun x => x.2) (PyProof.Rows.arrOf st') = O at *
    have old2 : ∀ (b : Addr) (o : Obj), s.heap.get? b = some o → (PyProof.Rows.sortedHeap (s1.heap.push { cls := Value.type "list", data := Data.seq out.toArray }) s1.heap.objs.size out O).get? b = some o := fun b o hb => by
      obtain ⟨e1, e2⟩ := old b o hb
      have e3 : b < (s1.heap.push { cls := Value.type "list", data := Data.seq out.toArray }).objs.size := by
        rw [Heap.size_push]
        exact Nat.lt_succ_of_lt e2
      rw [PyProof.Rows.sortedHeap_old (Nat.ne_of_lt e2) e3]
      exact e1
    generalize PyProof.Rows.sortedHeap (s1.heap.push { cls := Value.type "list", data := Data.seq out.toArray }) s1.heap.objs.size out O = HF at *
    have key := h { heap := HF, gens := s1.gens, drawn := s1.drawn, toks := s1.toks, os := s1.os } s1.heap.objs.size _ c ss old2 g1 o1 z1 hc h1 h3 (h2.nodup_iff.mpr nd) (fun z => by rw [h2.mem_iff, mem]) (by rw [h2.length_eq, List.length_map, hlen])
    refine ⟨Value.none, rfl, ?_⟩
    exact wpAny_pure ⟨_, rfl, key⟩
theorem strs_at : ∀ {vs : List Value} {zs : List Str} {i : Nat} {v : Value}, PyProof.Rows.StrsAre vs zs → vs[i]? = some v → ∃ z t, zs[i]? = some z ∧ v = Value.str z t
  | _, _, 0, _, .cons y t _, e => by
    have e : some (Value.str y t) = some _ := e
    cases e
    exact ⟨y, t, rfl, rfl⟩
  | _, _, i + 1, _, .cons y t h, e => strs_at (i := i) h e
/-- the set that set(words) makes -/
def SetQO (P : Program) (w : World) (a : Addr) (zs : List Str) : HO := .ext fun h => ∃ c, c ≤ zs.length ∧ SetQ (strKind P w) h a (fun j => decide (j ∈ zs)) c
theorem setQO_ok {H : Hp} {h : Heap} {a : Addr} {zs : List Str} {c : Nat} (hc : c ≤ zs.length) (q : SetQ (strKind P w) h a (fun j => decide (j ∈ zs)) c) : ObjOk P w H h a (SetQO P w a zs) := by
  unfold SetQO
  rw [ObjOk.eq_13]
  exact ⟨⟨c, hc, q⟩, ⟨q.choose, q.choose_spec.choose_spec.choose_spec.choose_spec.1⟩, fun h1 h2 ⟨c, hc, q⟩ k => ⟨c, hc, q.at k⟩⟩
def rSetOfS (K : W.Frag) (P : Program) (w : World) : List V → Hp → VK → Prop := fun xs H Q => ∃ (l : Addr) (zs : List Str), xs = [V.ref l] ∧ SqL K H l (zs.map V.str) ∧ zs.length < 1000 ∧ ∀ a, H a = none → Q (.ref a) (upd H a (SetQO P w a zs))
theorem cr_setOfS {X : Cx} (hc : X.calm = true) : CallR X (Value.type "set") (rSetOfS X.K X.prog X.w) := by
  intro pins s σ H xs us Q I rx hr
  obtain ⟨l, zs, rfl, hl, hlen, k⟩ := hr
  cases Vals.ref1 rx
  obtain ⟨its, hv, ⟨o, n, ho, hcl, hdi, hda⟩, _⟩ := I.list hl
  have hs := Vals.strs hv
  have e : its.length = zs.length := by
    have := Vals.length hv
    rw [List.length_map] at this
    exact this.symm
  refine call_setQ (knd := strKind X.prog X.w) (items := its.toArray) zs (I.ok.hd hc) ⟨o, ho, hcl, n, hda⟩ (by rw [List.size_toArray]; exact e) ?_ (fun i v hi => ?_) fun h' tk c hc' q old => ?_
  · have : (1000 : Nat) < scanBound := by decide
    omega
  · rw [List.getElem?_toArray] at hi
    obtain ⟨z, t, hz, rfl⟩ := strs_at hs hi
    exact ⟨z, hz, beq_self_eq_true _, rfl⟩
  · exact ⟨.ref s.heap.objs.size, _, I.laid old (Nat.le_refl _) (setQO_ok hc' q), rfl, k _ (HOk.fresh I.hok (Nat.le_refl _))⟩
def rSortedQ (P : Program) (w : World) : List V → Hp → VK → Prop := fun vs H Q => ∃ (a : Addr) (zs : List Str), vs = [V.ref a] ∧ H a = some (SetQO P w a zs) ∧ zs.length < 64 ∧
  ∀ (ys : List Str) (p : Addr), PyProof.Rows.sortedS ys = true → ys.Nodup → (∀ z, z ∈ ys ↔ z ∈ zs) → H p = none → Q (.ref p) (upd H p (.lst (ys.map V.str)))
theorem cr_sortedQ {X : Cx} (hc : X.calm = true) : CallR X (Value.builtin "sorted") (rSortedQ X.prog X.w) := by
  intro pins s σ H xs us Q I rx hr
  obtain ⟨a, zs, rfl, ha, hlen, k⟩ := hr
  cases Vals.ref1 rx
  have q := I.hok a _ ha
  unfold SetQO at q
  rw [ObjOk.eq_13] at q
  obtain ⟨c, hc', q⟩ := q.1
  refine sorted_setQ q (I.ok.hd hc) (by omega) fun s' p out e ys old hg hos hle hp hs so nd mem len => ?_
  have hn := HOk.fresh I.hok hle
  refine ⟨.ref p, _, ?_, rfl, k ys p so nd (fun z => by rw [mem, decide_eq_true_iff]) hn⟩
  obtain ⟨h', g', d', t', o'⟩ := s'
  cases hos
  have hg : g' = s.gens := hg
  refine I.call (ch := []) (Un.laid old hle hn) (HOk.laid I.hok old hle ?_) (hg ▸ I.bare) (fun b m => nomatch m)
  rw [ObjOk.eq_1]
  refine ⟨?_, out.toList, e, vals_of_strs hs, by rw [Array.toArray_toList]; exact hp⟩
  rw [List.length_map, len]
  exact small64 (by omega)
end
end Lo
set_option Elab.async false
set_option linter.all false
set_option maxRecDepth 100000
set_option maxHeartbeats 4000000
local macro_rules | `(tactic| fail "lo_ne") => `(tactic| first
  | assumption
  | exact Ne.symm (by assumption))
local macro_rules | `(tactic| fail "lo_hq") => `(tactic| ((with_reducible show @Eq (Option L2.HO) _ _); first
  | (with_reducible exact L2.upd_same)
  | (with_reducible assumption)
  | exact Lo.sget (by with_reducible assumption) (by fail "lo_hq")
  | exact Lo.kget (by with_reducible assumption) (by fail "lo_ne") (by fail "lo_hq")
  | ((with_reducible show L2.upd _ _ _ _ = _); exact Lo.une (by fail "lo_ne") (by fail "lo_hq"))
  | assumption))
local macro_rules | `(tactic| fail "lo_R") => `(tactic| first
  | (with_reducible assumption)
  | exact Lo.rsame (by with_reducible assumption) (by fail "lo_R"))
local macro_rules | `(tactic| fail "lo_F") => `(tactic| first
  | (with_reducible assumption)
  | exact Lo.fsame (by with_reducible assumption) (by fail "lo_F")
  | exact Lo.tsame (by with_reducible assumption) (by fail "lo_F"))
local macro_rules | `(tactic| fail "lo_S") => `(tactic| first
  | (with_reducible assumption)
  | exact Lo.strans (by with_reducible assumption) (by fail "lo_S")
  | exact L2.Same.refl _)
local macro_rules | `(tactic| fail "lo_hp") => `(tactic| first
  | ((with_reducible show L2.SqT _ _ _ _); first | exact L2.SqT.of (by fail "lo_hq") | assumption)
  | ((with_reducible show L2.SqL _ _ _ _); first | exact L2.SqL.of (by fail "lo_hq") | assumption | exact L2.Same.seq (by assumption) (by fail "lo_hp")))
local macro_rules | `(tactic| fail "lo_mok") => `(tactic| first
  | exact Lo.mok_r (by decide)
  | exact Lo.mok_l (by decide)
  | exact Lo.mok_r (by omega)
  | exact Lo.mok_l (by omega)
  | assumption)
local macro_rules | `(tactic| fail "lo_cond") => `(tactic| first
  | (show PySem.IntMulOk _ _; fail "lo_mok")
  | (show (0 : Int) < _; first | decide | omega | assumption)
  | (show L2.CPow _ _; exact ⟨by decide, by decide, by first | decide | omega⟩)
  | (show Lo.CDivA _ _; exact ⟨by first | assumption | omega, by assumption⟩)
  | (show L2.CDivW _ _; exact ⟨by first | decide | omega, by first | decide | assumption⟩))
local macro_rules | `(tactic| fail "lo_lk") => `(tactic| ((with_reducible show @Eq (Option L2.V) _ _); first
  | exact Lo.lk0
  | exact Lo.lkn
  | exact Lo.lk1 (by decide +kernel) (by fail "lo_lk")))
/- one step of a reading that has one way only -/
local macro_rules | `(tactic| fail "lo_rd1") => `(tactic| first
  | (refine ⟨_, rfl, ?_⟩)
  | (refine ⟨_, _, rfl, rfl, (by fail "lo_cond"), ?_⟩)
  | (refine ⟨_, _, rfl, rfl, ?_⟩)
  | (refine ⟨_, _, _, _, rfl, rfl, (by fail "lo_hp"), Lo.ix_c (by rfl), ?_⟩)
  | (refine ⟨_, _, _, _, rfl, rfl, (by fail "lo_hq"), (by rfl), ?_⟩)
  | (refine ⟨_, _, _, _, _, rfl, (by fail "lo_hq"), (by fail "lo_cl"), (by fail "lo_na"), (by fail "lo_lk"), ?_⟩)
  | (refine ⟨_, _, _, _, rfl, (by fail "lo_hq"), (by fail "lo_cl"), (by fail "lo_na"), Nat.le_of_ble_eq_true rfl, ?_⟩)
  | (refine ⟨_, _, _, rfl, (by fail "lo_hq"), (by fail "lo_lk"), ?_⟩)
  | ((with_reducible show L2.rEqD _ (L2.V.ref _) (L2.V.ref _) _ _); refine Lo.eqT (by fail "lo_hq") (by fail "lo_hq") ?_)
  | ((with_reducible show L2.rNeD _ (L2.V.ref _) (L2.V.ref _) _ _); refine Lo.neT (by fail "lo_hq") (by fail "lo_hq") ?_)
  | (refine ⟨Or.inl ⟨rfl, _, (by fail "lo_hp")⟩, ?_⟩)
  | (refine Or.inl ⟨_, rfl, ?_⟩)
  | (refine Or.inr ⟨_, rfl, ?_⟩)
  | (refine ⟨rfl, ?_⟩)
  | (refine ⟨_, _, rfl, Or.inl (by fail "lo_hp"), ?_⟩)
  | (refine ⟨_, _, rfl, (by fail "lo_hp"), rfl, ?_⟩)
  | (refine ⟨_, _, rfl, ?_⟩)
  | (refine ⟨⟨_, (by fail "lo_hp")⟩, ?_⟩)
  | (refine ⟨Lo.line_le (Nat.le_of_ble_eq_true rfl), ?_⟩)
  | (refine ⟨⟨_, rfl⟩, _, rfl, rfl, True.intro, ?_⟩)
  | (with_reducible show L2.tNil _ _ _; dsimp only [L2.tNil]))
/- as many such steps as there are -/
local macro_rules | `(tactic| fail "rd") => `(tactic| repeat fail "lo_rd1")

namespace Lo
open PySem PySem.Spec PyProof.Rows L2
def top (i : Nat) : Stmt := PySem.Challenge.pw_lotcosts_k23_prices_that_part_forms.main.body.getD i (.Pass ⟨0, 0, 0, 0⟩)
structure Txt (K : PySem.W.Frag) (mg : Str → Option Value) (ca : Nat → Addr) : Prop where
  b_abs : mg "abs" = none
  b_all : mg "all" = none
  b_bool : mg "bool" = none
  b_dict : mg "dict" = none
  b_int : mg "int" = none
  b_isinstance : mg "isinstance" = none
  b_len : mg "len" = none
  b_list : mg "list" = none
  b_min : mg "min" = none
  b_range : mg "range" = none
  b_set : mg "set" = none
  b_sorted : mg "sorted" = none
  b_str : mg "str" = none
  gcd : mg "gcd" = some (.builtin "math.gcd")
  c__LONGEST : ∃ t, mg "_LONGEST" = some (.int 12 t)
  g_NoRatio : mg "NoRatio" = some (.ref (ca 1))
  kp_NoRatio : PySem.W.keepIn K (.ref (ca 1)) = true
  ex_NoRatio : PySem.W.excIn K (ca 1) [.type "ValueError", .type "Exception", .type "BaseException", .type "object"] "ValueError.__new__" = true
  sb_NoRatio : PySem.W.subIn K (.ref (ca 1)) (.type "BaseException") = some true
  ty_NoRatio : PySem.W.typeIn K (.ref (ca 1)) = some (.type "type")
  g_Ratio : mg "Ratio" = some (.ref (ca 2))
  cl_Ratio : Cls K (ca 2)
  na_Ratio_top : NoAttr K (ca 2) "top"
  na_Ratio_bottom : NoAttr K (ca 2) "bottom"
  ic_Ratio : PySem.W.findIn K (.ref (ca 2)) "__class__" = some (some (.builtin "object.__class__"))
  in_Ratio : PySem.W.specialIn K (.builtin "object.__class__") "__get__" = some (some (.builtin "getset_descriptor.__get__"))
  it_Ratio : PySem.W.takesIn K (.builtin "object.__class__") = some true
  im_Ratio : PySem.W.mroIn K (ca 2) (.type "object") = some true
  ar_Ratio : Arith K (ca 2)
  cl_Form : Cls K (ca 3)
  na_Form__shares : NoAttr K (ca 3) "_shares"
  ar_Form : Arith K (ca 3)
  ki_int_Ratio : PySem.W.kitOne K (.type "int") (.ref (ca 2)) = some false
local macro_rules | `(tactic| fail "lo_cl") => `(tactic| ((with_reducible show L2.Cls _ _); first
  | exact (show Txt _ _ _ by assumption).cl_Ratio
  | exact (show Txt _ _ _ by assumption).cl_Form))
local macro_rules | `(tactic| fail "lo_na") => `(tactic| ((with_reducible show L2.NoAttr _ _ _); first
  | exact (show Txt _ _ _ by assumption).na_Ratio_top
  | exact (show Txt _ _ _ by assumption).na_Ratio_bottom
  | exact (show Txt _ _ _ by assumption).na_Form__shares))
section
variable {P : Program} {w : World} {K : PySem.W.Frag} {mg : Str → Option Value} {base : Heap} {ca : Nat → Addr}
abbrev s_l_bag : Stmt := top 19
theorem sc_l_bag : FnScope ["_law_script"] ["_law_script"] (defScope s_l_bag) := ⟨rfl, rfl, rfl, by decide +kernel, rfl, by decide +kernel, by decide +kernel⟩
def sp_l_bag (K : PySem.W.Frag) (_ : Nat → Addr) : Sp := fun vs H Q _ => ∃ (a : Addr) (ns : List Int), vs = [.ref a] ∧ SqL K H a (ns.map V.int) ∧ ∀ (L b : Addr) (H' : Hp), H b = none → H L = none → Same H H' → Bag H' L b → Q (.ref b) H'
theorem ok_l_bag {f : Addr} {fd : FuncData} (F : Fun K "_law_bag" "_law_bag" s_l_bag f fd) (T : Txt K mg ca)  : FnOk P w K mg base (L2.CX P w) 1 f fd ["_law_script"] (sp_l_bag K ca) := by
  refine F.okX sc_l_bag (fun vs H Q E h => ?_) (fun cdv A outer s H vs Q E hr h => ?_)
  · obtain ⟨_, _, rfl, _⟩ := h
    rfl
  · obtain ⟨a, ns, rfl, hs, k⟩ := h
    refine ⟨_, pss_one (ps_ret (pe_lst (pa_cons (pe_callTy call_list_of (by rfl) T.b_list (by decide +kernel) (pa_cons (pv 0) pa_nil)) (pa_cons pe_int (pa_cons pe_int (pa_cons pe_int (pa_cons pe_int pa_nil))))))), ?_⟩
    fail "rd"
    intro L n_L
    generalize g_H1 : upd _ L _ = H1
    obtain ⟨s_H1, e_L⟩ := gen_new n_L g_H1
    clear g_H1
    fail "rd"
    intro b n_b
    generalize g_H2 : upd _ b _ = H2
    obtain ⟨s_H2, e_b⟩ := gen_new n_b g_H2
    clear g_H2
    exact k L b H2 (s_H1.free n_b) n_L (s_H1.trans s_H2) (Bag.mk (i := 0) e_b (s_H2 _ _ e_L) (ne_of_none e_L n_b))

abbrev s_l_draw : Stmt := top 20
theorem sc_l_draw : FnScope ["_law_bag_here", "_law_size", "_law_cell", "_law_digit", "_law_mixed"] ["_law_bag_here", "_law_size"] (defScope s_l_draw) := ⟨rfl, rfl, rfl, by decide +kernel, rfl, by decide +kernel, by decide +kernel⟩
def sp_l_draw (_ : PySem.W.Frag) (_ : Nat → Addr) : Sp := fun vs H Q _ => ∃ (b : Addr) (n : Int), vs = [.ref b, .int n] ∧ ∃ L : Addr, Bag H L b ∧ 0 < n ∧ n.natAbs.log2 < 9000 ∧ ∀ (d : Int) (H' : Hp), 0 ≤ d → d < n → Keep b H H' → Bag H' L b → Q (.int d) H'
theorem ok_l_draw {f : Addr} {fd : FuncData} (F : Fun K "_law_draw" "_law_draw" s_l_draw f fd) (T : Txt K mg ca)  : FnOk P w K mg base (L2.CX P w) 1 f fd ["_law_bag_here", "_law_size"] (sp_l_draw K ca) := by
  refine F.okX sc_l_draw (fun vs H Q E h => ?_) (fun cdv A outer s H vs Q E hr h => ?_)
  · obtain ⟨_, _, rfl, _⟩ := h
    rfl
  · obtain ⟨b, n, rfl, L, hB, h0, hn, k⟩ := h
    refine ⟨_, pss_cons (ps_asg (pe_op op_add (pe_ix ix_list (pv 0) pe_int (fun _ _ => rfl)) pe_int) (pg_sub (pv 0) pe_int set_list)) (Evl.pss_cut (ps_if (PW.pt (pw_and (pt_cmpR op_eq (pe_ix ix_list (pv 0) pe_int (fun _ _ => rfl)) pe_int (nomark _)) (pw_and1 (pt_cmpR op_lt (pe_ix ix_list (pv 0) pe_int (fun _ _ => rfl)) (pe_callB call_len_seq (by rfl) T.b_len (by decide +kernel) (pa_cons (pe_ix ix_list (pv 0) pe_int (fun _ _ => rfl)) pa_nil)) (nomark _))))) (pss_cons (ps_set (i := 2) sc_l_draw.nd rfl (Or.inl rfl) (pe_ix ix_list (pe_ix ix_list (pv 0) pe_int (fun _ _ => rfl)) (pe_ix ix_list (pv 0) pe_int (fun _ _ => rfl)) (fun _ _ => rfl))) (pss_cons (ps_asg (pe_op op_add (pe_ix ix_list (pv 0) pe_int (fun _ _ => rfl)) pe_int) (pg_sub (pv 0) pe_int set_list)) (pss_cons (ps_asg (pe_op op_mulI (pe_op op_add (pe_op op_mulI pe_int (pe_callB call_abs (by rfl) T.b_abs (by decide +kernel) (pa_cons (pv 2) pa_nil))) (pe_callTy call_int1 (by rfl) T.b_int (by decide +kernel) (pa_cons (pe_cmpR op_lt (pv 2) pe_int (nomark _)) pa_nil))) (pe_callTy call_int1 (by rfl) T.b_int (by decide +kernel) (pa_cons (pe_cmpR op_ge (pe_callB call_abs (by rfl) T.b_abs (by decide +kernel) (pa_cons (pv 2) pa_nil)) (pe_op op_pow pe_int pe_int) (nomark _)) pa_nil))) (pg_sub (pv 0) pe_int set_list)) (pss_one (ps_asg (pe_op op_mod (pe_callTy call_int1 (by rfl) T.b_int (by decide +kernel) (pa_cons (pe_op op_add (pe_op op_add (pe_op op_mulI (pe_ix ix_list (pv 0) pe_int (fun _ _ => rfl)) pe_int) (pe_op op_mulI (pv 2) pe_int)) pe_int) pa_nil)) pe_int) (pg_sub (pv 0) pe_int set_list)))))) pss_nil) (pss_cons (ps_set (i := 3) sc_l_draw.nd rfl (Or.inl rfl) (pe_op op_mod (pe_callTy call_int1 (by rfl) T.b_int (by decide +kernel) (pa_cons (pe_ix ix_list (pv 0) pe_int (fun _ _ => rfl)) pa_nil)) (pv 1))) (pss_cons (ps_if (pt_cmpR op_gt (pe_ix ix_list (pv 0) pe_int (fun _ _ => rfl)) pe_int (nomark _)) (pss_cons (ps_asg (pe_op op_fdivW (pe_ix ix_list (pv 0) pe_int (fun _ _ => rfl)) (pv 1)) (pg_sub (pv 0) pe_int set_list)) (pss_one (ps_ret (pv 3)))) pss_nil) (pss_cons (ps_set (i := 4) sc_l_draw.nd rfl (Or.inl rfl) (pe_op op_mod (pe_callTy call_int1 (by rfl) T.b_int (by decide +kernel) (pa_cons (pe_op op_add (pe_ix ix_list (pv 0) pe_int (fun _ _ => rfl)) (pe_op op_mulI (pe_ix ix_list (pv 0) pe_int (fun _ _ => rfl)) pe_int)) pa_nil)) pe_int)) (pss_cons (ps_set (i := 4) sc_l_draw.nd rfl (Or.inl rfl) (pe_op op_mod (pe_callTy call_int1 (by rfl) T.b_int (by decide +kernel) (pa_cons (pe_op op_add (pe_op op_add (pe_op op_pow (pv 4) pe_int) (pe_op op_mulI (pe_ix ix_list (pv 0) pe_int (fun _ _ => rfl)) pe_int)) pe_int) pa_nil)) pe_int)) (pss_one (ps_ret (pe_op op_mod (pe_op op_fdivW (pe_op op_mod (pe_callTy call_int1 (by rfl) T.b_int (by decide +kernel) (pa_cons (pe_op op_pow (pv 4) pe_int) pa_nil)) pe_int) pe_int) (pv 1))))))))), ?_⟩
    obtain ⟨ns, i, big, mix, cnt, hb, hL, hne⟩ := hB
    iterate 5 fail "lo_rd1"
    generalize g_H1 : upd _ b _ = H1
    obtain ⟨k_H1, e_H1⟩ := gen_put g_H1
    clear g_H1
    refine ⟨fun σ' H' => ∃ (v : Option V) (i : Nat) (big mix cnt : Int), σ' = [some (.ref b), some (.int n), v, none, none] ∧ Keep b H H' ∧ H' b = some (.lst [.ref L, .int i, .int big, .int mix, .int cnt]), ?_, ?_⟩
    · fail "rd"
      refine iteI (fun z1 => ?_) (fun z1 => ?_)
      · fail "rd"
        refine iteD (fun z2 => ?_) (fun z2 => ?_)
        · fail "rd"
          have hi : i < ns.length := by
            have z3 : (i : Int) < ((ns.map V.int).length : Nat) := z2
            rw [List.length_map] at z3
            omega
          refine ⟨_, _, _, _, rfl, rfl, (by fail "lo_hp"), atI_nat (v := .int ns[i]) (by simp [hi]), ?_⟩
          fail "rd"
          exact ⟨_, i + 1, _, _, _, rfl, ((k_H1.trans keep_upd).trans keep_upd).trans keep_upd, upd_same⟩
        · exact ⟨_, _, _, _, _, rfl, k_H1, e_H1⟩
      · exact ⟨_, _, _, _, _, rfl, k_H1, e_H1⟩
    · rintro σ' H' ⟨v, i, big, mix, cnt, rfl, kp, hb'⟩
      have hL' : H' L = some (.lst (ns.map V.int)) := kp _ _ hL hne
      fail "rd"
      refine iteD (fun z3 => ?_) (fun z3 => ?_)
      · fail "rd"
        exact k _ _ (Int.emod_nonneg _ (by omega)) (Int.emod_lt_of_pos _ h0) (kp.trans keep_upd) (Bag.mk upd_same (une hne hL') hne)
      · fail "rd"
        exact k _ _ (Int.emod_nonneg _ (by omega)) (Int.emod_lt_of_pos _ h0) kp (Bag.mk hb' hL' hne)

abbrev s_l_names : Stmt := top 21
theorem sc_l_names : FnScope ["_law_bag_here", "_law_count", "_law_words", "_law_letters", "_law_size", "_law_k", "_law_stem", "_law_where", "_law_shift", "_law_longer", "_law_names_here", "_law_name", "_law_spot", "_law_word"] ["_law_bag_here", "_law_count", "_law_words"] (defScope s_l_names) := ⟨rfl, rfl, rfl, by decide +kernel, rfl, by decide +kernel, by decide +kernel⟩
def sp_l_names (_ : PySem.W.Frag) (_ : Nat → Addr) : Sp := fun vs H Q _ => ∃ (b lw : Addr) (n : Nat) (ws : List Str), vs = [.ref b, .int n, .ref lw] ∧ ∃ L : Addr, Bag H L b ∧ H lw = some (.lst (ws.map V.str)) ∧ lw ≠ b ∧ (∀ z ∈ ws, NameOk z) ∧ ws ≠ [] ∧ ws.length < 1000 ∧ 1 ≤ n ∧ n ≤ 60 ∧
  ∀ (N : List Str) (p : Addr) (H' : Hp), N.length = n → (∀ z ∈ N, NameOk z) → H p = none → Keep b H H' → Bag H' L b → H' p = some (.lst (N.map V.str)) → Q (.ref p) H'
theorem ok_l_names {f : Addr} {fd : FuncData} (F : Fun K "_law_names" "_law_names" s_l_names f fd) (T : Txt K mg ca) (O__law_draw : Own P w K mg base 1 "_law_draw" ["_law_bag_here", "_law_size"] (sp_l_draw K ca)) : FnOk P w K mg base (L2.CX P w) 2 f fd ["_law_bag_here", "_law_count", "_law_words"] (sp_l_names K ca) := by
  refine F.okX sc_l_names (fun vs H Q E h => ?_) (fun cdv A outer s H vs Q E hr h => ?_)
  · obtain ⟨_, _, _, _, rfl, _⟩ := h
    rfl
  · obtain ⟨b, lw, n, ws, rfl, L, hB, hw, nw, okw, w0, w1, n1, n60, k⟩ := h
    refine ⟨_, pss_cons (ps_set (i := 3) sc_l_names.nd rfl (Or.inr rfl) pe_str) (pss_cons (ps_set (i := 4) sc_l_names.nd rfl (Or.inl rfl) (pe_ix ix_list (pe_lst (pa_cons pe_int (pa_cons pe_int (pa_cons pe_int (pa_cons pe_int (pa_cons pe_int pa_nil)))))) (pe_own O__law_draw (hr.mono (by decide)) rfl pas0 (pa_cons (pv 0) (pa_cons pe_int pa_nil))) (fun _ _ => rfl))) (pss_cons (ps_set (i := 6) sc_l_names.nd rfl (Or.inl rfl) (pe_join pe_str (pe_lc (own := [("_law_k", 5)]) (g := gName 5) (tt := tYes) rfl sc_l_names.nd (pi_range1 rfl T.b_range (pa_cons (pv 4) pa_nil)) (blkOk_by (N := ["_law_bag_here", "_law_count", "_law_words", "_law_letters", "_law_size", "_law_k", "_law_stem", "_law_where", "_law_shift", "_law_longer", "_law_names_here", "_law_name", "_law_spot", "_law_word"]) (sc := defScope s_l_names) (by decide +kernel)) (fun _ _ _ _ _ => pg_name (i := 5) sc_l_names.nd rfl (Or.inl rfl)) (fun _ _ _ _ _ => pts_nil) (fun _ _ _ _ _ => pe_ix ix_str (pv 3) (pe_own O__law_draw (hr.mono (by decide)) rfl pas0 (pa_cons (pv 0) (pa_cons pe_int pa_nil))) (fun _ _ => rfl))))) (pss_cons (ps_set (i := 7) sc_l_names.nd rfl (Or.inl rfl) (pe_own O__law_draw (hr.mono (by decide)) rfl pas0 (pa_cons (pv 0) (pa_cons (pe_op op_add (pv 4) pe_int) pa_nil)))) (pss_cons (ps_set (i := 8) sc_l_names.nd rfl (Or.inl rfl) (pe_own O__law_draw (hr.mono (by decide)) rfl pas0 (pa_cons (pv 0) (pa_cons pe_int pa_nil)))) (pss_cons (ps_set (i := 9) sc_l_names.nd rfl (Or.inl rfl) (pe_own O__law_draw (hr.mono (by decide)) rfl pas0 (pa_cons (pv 0) (pa_cons pe_int pa_nil)))) (pss_cons (ps_set (i := 10) sc_l_names.nd rfl (Or.inl rfl) (pe_lst pa_nil)) (pss_cons (ps_for (passes_of rfl) rfl (pi_range1 rfl T.b_range (pa_cons (pv 1) pa_nil)) (pg_name (i := 5) sc_l_names.nd rfl (Or.inl rfl)) (pss_cons (ps_set (i := 11) sc_l_names.nd rfl (Or.inl rfl) (pe_op op_add_str (pe_op op_add_str (pe_slice sl_str (pv 6) po_none (po_some (pv 7))) (pe_ix ix_str (pv 3) (pe_op op_mod (pe_callTy call_int1 (by rfl) T.b_int (by decide +kernel) (pa_cons (pe_op op_add (pv 8) (pe_op op_mulI pe_int (pv 5))) pa_nil)) pe_int) (fun _ _ => rfl))) (pe_slice sl_str (pv 6) (po_some (pv 7)) po_none))) (pss_one (ps_expr (pe_bm PySem.F.plainAttrs_list PySem.F.slot_list_append PySem.F.type_list_append mt_append (pv 10) (pa_cons (pe_op op_add_str (pv 11) (pe_op op_mulS1 (pe_ix ix_str (pv 3) (pv 8) (fun _ _ => rfl)) (pe_callTy call_int1 (by rfl) T.b_int (by decide +kernel) (pa_cons (pe_cmpR op_eq (pe_op op_mod (pe_callTy call_int1 (by rfl) T.b_int (by decide +kernel) (pa_cons (pv 5) pa_nil)) pe_int) (pv 9) (nomark _)) pa_nil)))) pa_nil)))))) (Evl.pss_cut (ps_if (PW.pt (pw_and (pt_cmpR op_gt (pv 1) pe_int (nomark _)) (pw_and (pt_cmpR op_lt (pv 4) pe_int (nomark _)) (pw_and1 (pt_cmpR op_eq (pv 9) pe_int (nomark _)))))) (pss_one (ps_asg (pe_op op_add_str (pe_ix ix_list (pv 10) pe_int (fun _ _ => rfl)) (pe_ix ix_str (pv 3) (pe_own O__law_draw (hr.mono (by decide)) rfl pas0 (pa_cons (pv 0) (pa_cons pe_int pa_nil))) (fun _ _ => rfl))) (pg_sub (pv 10) pe_int set_list))) pss_nil) (pss_cons (ps_set (i := 12) sc_l_names.nd rfl (Or.inl rfl) (pe_own O__law_draw (hr.mono (by decide)) rfl pas0 (pa_cons (pv 0) (pa_cons (pe_op op_mulI pe_int (pv 1)) pa_nil)))) (pss_cons (ps_set (i := 13) sc_l_names.nd rfl (Or.inl rfl) (pe_ix ix_list (pv 2) (pe_own O__law_draw (hr.mono (by decide)) rfl pas0 (pa_cons (pv 0) (pa_cons (pe_callB call_len_seq (by rfl) T.b_len (by decide +kernel) (pa_cons (pv 2) pa_nil)) pa_nil))) (fun _ _ => rfl))) (pss_cons (ps_if (PW.pt (pw_and (pt_cmpR op_lt (pv 12) (pv 1) (nomark _)) (pw_and1 (pt_cmpR op_notIn_seq (pv 13) (pv 10) (by with_unfolding_all rfl))))) (pss_one (ps_asg (pv 13) (pg_sub (pv 10) (pv 12) set_list))) pss_nil) (pss_one (ps_ret (pv 10)))))))))))))), ?_⟩
    fail "rd"
    intro l n_l
    generalize g_H1 : upd _ l _ = H1
    obtain ⟨s_H1, e_l⟩ := gen_new n_l g_H1
    clear g_H1
    have B1 := hB.same s_H1
    have lb := hB.ne n_l
    fail "rd"
    refine ⟨L, B1, by decide, by decide, fun c H2 c0 c1 k2 B2 => ?_⟩
    have e_l : H2 l = some (.lst [.int 0, .int 1, .int 2, .int 3, .int 10]) := k2 _ _ e_l lb
    obtain ⟨size, hs, s0⟩ : ∃ m : Nat, atI [V.int 0, .int 1, .int 2, .int 3, .int 10] c = some (.int m) ∧ m ≤ 10 := by
      have hc : c = 0 ∨ c = 1 ∨ c = 2 ∨ c = 3 ∨ c = 4 := by omega
      rcases hc with rfl | rfl | rfl | rfl | rfl
      · exact ⟨0, ix_c rfl, by decide⟩
      · exact ⟨1, ix_c rfl, by decide⟩
      · exact ⟨2, ix_c rfl, by decide⟩
      · exact ⟨3, ix_c rfl, by decide⟩
      · exact ⟨10, ix_c rfl, by decide⟩
    refine ⟨_, _, _, _, rfl, rfl, SqL.of e_l, hs, ?_⟩
    refine ⟨⟨_, rfl⟩, ?_⟩
    fail "rd"
    have e62 : (2 : Int) ^ 62 = 4611686018427387904 := by decide
    refine ⟨by omega, by omega, fun D nD => lc_range (lo := 0) (n := size) (fun i H' => ∃ acc : List Str, H' D = some (.lst (acc.map V.str)) ∧ acc.length = i ∧ (∀ z ∈ acc, Sign z) ∧ Keep b H2 H' ∧ Bag H' L b)
      ⟨[], upd_same, rfl, fun _ m => (nomatch m), .of (same_upd nD), B2.same (same_upd nD)⟩ ?_ ?_⟩
    · rintro i H3 hi ⟨acc, hD, hl, hs, k3, B3⟩
      have nDb : D ≠ b := B2.ne nD
      have nDL : D ≠ L := B2.neL nD
      fail "rd"
      refine ⟨L, B3, by decide, by decide, fun d H4 d0 d1 k4 B4 => ?_⟩
      fail "rd"
      refine rIxS_abc d0 d1 ?_
      have hD4 := k4 _ _ hD nDb
      refine ⟨_, hD4, by rw [List.length_map]; exact size_line (by omega), acc ++ [⟨#[97 + d.toNat]⟩], by rw [strs_snoc]; exact upd_same, by rw [List.length_append, hl]; rfl, fun z m => ?_, ?_, ?_⟩
      · rcases List.mem_append.mp m with m | m
        · exact hs z m
        · cases List.mem_singleton.mp m
          exact sign_abc d1
      · exact keep_new (k3.trans k4) nD
      · exact B4.keep keep_upd nDb nDL
    · rintro H3 ⟨acc, hD, hl, hs, k3, B3⟩
      obtain ⟨stem, hst⟩ : ∃ z, Txt.join Str.empty acc = z := ⟨_, rfl⟩
      obtain ⟨j1, j2⟩ := join_signs hs
      rw [hst] at j1 j2
      refine ⟨_, D, acc, rfl, rfl, .inl (SqL.of hD), ?_, ?_⟩
      · have e : acc.map (·.length) = acc.map fun _ => 1 := List.map_congr_left fun z m => (hs z m).len
        have e2 : (Str.ofString "").length = 0 := by decide +kernel
        rw [e, e2, List.map_const', List.sum_replicate_nat]
        omega
      have e3 : Txt.join (Str.ofString "") acc = stem := by
        rw [← hst]
        congr 1
      rw [e3]
      clear e3 hst hs hD nD
      fail "rd"
      have z64 : ∀ x : Int, 0 ≤ x → x ≤ 1000 → x.natAbs.log2 < 9000 := fun x h0 h1 => lg164 (Nat.lt_of_le_of_lt (show x.natAbs ≤ 1000 by omega) (by decide))
      refine ⟨L, B3, by omega, z64 _ (by omega) (by omega), fun wh H4 _ _ k4 B4 => ?_⟩
      fail "rd"
      refine ⟨L, B4, by decide, by decide, fun sh H5 sh0 sh1 k5 B5 => ?_⟩
      fail "rd"
      refine ⟨L, B5, by decide, by decide, fun lo H6 _ _ k6 B6 => ?_⟩
      fail "rd"
      intro p n_p
      generalize g_H7 : upd _ p _ = H7
      obtain ⟨s_H7, e_p⟩ := gen_new n_p g_H7
      clear g_H7
      have B7 := B6.same s_H7
      have pb := B6.ne n_p
      have pL := B6.neL n_p
      have k06 : Keep b H H6 := (((Keep.of s_H1).trans k2).trans k3).trans ((k4.trans k5).trans k6)
      have hp0 : H p = none := keep_free k06 n_p pb
      have kA : Keep b H H7 := k06.trans (.of s_H7)
      clear k06 k6 k5 k4 k3 k2 B6 B5 B4 B3 B2 B1 s_H7 n_p e_l n_l lb
      fail "rd"
      refine ⟨by omega, by omega, for_range (n := n) (fun i σ' H' => ∃ (N : List Str) (v1 v2 : Option V), σ' = [some (.ref b), some (.int n), some (.ref lw), some (.str (Str.ofString "abcdefghijklmnopqrstuvwxyz")), some (.int size), v1, some (.str stem), some (.int wh), some (.int sh), some (.int lo), some (.ref p), v2, none, none] ∧
          H' p = some (.lst (N.map V.str)) ∧ N.length = i ∧ (∀ z ∈ N, Lets z ∧ 0 < z.length ∧ z.length ≤ size + 2) ∧ Keep b H H' ∧ Bag H' L b) ⟨[], _, _, rfl, e_p, rfl, fun _ m => (nomatch m), kA, B7⟩ ?_ ?_⟩
      · rintro i σ' H' hi ⟨N, v1, v2, rfl, hp, hN, hz, kp, B⟩
        fail "rd"
        refine ⟨size_le (by omega), ?_⟩
        fail "rd"
        obtain ⟨ch, hch⟩ : ∃ c : Int, (sh + 7 * (0 + (i : Int))) % 26 = c := ⟨_, rfl⟩
        have ch0 : 0 ≤ ch := by rw [← hch]; exact Int.emod_nonneg _ (by decide)
        have ch1 : ch < 26 := by rw [← hch]; exact Int.emod_lt_of_pos _ (by decide)
        dsimp only
        rw [hch]
        refine rIxS_abc ch0 ch1 ?_
        have q1 := cutS_length stem none (some wh)
        have q2 := cutS_length stem (some wh) none
        have q3 := len_cuts (z := stem) (w := wh)
        have q4 : (⟨#[97 + ch.toNat]⟩ : Str).length = 1 := rfl
        refine ⟨_, _, rfl, rfl, size_le (by rw [q4]; omega), ?_⟩
        fail "rd"
        refine ⟨size_le (by omega), ?_⟩
        refine ⟨_, _, rfl, rfl, size_le (by rw [len_app, q4]; omega), ?_⟩
        fail "rd"
        refine rIxS_abc sh0 sh1 ?_
        fail "rd"
        refine ⟨by split <;> simp, fun w hw => ?_⟩
        obtain ⟨base, hbase⟩ : ∃ z, cutS stem none (some wh) ++ (⟨#[97 + ch.toNat]⟩ : Str) ++ cutS stem (some wh) none = z := ⟨_, rfl⟩
        have b1 : base.length = size + 1 := by rw [← hbase, len_app, len_app, q4]; omega
        have b2 : Lets base := by rw [← hbase]; exact lets_app (lets_app (lets_cut j1) (sign_abc ch1).lets) (lets_cut j1)
        have w1 : w.length ≤ 1 ∧ Lets w := by
          rcases hw with rfl | rfl
          · exact ⟨by decide, lets_nil⟩
          · exact ⟨Nat.le_refl _, (sign_abc sh1).lets⟩
        rw [hbase]
        refine ⟨_, _, rfl, rfl, size_le (by omega), ?_⟩
        fail "rd"
        have hle : N.length < 100 := by omega
        refine ⟨p, _, _, rfl, rfl, hp, by rw [List.length_map]; exact size_line (by omega), ?_⟩
        generalize g_H8 : upd _ p _ = H8
        obtain ⟨k_H8, e_H8⟩ := gen_put g_H8
        clear g_H8
        rw [strs_snoc] at e_H8
        refine ⟨N ++ [base ++ w], _, _, rfl, e_H8, by rw [List.length_append, hN]; rfl, fun z m => ?_, keep_put kp k_H8 hp0, B.keep k_H8 pb pL⟩
        rcases List.mem_append.mp m with m | m
        · exact hz z m
        · cases List.mem_singleton.mp m
          exact ⟨lets_app b2 w1.2, by rw [len_app]; omega, by rw [len_app]; omega⟩
      · rintro σ' H' ⟨N, v1, v2, rfl, hp, hN, hz, kp, B⟩
        refine ⟨fun σ' H' => ∃ (N : List Str) (v1 v2 : Option V), σ' = [some (.ref b), some (.int n), some (.ref lw), some (.str (Str.ofString "abcdefghijklmnopqrstuvwxyz")), some (.int size), v1, some (.str stem), some (.int wh), some (.int sh), some (.int lo), some (.ref p), v2, none, none] ∧
          H' p = some (.lst (N.map V.str)) ∧ N.length = n ∧ (∀ z ∈ N, NameOk z) ∧ Keep b H H' ∧ Bag H' L b, ?_, ?_⟩
        · have easy : ∃ (N : List Str) (u1 u2 : Option V), [some (.ref b), some (.int n), some (.ref lw), some (.str (Str.ofString "abcdefghijklmnopqrstuvwxyz")), some (.int size), v1, some (.str stem), some (.int wh), some (.int sh), some (.int lo), some (.ref p), v2, none, none] = [some (.ref b), some (.int n), some (.ref lw), some (.str (Str.ofString "abcdefghijklmnopqrstuvwxyz")), some (.int size), u1, some (.str stem), some (.int wh), some (.int sh), some (.int lo), some (.ref p), u2, none, none] ∧
              H' p = some (.lst (N.map V.str)) ∧ N.length = n ∧ (∀ z ∈ N, NameOk z) ∧ Keep b H H' ∧ Bag H' L b := ⟨N, v1, v2, rfl, hp, hN, fun z m => ⟨by have := (hz z m).2.2; omega, (hz z m).2.1, (hz z m).1⟩, kp, B⟩
          fail "rd"
          refine iteD (fun y1 => ?_) (fun _ => easy)
          fail "rd"
          refine iteD (fun y2 => ?_) (fun _ => easy)
          fail "rd"
          refine iteI (fun y3 => ?_) (fun _ => easy)
          fail "rd"
          obtain ⟨z0, hz0⟩ : ∃ z0, N[0]? = some z0 := ⟨N[0]'(by omega), List.getElem?_eq_getElem (by omega)⟩
          have hz0' := hz z0 (List.mem_of_getElem? hz0)
          refine ⟨_, _, _, _, rfl, rfl, SqL.of hp, ix_c (v := .str z0) (by show (N.map V.str)[0]? = _; rw [List.getElem?_map, hz0]; rfl), ?_⟩
          fail "rd"
          refine ⟨L, B, by decide, by decide, fun d H8 d0 d1 k8 B8 => ?_⟩
          fail "rd"
          refine rIxS_abc d0 d1 ?_
          have q4 : (⟨#[97 + d.toNat]⟩ : Str).length = 1 := rfl
          refine ⟨_, _, rfl, rfl, size_le (by rw [q4]; omega), ?_⟩
          have hp8 := k8 _ _ hp pb
          fail "rd"
          refine ⟨p, _, 1, 1, rfl, rfl, hp8, by unfold ixN; rw [if_pos (by decide), if_pos (by rw [List.length_map]; omega)]; rfl, ?_⟩
          generalize g_H9 : upd _ p _ = H9
          obtain ⟨k_H9, e_H9⟩ := gen_put g_H9
          clear g_H9
          rw [← List.map_set] at e_H9
          refine ⟨N.set 1 (z0 ++ ⟨#[97 + d.toNat]⟩), _, _, rfl, e_H9, by rw [List.length_set, hN], fun z m => ?_, keep_put (kp.trans k8) k_H9 hp0, B8.keep k_H9 pb pL⟩
          rcases List.mem_or_eq_of_mem_set m with m | rfl
          · exact ⟨by have := (hz z m).2.2; omega, (hz z m).2.1, (hz z m).1⟩
          · exact ⟨by rw [len_app, q4]; omega, by rw [len_app, q4]; omega, lets_app hz0'.1 (sign_abc d1).lets⟩
        · rintro σ' H' ⟨N, v1, v2, rfl, hp, hN, hz, kp, B⟩
          fail "rd"
          refine ⟨L, B, by omega, z64 _ (by omega) (by omega), fun spot H8 sp0 sp1 k8 B8 => ?_⟩
          have hw8 := k8 _ _ (kp _ _ hw nw) nw
          fail "rd"
          have hwl : (0 : Int) < (ws.length : Nat) := by have := List.length_pos_iff.mpr w0; omega
          have hwl2 : ((ws.map V.str).length : Int) = (ws.length : Nat) := by rw [List.length_map]
          refine ⟨L, B8, by rw [hwl2]; exact hwl, by rw [hwl2]; exact z64 _ (by omega) (by omega), fun d H9 d0 d1 k9 B9 => ?_⟩
          rw [hwl2] at d1
          have hw9 := k9 _ _ hw8 nw
          have hp9 := k9 _ _ (k8 _ _ hp pb) pb
          obtain ⟨m, rfl⟩ := Int.eq_ofNat_of_zero_le d0
          obtain ⟨wd, hwd⟩ : ∃ z, ws[m]? = some z := ⟨ws[m]'(by omega), List.getElem?_eq_getElem (by omega)⟩
          refine ⟨_, _, _, _, rfl, rfl, SqL.of hw9, atI_nat (v := .str wd) (by rw [List.getElem?_map, hwd]; rfl), ?_⟩
          have fin := k N p H9 hN hz hp0 ((kp.trans k8).trans k9) B9 hp9
          fail "rd"
          refine iteD (fun y1 => ?_) (fun _ => ?_)
          · fail "rd"
            refine ⟨List.all_eq_true.mpr fun x hx => by obtain ⟨z, _, rfl⟩ := List.mem_map.mp hx; rfl, ?_⟩
            rw [if_pos rfl]
            cases inV (.str wd) (N.map V.str) with
            | true =>
              fail "rd"
              exact fin
            | false =>
              fail "rd"
              obtain ⟨j, rfl⟩ := Int.eq_ofNat_of_zero_le sp0
              have hj : j < N.length := by omega
              refine ⟨p, _, j, j, rfl, rfl, hp9, by unfold ixN; rw [if_pos (by omega), if_pos (by rw [List.length_map]; omega)]; rfl, ?_⟩
              generalize g_H10 : upd _ p _ = H10
              obtain ⟨k_H10, e_H10⟩ := gen_put g_H10
              clear g_H10
              rw [← List.map_set] at e_H10
              fail "rd"
              refine k (N.set j wd) p H10 (by rw [List.length_set, hN]) (fun z m => ?_) hp0 (keep_put ((kp.trans k8).trans k9) k_H10 hp0) (B9.keep k_H10 pb pL) e_H10
              rcases List.mem_or_eq_of_mem_set m with m | rfl
              · exact hz z m
              · exact okw _ (List.mem_of_getElem? hwd)
          · fail "rd"
            exact fin

abbrev s_l_divisor : Stmt := top 24
theorem sc_l_divisor : FnScope ["_law_one", "_law_other", "_law_rest"] ["_law_one", "_law_other"] (defScope s_l_divisor) := ⟨rfl, rfl, rfl, by decide +kernel, rfl, by decide +kernel, by decide +kernel⟩
def sp_l_divisor (_ : PySem.W.Frag) (_ : Nat → Addr) : Sp := fun vs H Q _ => ∃ a b : Int, vs = [.int a, .int b] ∧ 0 ≤ a ∧ 0 ≤ b ∧ Q (.int ((Nat.gcd a.natAbs b.natAbs : Nat) : Int)) H
theorem ok_l_divisor {f : Addr} {fd : FuncData} (F : Fun K "_law_divisor" "_law_divisor" s_l_divisor f fd) (T : Txt K mg ca)  : FnOk P w K mg base (L2.CX P w) 1 f fd ["_law_one", "_law_other"] (sp_l_divisor K ca) := by
  refine F.okX sc_l_divisor (fun vs H Q E h => ?_) (fun cdv A outer s H vs Q E hr h => ?_)
  · obtain ⟨_, _, rfl, _⟩ := h
    rfl
  · obtain ⟨a, b, rfl, ha, hb, k⟩ := h
    refine ⟨_, pss_cons (ps_while (passes_of rfl) (pt_cmpR op_ne (pv 1) pe_int (nomark _)) (pss_cons (ps_set (i := 2) sc_l_divisor.nd rfl (Or.inl rfl) (pe_op op_mod (pe_callTy call_int1 (by rfl) T.b_int (by decide +kernel) (pa_cons (pv 0) pa_nil)) (pv 1))) (pss_cons (ps_set (i := 0) sc_l_divisor.nd rfl (Or.inl rfl) (pv 1)) (pss_one (ps_set (i := 1) sc_l_divisor.nd rfl (Or.inl rfl) (pv 2)))))) (pss_one (ps_ret (pv 0))), ?_⟩
    refine while_by (fun σ' H' => ∃ (x y : Int) (v : Option V), σ' = [some (.int x), some (.int y), v] ∧ H' = H ∧ 0 ≤ x ∧ 0 ≤ y ∧ Nat.gcd x.natAbs y.natAbs = Nat.gcd a.natAbs b.natAbs)
      (fun σ' _ => match σ' with | [_, some (.int y), _] => y.toNat | _ => 0) ⟨a, b, none, rfl, rfl, ha, hb, rfl⟩ ?_ ?_
    · rintro σ' H' ⟨x, y, v, rfl, rfl, hx, hy, hg⟩
      fail "rd"
      refine iteIn (fun z => ?_) (fun z => ?_)
      · fail "rd"
        have z1 : 0 < y := by omega
        refine ⟨⟨y, x % y, _, rfl, rfl, hy, Int.emod_nonneg _ z, ?_⟩, ?_⟩
        · obtain ⟨X, rfl⟩ := Int.eq_ofNat_of_zero_le hx
          obtain ⟨Y, rfl⟩ := Int.eq_ofNat_of_zero_le hy
          rw [← hg]
          show Nat.gcd Y (X % Y) = Nat.gcd X Y
          rw [Nat.gcd_comm X Y, Nat.gcd_rec Y X, Nat.gcd_comm]
        · have z2 := Int.emod_lt_of_pos x z1
          have z3 := Int.emod_nonneg x z
          show (x % y).toNat < y.toNat
          omega
      · subst z
        fail "rd"
        have e : (Nat.gcd a.natAbs b.natAbs : Nat) = x.natAbs := by rw [← hg]; exact Nat.gcd_zero_right _
        rw [e] at k
        have e2 : ((x.natAbs : Nat) : Int) = x := by omega
        rw [e2] at k
        exact k
    · rintro σ H Q Q' hq ⟨v, e, s, c, e2, h⟩
      exact ⟨v, e, s, c, e2, hq _ _ h⟩

abbrev s_l_lowest : Stmt := top 25
theorem sc_l_lowest : FnScope ["_law_top_here", "_law_bottom", "_law_divisor_here"] ["_law_top_here", "_law_bottom"] (defScope s_l_lowest) := ⟨rfl, rfl, rfl, by decide +kernel, rfl, by decide +kernel, by decide +kernel⟩
def sp_l_lowest (_ : PySem.W.Frag) (_ : Nat → Addr) : Sp := fun vs H Q _ => ∃ a b : Int, vs = [.int a, .int b] ∧ b ≠ 0 ∧ b.natAbs.log2 < 9000 ∧
  ∀ (p : Addr) (H' : Hp), Same H H' → H p = none → H' p = some (.tup [.int (nrm a b).1, .int (nrm a b).2]) → Q (.ref p) H'
theorem ok_l_lowest {f : Addr} {fd : FuncData} (F : Fun K "_law_lowest" "_law_lowest" s_l_lowest f fd) (T : Txt K mg ca) (O__law_divisor : Own P w K mg base 1 "_law_divisor" ["_law_one", "_law_other"] (sp_l_divisor K ca)) : FnOk P w K mg base (L2.CX P w) 2 f fd ["_law_top_here", "_law_bottom"] (sp_l_lowest K ca) := by
  refine F.okX sc_l_lowest (fun vs H Q E h => ?_) (fun cdv A outer s H vs Q E hr h => ?_)
  · obtain ⟨_, _, rfl, _⟩ := h
    rfl
  · obtain ⟨a, b, rfl, h0, hs, k⟩ := h
    refine ⟨_, pss_cons (ps_set (i := 2) sc_l_lowest.nd rfl (Or.inl rfl) (pe_own O__law_divisor (hr.mono (by decide)) rfl pas0 (pa_cons (pe_callB call_abs (by rfl) T.b_abs (by decide +kernel) (pa_cons (pv 0) pa_nil)) (pa_cons (pe_callB call_abs (by rfl) T.b_abs (by decide +kernel) (pa_cons (pv 1) pa_nil)) pa_nil)))) (pss_cons (ps_if (pt_cmpR op_lt (pv 1) pe_int (nomark _)) (pss_one (ps_set (i := 2) sc_l_lowest.nd rfl (Or.inl rfl) (pe_un un_neg (pv 2)))) pss_nil) (pss_one (ps_ret (pe_tup (pa_cons (pe_op op_fdivA (pv 0) (pv 2)) (pa_cons (pe_op op_fdivA (pv 1) (pv 2)) pa_nil)))))), ?_⟩
    fail "rd"
    have ea : (if a < 0 then -a else a).natAbs = a.natAbs := by split <;> omega
    have eb : (if b < 0 then -b else b).natAbs = b.natAbs := by split <;> omega
    refine ⟨by split <;> omega, by split <;> omega, ?_⟩
    rw [ea, eb]
    have c1 := nrmC_ne (a := a) h0
    have c2 := nrmC_log (a := a) h0 hs
    unfold nrm nrmC at k
    unfold nrmC at c1 c2
    fail "rd"
    refine iteD (fun y => ?_) (fun y => ?_)
    · rw [if_pos y] at k c1 c2
      fail "rd"
      intro p n_p
      generalize g_H1 : upd _ p _ = H1
      obtain ⟨s_H1, e_p⟩ := gen_new n_p g_H1
      clear g_H1
      exact k p H1 s_H1 n_p e_p
    · rw [if_neg y] at k c1 c2
      fail "rd"
      intro p n_p
      generalize g_H1 : upd _ p _ = H1
      obtain ⟨s_H1, e_p⟩ := gen_new n_p g_H1
      clear g_H1
      exact k p H1 s_H1 n_p e_p

abbrev s_l_top : Stmt := top 26
theorem sc_l_top : FnScope ["_law_bag_here", "_law_size"] ["_law_bag_here"] (defScope s_l_top) := ⟨rfl, rfl, rfl, by decide +kernel, rfl, by decide +kernel, by decide +kernel⟩
def sp_l_top (_ : PySem.W.Frag) (_ : Nat → Addr) : Sp := fun vs H Q _ => ∃ b : Addr, vs = [.ref b] ∧ ∃ L : Addr, Bag H L b ∧ ∀ (z : Int) (H' : Hp), Sz 70 z → Keep b H H' → Bag H' L b → Q (.int z) H'
theorem ok_l_top {f : Addr} {fd : FuncData} (F : Fun K "_law_top" "_law_top" s_l_top f fd) (T : Txt K mg ca) (O__law_draw : Own P w K mg base 1 "_law_draw" ["_law_bag_here", "_law_size"] (sp_l_draw K ca)) : FnOk P w K mg base (L2.CX P w) 2 f fd ["_law_bag_here"] (sp_l_top K ca) := by
  refine F.okX sc_l_top (fun vs H Q E h => ?_) (fun cdv A outer s H vs Q E hr h => ?_)
  · obtain ⟨_, rfl, _⟩ := h
    rfl
  · obtain ⟨b, rfl, L, hB, k⟩ := h
    refine ⟨_, pss_cons (ps_set (i := 1) sc_l_top.nd rfl (Or.inl rfl) (pe_ix ix_list (pe_lst (pa_cons pe_int (pa_cons pe_int (pa_cons pe_int (pa_cons (pe_op op_pow pe_int pe_int) pa_nil))))) (pe_own O__law_draw (hr.mono (by decide)) rfl pas0 (pa_cons (pv 0) (pa_cons pe_int pa_nil))) (fun _ _ => rfl))) (pss_one (ps_ret (pe_op op_sub (pe_own O__law_draw (hr.mono (by decide)) rfl pas0 (pa_cons (pv 0) (pa_cons (pe_op op_add (pe_op op_mulI pe_int (pv 1)) pe_int) pa_nil))) (pv 1)))), ?_⟩
    fail "rd"
    intro l n_l
    generalize g_H1 : upd _ l _ = H1
    obtain ⟨s_H1, e_l⟩ := gen_new n_l g_H1
    clear g_H1
    have e_l : H1 l = some (.lst [.int 3, .int 12, .int 1000, .int (10 ^ 20)]) := e_l
    have B1 := hB.same s_H1
    fail "rd"
    refine ⟨L, B1, by decide, by decide, fun c H2 c0 c1 k2 B2 => ?_⟩
    have e_l := k2 _ _ e_l (hB.ne n_l)
    obtain ⟨n, hn, n0, n1⟩ : ∃ n : Int, atI [V.int 3, .int 12, .int 1000, .int (10 ^ 20)] c = some (.int n) ∧ 0 < n ∧ n ≤ 10 ^ 20 := by
      have hc : c = 0 ∨ c = 1 ∨ c = 2 ∨ c = 3 := by omega
      rcases hc with rfl | rfl | rfl | rfl
      · exact ⟨3, ix_c rfl, by decide, by decide⟩
      · exact ⟨12, ix_c rfl, by decide, by decide⟩
      · exact ⟨1000, ix_c rfl, by decide, by decide⟩
      · exact ⟨10 ^ 20, ix_c rfl, by decide, by decide⟩
    refine ⟨_, _, _, _, rfl, rfl, SqL.of e_l, hn, ?_⟩
    have e20 : (10 : Int) ^ 20 = 100000000000000000000 := by decide
    have e70 : (2 : Nat) ^ 70 = 1180591620717411303424 := by decide
    rw [e20] at n1
    have hz : ∀ x : Int, 0 ≤ x → x ≤ 1000000000000000000000 → Sz 70 x := fun x a b => by
      show x.natAbs < 2 ^ 70
      rw [e70]
      omega
    fail "rd"
    refine ⟨L, B2, by omega, (hz _ (by omega) (by omega)).lg, fun d H3 d0 d1 k3 B3 => ?_⟩
    fail "rd"
    refine k _ H3 ?_ ((Keep.of s_H1).trans (k2.trans k3)) B3
    show (d - n).natAbs < 2 ^ 70
    rw [e70]
    omega

abbrev s_l_share : Stmt := top 27
theorem sc_l_share : FnScope ["_law_bag_here"] ["_law_bag_here"] (defScope s_l_share) := ⟨rfl, rfl, rfl, by decide +kernel, rfl, by decide +kernel, by decide +kernel⟩
def sp_l_share (_ : PySem.W.Frag) (_ : Nat → Addr) : Sp := fun vs H Q _ => ∃ b : Addr, vs = [.ref b] ∧ ∃ L : Addr, Bag H L b ∧ ∀ (x : Int × Int) (p : Addr) (H' : Hp), Red x.1 x.2 → Sz 70 x.1 → Sz 70 x.2 → Keep b H H' → Bag H' L b → H p = none → H' p = some (.tup [.int x.1, .int x.2]) → Q (.ref p) H'
theorem ok_l_share {f : Addr} {fd : FuncData} (F : Fun K "_law_share" "_law_share" s_l_share f fd) (T : Txt K mg ca) (O__law_lowest : Own P w K mg base 2 "_law_lowest" ["_law_top_here", "_law_bottom"] (sp_l_lowest K ca)) (O__law_draw : Own P w K mg base 1 "_law_draw" ["_law_bag_here", "_law_size"] (sp_l_draw K ca)) (O__law_top : Own P w K mg base 2 "_law_top" ["_law_bag_here"] (sp_l_top K ca)) : FnOk P w K mg base (L2.CX P w) 3 f fd ["_law_bag_here"] (sp_l_share K ca) := by
  refine F.okX sc_l_share (fun vs H Q E h => ?_) (fun cdv A outer s H vs Q E hr h => ?_)
  · obtain ⟨_, rfl, _⟩ := h
    rfl
  · obtain ⟨b, rfl, L, hB, k⟩ := h
    refine ⟨_, pss_cons (ps_if (pt_cmpR op_eq (pe_own O__law_draw (hr.mono (by decide)) rfl pas0 (pa_cons (pv 0) (pa_cons pe_int pa_nil))) pe_int (nomark _)) (pss_one (ps_ret (pe_tup (pa_cons pe_int (pa_cons pe_int pa_nil))))) pss_nil) (pss_one (ps_ret (pe_own O__law_lowest (hr.mono (by decide)) rfl pas0 (pa_cons (pe_own O__law_top (hr.mono (by decide)) rfl pas0 (pa_cons (pv 0) pa_nil)) (pa_cons (pe_op op_add pe_int (pe_own O__law_draw (hr.mono (by decide)) rfl pas0 (pa_cons (pv 0) (pa_cons (pe_ix ix_list (pe_lst (pa_cons pe_int (pa_cons pe_int (pa_cons pe_int (pa_cons pe_int pa_nil))))) (pe_own O__law_draw (hr.mono (by decide)) rfl pas0 (pa_cons (pv 0) (pa_cons pe_int pa_nil))) (fun _ _ => rfl)) pa_nil)))) pa_nil))))), ?_⟩
    fail "rd"
    refine ⟨L, hB, by decide, by decide, fun c H1 c0 c1 k1 B1 => ?_⟩
    fail "rd"
    refine iteI (fun y => ?_) (fun y => ?_)
    · fail "rd"
      intro p n_p
      generalize g_H2 : upd _ p _ = H2
      obtain ⟨s_H2, e_p⟩ := gen_new n_p g_H2
      clear g_H2
      fail "rd"
      exact k (0, 1) p H2 red01 Sz.zero.mono Sz.one.mono (k1.trans (.of s_H2)) (B1.same s_H2) (keep_free k1 n_p (B1.ne n_p)) e_p
    · fail "rd"
      refine ⟨L, B1, fun t H2 zt k2 B2 => ?_⟩
      fail "rd"
      intro l n_l
      generalize g_H3 : upd _ l _ = H3
      obtain ⟨s_H3, e_l⟩ := gen_new n_l g_H3
      clear g_H3
      have B3 := B2.same s_H3
      fail "rd"
      refine ⟨L, B3, by decide, by decide, fun d H4 d0 d1 k4 B4 => ?_⟩
      have e_l := k4 _ _ e_l (B2.ne n_l)
      obtain ⟨n, hn, n0, n1⟩ : ∃ n : Int, atI [V.int 1, .int 6, .int 12, .int 1000] d = some (.int n) ∧ 0 < n ∧ n ≤ 1000 := by
        have hc : d = 0 ∨ d = 1 ∨ d = 2 ∨ d = 3 := by omega
        rcases hc with rfl | rfl | rfl | rfl
        · exact ⟨1, ix_c rfl, by decide, by decide⟩
        · exact ⟨6, ix_c rfl, by decide, by decide⟩
        · exact ⟨12, ix_c rfl, by decide, by decide⟩
        · exact ⟨1000, ix_c rfl, by decide, by decide⟩
      refine ⟨_, _, _, _, rfl, rfl, SqL.of e_l, hn, ?_⟩
      have hz : ∀ x : Int, 0 ≤ x → x ≤ 2000 → Sz 11 x := fun x a b => show x.natAbs < 2048 by omega
      fail "rd"
      refine ⟨L, B4, n0, (hz n (by omega) (by omega)).lg, fun e H5 e0 e1 k5 B5 => ?_⟩
      fail "rd"
      have ne : (1 : Int) + e ≠ 0 := by omega
      have ze := hz (1 + e) (by omega) (by omega)
      refine ⟨ne, ze.lg, fun p H6 s6 np e6 => ?_⟩
      have kk := k1.trans (k2.trans ((Keep.of s_H3).trans (k4.trans k5)))
      exact k (nrm t (1 + e)) p H6 (nrm_red ne) (zt.le (nrm_le1 ne)) ((ze.le (nrm_le2 ne)).mono) (kk.trans (.of s6)) (B5.same s6) (keep_free kk np (B5.ne np)) e6

abbrev s_l_shares : Stmt := top 28
theorem sc_l_shares : FnScope ["_law_bag_here", "_law_names_here", "_law_shares_here", "_law_name"] ["_law_bag_here", "_law_names_here"] (defScope s_l_shares) := ⟨rfl, rfl, rfl, by decide +kernel, rfl, by decide +kernel, by decide +kernel⟩
def sp_l_shares (_ : PySem.W.Frag) (_ : Nat → Addr) : Sp := fun vs H Q _ => ∃ (b ln : Addr) (N : List Str), vs = [.ref b, .ref ln] ∧ ∃ L : Addr, Bag H L b ∧ H ln = some (.lst (N.map V.str)) ∧ ln ≠ b ∧ Uni N ∧
  ∀ (f : Fm) (d : Addr) (H' : Hp), RedF f → SzF 70 f → TabAt H' d N f → Keep b H H' → Bag H' L b → H d = none → Q (.ref d) H'
theorem ok_l_shares {f : Addr} {fd : FuncData} (F : Fun K "_law_shares" "_law_shares" s_l_shares f fd) (T : Txt K mg ca) (O__law_draw : Own P w K mg base 1 "_law_draw" ["_law_bag_here", "_law_size"] (sp_l_draw K ca)) (O__law_share : Own P w K mg base 3 "_law_share" ["_law_bag_here"] (sp_l_share K ca)) : FnOk P w K mg base (L2.CX P w) 4 f fd ["_law_bag_here", "_law_names_here"] (sp_l_shares K ca) := by
  refine F.okX sc_l_shares (fun vs H Q E h => ?_) (fun cdv A outer s H vs Q E hr h => ?_)
  · obtain ⟨_, _, _, rfl, _⟩ := h
    rfl
  · obtain ⟨b, ln, N, rfl, L, hB, hl, nb, hN, k⟩ := h
    refine ⟨_, pss_cons (ps_set (i := 2) sc_l_shares.nd rfl (Or.inl rfl) pe_dnewK) (pss_cons (ps_for (passes_of rfl) rfl (pi_list (pv 1)) (pg_name (i := 3) sc_l_shares.nd rfl (Or.inl rfl)) (pss_one (ps_if (pt_cmpR op_gt (pe_own O__law_draw (hr.mono (by decide)) rfl pas0 (pa_cons (pv 0) (pa_cons pe_int pa_nil))) pe_int (nomark _)) (pss_one (ps_dput (hu_of (hr.mono (Nat.zero_le _))) (pv 2) (pv 3) (pe_own O__law_share (hr.mono (by decide)) rfl pas0 (pa_cons (pv 0) pa_nil)) rfl)) pss_nil))) (pss_one (ps_ret (pv 2)))), ?_⟩
    fail "rd"
    intro d n_d
    generalize g_H1 : upd _ d _ = H1
    obtain ⟨s_H1, e_d⟩ := gen_new n_d g_H1
    clear g_H1
    have B1 := hB.same s_H1
    have db := hB.ne n_d
    have dL := hB.neL n_d
    fail "rd"
    refine for_list (D := ⟨_, _, fun _ _ => True, fun _ _ => True⟩) (K := K) (a := ln) (xs := N.map V.str) (fun i σ' H' => ∃ (v : Option V) (f : Fm), σ' = [some (.ref b), some (.ref ln), some (.ref d), v] ∧ Keep b H H' ∧ Bag H' L b ∧ RedF f ∧ SzF 70 f ∧ TabAt H' d N f)
      ⟨none, fun _ => (0, 1), rfl, .of s_H1, B1, fun _ => red01, zeroF_sz, [], e_d, .nil fun _ => rfl⟩ (fun i σ' H' _ ⟨_, _, _, h, _⟩ => SqL.of (h _ _ hl nb)) ?_ ?_
    · rintro i x σ' H' hx ⟨v, f, rfl, kp, B, rf, sf, kvs, hd, t⟩
      obtain ⟨y, hy, rfl⟩ : ∃ y, N[i]? = some y ∧ V.str y = x := by
        rw [List.getElem?_map] at hx
        exact Option.map_eq_some_iff.mp hx
      have hyN := List.mem_of_getElem? hy
      fail "rd"
      refine ⟨L, B, by decide, by decide, fun c H2 c0 c1 k2 B2 => ?_⟩
      have hd2 := k2 _ _ hd db
      obtain ⟨xb, hxb⟩ := B.lst
      have t2 := t.mono (R' := TupF f H2) (fun _ _ => TupF.keep hxb (fun _ z => nomatch z) k2) fun _ z => z
      fail "rd"
      refine iteD (fun y1 => ?_) (fun y1 => ?_)
      · fail "rd"
        refine ⟨L, B2, fun x p H3 rx s1 s2 k3 B3 np hp => ?_⟩
        have hd3 := k3 _ _ hd2 db
        obtain ⟨xb2, hxb2⟩ := B2.lst
        fail "rd"
        refine ⟨d, _, rfl, DPut.k (k := Sum.inr y) hd3 (t.k.line hN), ?_⟩
        have t3 := t2.mono (R' := TupF f H3) (fun _ _ => TupF.keep hxb2 (fun _ z => nomatch z) k3) fun _ z => z
        exact ⟨_, setF f y x, rfl, keep_new ((kp.trans k2).trans k3) n_d, B3.keep keep_upd db dL, setF_red rf rx, setF_sz sf ⟨s1, s2⟩, t3.setT hd3 hyN hp⟩
      · exact ⟨_, f, rfl, kp.trans k2, B2, rf, sf, kvs, hd2, t2⟩
    · rintro σ' H' ⟨v, f, rfl, kp, B, rf, sf, ht⟩
      fail "rd"
      exact k f d H' rf sf ht kp B n_d

abbrev s_Ratio_init : Stmt := inClass (top 10) 0
theorem sc_Ratio_init : FnScope ["self", "top", "bottom", "common"] ["self", "top", "bottom"] (defScope s_Ratio_init) := ⟨rfl, rfl, rfl, by decide +kernel, rfl, by decide +kernel, by decide +kernel⟩
def sp_Ratio_init (_ : PySem.W.Frag) (ca : Nat → Addr) : Sp := fun vs H Q E => ∃ (p dx : Addr) (a b : Int), vs = [.ref p, .int a, .int b] ∧ H p = some (.ins (ca 2) dx []) ∧ b.natAbs.log2 < 9000 ∧ (b = 0 → E (.ref (ca 1)) none H) ∧
  (b ≠ 0 → ∀ H' : Hp, Keep p H H' → H' p = some (.ins (ca 2) dx [("top", .int (nrm a b).1), ("bottom", .int (nrm a b).2)]) → Q .non H')
theorem ok_Ratio_init {f : Addr} {fd : FuncData} (F : FunD K "__init__" "Ratio.__init__" (defArgs s_Ratio_init) (defBody s_Ratio_init) (defScope s_Ratio_init) [.int 1] [] f fd) (T : Txt K mg ca)  : FnOk P w K mg base (L2.CX P w) 1 f fd ["self", "top", "bottom"] (sp_Ratio_init K ca) := by
  refine F.ok sc_Ratio_init (fun vs H Q E h => ?_) (fun cdv A outer s H vs Q E hr h => ?_)
  · obtain ⟨_, _, _, _, rfl, _⟩ := h
    rfl
  · obtain ⟨p, dx, a, b, rfl, hp, hs, h0, h1⟩ := h
    refine ⟨_, pss_cons (ps_if (pt_cmpR op_eq (pv 2) pe_int (nomark _)) (pss_one (ps_raise rfl (takes_of rfl rfl rfl rfl) (pmk_own0 PySem.F.excBase_ValueError T.ex_NoRatio T.g_NoRatio T.kp_NoRatio (raises_own T.sb_NoRatio T.ty_NoRatio) rfl))) pss_nil) (pss_cons (ps_set (i := 3) sc_Ratio_init.nd rfl (Or.inl rfl) (pe_callBfun cr_gcd rfl T.gcd (pa_cons (pv 1) (pa_cons (pv 2) pa_nil)))) (pss_cons (ps_if (pt_cmpR op_lt (pv 2) pe_int (nomark _)) (pss_one (ps_set (i := 3) sc_Ratio_init.nd rfl (Or.inl rfl) (pe_un un_neg (pv 3)))) pss_nil) (pss_cons (ps_fld (pv 0) (pe_op op_fdivA (pv 1) (pv 3)) rfl) (pss_one (ps_fld (pv 0) (pe_op op_fdivA (pv 2) (pv 3)) rfl))))), ?_⟩
    fail "rd"
    refine iteI (fun z => ?_) (fun z => ?_)
    · exact h0 z
    · have c1 := nrmC_ne (a := a) z
      have c2 := nrmC_log (a := a) z hs
      have fin : ∀ H' : Hp, H' = upd (upd H p (.ins (ca 2) dx (putF "top" (.int (nrm a b).1) []))) p (.ins (ca 2) dx (putF "bottom" (.int (nrm a b).2) (putF "top" (.int (nrm a b).1) []))) → Q .non H' := fun H' e => by
        subst e
        refine h1 z _ (keep_upd.trans keep_upd) ?_
        rw [upd_same, put_rat]
      unfold nrm nrmC at fin
      unfold nrmC at c1 c2
      fail "rd"
      refine iteD (fun y => ?_) (fun y => ?_)
      · rw [if_pos y] at fin c1 c2
        fail "rd"
        exact fin _ rfl
      · rw [if_neg y] at fin c1 c2
        fail "rd"
        exact fin _ rfl

abbrev s_l_handed : Stmt := top 29
theorem sc_l_handed : FnScope ["_law_bag_here", "_law_shares_here", "_law_handed_here", "_law_name", "_law_top_here", "_law_bottom"] ["_law_bag_here", "_law_shares_here"] (defScope s_l_handed) := ⟨rfl, rfl, rfl, by decide +kernel, rfl, by decide +kernel, by decide +kernel⟩
def sp_l_handed (_ : PySem.W.Frag) (ca : Nat → Addr) : Sp := fun vs H Q _ => ∃ (b ds : Addr) (N : List Str) (f : Fm), vs = [.ref b, .ref ds] ∧ ∃ L : Addr, Bag H L b ∧ TabAt H ds N f ∧ RedF f ∧ SzF 4000 f ∧ Uni N ∧
  ∀ (d : Addr) (kvs : List (Key × V)) (H' : Hp), H' d = some (.dK kvs) → Tab N (NumR ca f H') (ShZ f) kvs → Keep b H H' → Bag H' L b → H d = none → Q (.ref d) H'
theorem ok_l_handed {f : Addr} {fd : FuncData} (F : Fun K "_law_handed" "_law_handed" s_l_handed f fd) (T : Txt K mg ca) (O__law_draw : Own P w K mg base 1 "_law_draw" ["_law_bag_here", "_law_size"] (sp_l_draw K ca)) (O_Ratio_2 : OwnI P w K mg base 1 "Ratio" (ca 2) ["self", "top", "bottom"] [] (sp_Ratio_init K ca)) (O_Ratio_1 : OwnI P w K mg base 1 "Ratio" (ca 2) ["self", "top", "bottom"] [.int 1] (sp_Ratio_init K ca)) : FnOk P w K mg base (L2.CX P w) 3 f fd ["_law_bag_here", "_law_shares_here"] (sp_l_handed K ca) := by
  refine F.okX sc_l_handed (fun vs H Q E h => ?_) (fun cdv A outer s H vs Q E hr h => ?_)
  · obtain ⟨_, _, _, _, rfl, _⟩ := h
    rfl
  · obtain ⟨b, ds, N, f, rfl, L, hB, hT, rf, sf, hN, k⟩ := h
    refine ⟨_, pss_cons (ps_set (i := 2) sc_l_handed.nd rfl (Or.inl rfl) pe_dnewK) (pss_cons (ps_lk (ps_for (passes_of rfl) rfl (pi_keys (pv 1)) (pg_name (i := 3) sc_l_handed.nd rfl (Or.inl rfl)) (pss_cons (ps_asg (pe_dget (hu_of (hr.mono (Nat.zero_le _))) (pv 1) (pv 3) (fun _ _ => rfl)) (pg_tup rfl (pgs_cons (pg_name (i := 4) sc_l_handed.nd rfl (Or.inl rfl)) (pgs_cons (pg_name (i := 5) sc_l_handed.nd rfl (Or.inl rfl)) pgs_nil)))) (pss_cons (ps_dput (hu_of (hr.mono (Nat.zero_le _))) (pv 2) (pv 3) (pe_owni O_Ratio_2 (hr.mono (by decide)) rfl pas0 (pa_cons (pv 4) (pa_cons (pv 5) pa_nil))) rfl) (pss_one (ps_if (PW.pt (pw_and (pt_cmpR op_eq (pv 5) pe_int (nomark _)) (pw_and1 (pt_cmpR op_eq (pe_own O__law_draw (hr.mono (by decide)) rfl pas0 (pa_cons (pv 0) (pa_cons pe_int pa_nil))) pe_int (nomark _))))) (pss_one (ps_dput (hu_of (hr.mono (Nat.zero_le _))) (pv 2) (pv 3) (pv 4) rfl)) pss_nil)))))) (pss_one (ps_ret (pv 2)))), ?_⟩
    fail "rd"
    intro d n_d
    generalize g_H1 : upd _ d _ = H1
    obtain ⟨s_H1, e_d⟩ := gen_new n_d g_H1
    clear g_H1
    have B1 := hB.same s_H1
    have db := hB.ne n_d
    have dL := hB.neL n_d
    obtain ⟨kvs, hds, t⟩ := hT
    obtain ⟨sb, sL⟩ := hB.ned hds
    refine ⟨.inl ⟨ds, _, s_H1 _ _ hds, True.intro, fun od => ?_⟩⟩
    have nd0 : upd H ds (.frz od (.dK kvs)) d = none := by rw [upd_ne (ne_of_none hds n_d).symm]; exact n_d
    have t0 := t.mono (R' := TupF f (upd H ds (.frz od (.dK kvs)))) (fun _ _ => TupF.keep hds ndt keep_upd) fun _ z => z
    refine ⟨_, rfl, ds, od, rfl, .inl ⟨kvs, upd_same, for_names t.k (D := ⟨_, _, fun _ _ => True, fun _ _ => True⟩) (fun i σ' H' => ∃ (v1 v2 v3 : Option V) (new : List (Key × V)), σ' = [some (.ref b), some (.ref ds), some (.ref d), v1, v2, v3] ∧ Keep b (upd H ds (.frz od (.dK kvs))) H' ∧ Bag H' L b ∧
      H' d = some (.dK new) ∧ Part N (NumR ca f H') (ShZ f) kvs i new) ?_ ?_ ?_ ?_⟩⟩
    · exact ⟨none, none, none, [], rfl, .of (same_updL s_H1), B1.keep keep_upd sb sL, by rw [upd_ne (ne_of_none hds n_d).symm]; exact e_d, .start⟩
    · rintro i σ' H' _ ⟨_, _, _, _, _, kp, _⟩
      exact kp _ _ upd_same sb
    · rintro i z v σ' H' hi hz hv ⟨v1, v2, v3, new, rfl, kp, B, hd, hP⟩
      obtain ⟨tt, rfl, ht⟩ := t0.r z v hv
      have ht := kp _ _ ht (tup_ne (hB.keep (keep_upd (o := .frz od (.dK kvs))) sb sL) ht)
      have nz : (f z).2 ≠ 0 := by have := (rf z).pos; omega
      have hR := rf z
      fail "rd"
      refine ⟨ds, _, rfl, dget (.inr ⟨od, kp _ _ upd_same sb⟩) hv, ?_⟩
      fail "rd"
      intro r d_r n_r nd_r ne_r
      refine ⟨r, d_r, _, _, rfl, upd_same, (sf z).2.lg, fun z => absurd z nz, fun _ H2 k_r e_r => ⟨rfl, ?_⟩⟩
      have s_H2 := same_made n_r nd_r ne_r k_r
      have hr : RatAt ca H2 r (f z).1 (f z).2 := .mk hR e_r
      have hd2 := s_H2 _ _ hd
      fail "rd"
      refine ⟨d, _, rfl, DPut.k (k := Sum.inr z) hd2 (hP.k.line hN), ?_⟩
      generalize g_H3 : upd _ d _ = H3
      obtain ⟨k_H3, e_H3⟩ := gen_put g_H3
      clear g_H3
      have k3 : Keep b (upd H ds (.frz od (.dK kvs))) H3 := keep_put (kp.trans (.of s_H2)) k_H3 nd0
      have B3 := (B.same s_H2).keep k_H3 db dL
      have P3 := (hP.mono (R' := NumR ca f H3) (Z' := ShZ f) (fun y u n => NumV.keep (NumR.same s_H2 n) hd2 nd k_H3) fun _ n => n).put hi hz (.inr ⟨r, rfl, hr.keep hd2 nd k_H3⟩)
      fail "rd"
      have mi : (Sum.inr z : Key) ∈ (kvs.take (i + 1)).map (·.1) := (take_mem hi).mpr (.inr rfl)
      refine iteI (fun y1 => ?_) (fun y1 => ⟨_, _, _, _, rfl, k3, B3, e_H3, P3⟩)
      fail "rd"
      refine ⟨L, B3, by decide, by decide, fun c H4 c0 c1 k4 B4 => ?_⟩
      have hd4 := k4 _ _ e_H3 db
      have P4 := P3.mono (R' := NumR ca f H4) (Z' := ShZ f) (fun y u n => by obtain ⟨xb, hxb⟩ := B3.lst; exact NumV.keep n hxb (fun _ _ _ z => nomatch z) k4) fun _ n => n
      fail "rd"
      refine iteI (fun y2 => ?_) (fun y2 => ⟨_, _, _, _, rfl, k3.trans k4, B4, hd4, P4⟩)
      fail "rd"
      refine ⟨d, _, rfl, DPut.k (k := Sum.inr z) hd4 (P4.k.line hN), ?_⟩
      generalize g_H5 : upd _ d _ = H5
      obtain ⟨k_H5, e_H5⟩ := gen_put g_H5
      clear g_H5
      refine ⟨_, _, _, _, rfl, keep_put (k3.trans k4) k_H5 nd0, B4.keep k_H5 db dL, e_H5, ?_⟩
      exact (P4.mono (R' := NumR ca f H5) (Z' := ShZ f) (fun y u n => NumV.keep n hd4 nd k_H5) fun _ n => n).again mi hz (.inl ⟨rfl, y1⟩)
    · rintro σ' H' ⟨v1, v2, v3, new, rfl, kp, B, hd, hP⟩
      refine ⟨kp _ _ upd_same sb, ?_⟩
      fail "rd"
      exact k d new _ (by rw [upd_ne (ne_of_none hds n_d).symm]; exact hd) ((hP.done t.z).mono (fun y u n => NumV.keep n (kp _ _ upd_same sb) nf keep_upd) fun _ n => n) (keep_lock hds kp) (B.keep keep_upd sb sL) n_d

abbrev s_l_sum : Stmt := top 30
theorem sc_l_sum : FnScope ["_law_one", "_law_other", "_law_sign", "_law_shares_here", "_law_name", "_law_top_here", "_law_bottom", "_law_more", "_law_parts"] ["_law_one", "_law_other", "_law_sign"] (defScope s_l_sum) := ⟨rfl, rfl, rfl, by decide +kernel, rfl, by decide +kernel, by decide +kernel⟩
def sp_l_sum (_ : PySem.W.Frag) (ca : Nat → Addr) : Sp := fun vs H Q _ => ∃ (d1 d2 : Addr) (s : Int) (N : List Str) (f g : Fm), vs = [.ref d1, .ref d2, .int s] ∧ (s = 1 ∨ s = -1) ∧ TabAt H d1 N f ∧ TabAt H d2 N g ∧ RedF f ∧ RedF g ∧ SzF 1900 f ∧ SzF 1900 g ∧ Uni N ∧
  ∀ (d : Addr) (H' : Hp), H d = none → Same H H' → TabAt H' d N (sumF s f g) → Q (.ref d) H'
theorem ok_l_sum {f : Addr} {fd : FuncData} (F : Fun K "_law_sum" "_law_sum" s_l_sum f fd) (T : Txt K mg ca) (O__law_lowest : Own P w K mg base 2 "_law_lowest" ["_law_top_here", "_law_bottom"] (sp_l_lowest K ca)) : FnOk P w K mg base (L2.CX P w) 3 f fd ["_law_one", "_law_other", "_law_sign"] (sp_l_sum K ca) := by
  refine F.okX sc_l_sum (fun vs H Q E h => ?_) (fun cdv A outer s H vs Q E hr h => ?_)
  · obtain ⟨_, _, _, _, _, _, rfl, _⟩ := h
    rfl
  · obtain ⟨d1, d2, s, N, f, g, rfl, hs, ⟨kvs, hd1, t1⟩, ⟨kvs2, hd2, t2⟩, rf, rg, sf, sg, hN, k⟩ := h
    refine ⟨_, pss_cons (ps_set (i := 3) sc_l_sum.nd rfl (Or.inl rfl) pe_dnewK) (pss_cons (ps_for (passes_of rfl) rfl (pi_list (pe_op op_cat (pe_callTy (call_listD rfl) (by rfl) T.b_list (by decide +kernel) (pa_cons (pv 0) pa_nil)) (pe_lk (pe_lc (own := [("_law_name", 4)]) (g := gName 4) rfl sc_l_sum.nd (pi_keys (pv 1)) (blkOk_by (N := ["_law_one", "_law_other", "_law_sign", "_law_shares_here", "_law_name", "_law_top_here", "_law_bottom", "_law_more", "_law_parts"]) (sc := defScope s_l_sum) (by decide +kernel)) (fun _ _ _ _ _ => pg_name (i := 4) sc_l_sum.nd rfl (Or.inl rfl)) (fun _ _ _ _ _ => pts_one (pt_cmp (pc_dnotin (hu_of (hr.mono (Nat.zero_le _))) (pv 4) (pv 0)))) (fun _ _ _ _ _ => pv 4))))) (pg_name (i := 4) sc_l_sum.nd rfl (Or.inl rfl)) (pss_cons (ps_asg (pe_dget2 (hu_of (hr.mono (Nat.zero_le _))) (pv 0) (pv 4) (pe_tup (pa_cons pe_int (pa_cons pe_int pa_nil))) ⟨rfl, rfl, rfl, rfl⟩) (pg_tup rfl (pgs_cons (pg_name (i := 5) sc_l_sum.nd rfl (Or.inl rfl)) (pgs_cons (pg_name (i := 6) sc_l_sum.nd rfl (Or.inl rfl)) pgs_nil)))) (pss_cons (ps_asg (pe_dget2 (hu_of (hr.mono (Nat.zero_le _))) (pv 1) (pv 4) (pe_tup (pa_cons pe_int (pa_cons pe_int pa_nil))) ⟨rfl, rfl, rfl, rfl⟩) (pg_tup rfl (pgs_cons (pg_name (i := 7) sc_l_sum.nd rfl (Or.inl rfl)) (pgs_cons (pg_name (i := 8) sc_l_sum.nd rfl (Or.inl rfl)) pgs_nil)))) (pss_one (ps_dput (hu_of (hr.mono (Nat.zero_le _))) (pv 3) (pv 4) (pe_own O__law_lowest (hr.mono (by decide)) rfl pas0 (pa_cons (pe_op op_add (pe_op op_mulI (pv 5) (pv 8)) (pe_op op_mulI (pe_op op_mulI (pv 2) (pv 7)) (pv 6))) (pa_cons (pe_op op_mulI (pv 6) (pv 8)) pa_nil))) rfl))))) (pss_one (ps_ret (pv 3)))), ?_⟩
    obtain ⟨ks, e, nk, hm, hlen⟩ := t1.k.names
    have h60 : ks.length ≤ 60 := by have := t1.k.len; have := hN.len; omega
    fail "rd"
    intro S n_S
    generalize g_H1 : upd _ S _ = H1
    obtain ⟨s_H1, e_S⟩ := gen_new n_S g_H1
    clear g_H1
    fail "rd"
    refine ⟨d1, kvs, rfl, .inl (s_H1 _ _ hd1), ?_⟩
    intro l1 n_l1
    generalize g_H2 : upd _ l1 _ = H2
    obtain ⟨s_H2, e_l1⟩ := gen_new n_l1 g_H2
    clear g_H2
    rw [keys_str e] at e_l1
    have s2 := s_H1.trans s_H2
    have hd2' := s2 _ _ hd2
    refine ⟨.inl ⟨d2, _, hd2', True.intro, fun od => ?_⟩⟩
    refine ⟨_, rfl, d2, od, rfl, .inl ⟨kvs2, upd_same, fun D nD => lc_names t2.k (fun i H' => ∃ acc : List Str, H' D = some (.lst (acc.map V.str)) ∧ Same (upd H2 d2 (.frz od (.dK kvs2))) H' ∧ (∀ z ∈ acc, z ∈ N) ∧ acc.length ≤ i ∧ ∀ z, (Sum.inr z : Key) ∈ (kvs2.take i).map (·.1) → (∃ v, valV kvs (.inr z) = some v) ∨ z ∈ acc)
      ⟨[], upd_same, same_upd nD, fun _ m => (nomatch m), Nat.le_refl _, fun z m => by simp at m⟩ (fun i H' _ ⟨_, _, s, _⟩ => s _ _ upd_same) ?_ ?_⟩⟩
    · rintro i z v H' hi hz hv ⟨acc, hD, sH, ha, hl, hc⟩
      have hi60 : i < 100 := by
        have := (List.getElem?_eq_some_iff.mp hi).1
        have := t2.k.len
        have := hN.len
        omega
      fail "rd"
      refine ⟨d1, _, rfl, dget_at (rd_same sH (rd_lock (s2 _ _ hd1) hd2')), ?_⟩
      cases q : valV kvs (.inr z) with
      | some u =>
        fail "rd"
        refine iteF ?_
        refine ⟨acc, hD, sH, ha, by omega, fun y m => ?_⟩
        rcases (take_mem hi).mp m with m | m
        · exact hc y m
        · cases m
          exact .inl ⟨u, q⟩
      | none =>
        fail "rd"
        refine ⟨_, hD, by rw [List.length_map]; exact size_line (by omega), acc ++ [z], by rw [strs_snoc]; exact upd_same, same_put nD sH, fun y m => ?_, by rw [List.length_append]; exact Nat.add_le_add_right hl 1, fun y m => ?_⟩
        · rcases List.mem_append.mp m with m | m
          · exact ha y m
          · cases List.mem_singleton.mp m
            exact hz
        · rcases (take_mem hi).mp m with m | m
          · exact (hc y m).imp id fun m => List.mem_append_left _ m
          · cases m
            exact .inr (List.mem_append_right _ (List.mem_singleton.mpr rfl))
    · rintro H' ⟨acc, hD, sH, ha, hl, hc⟩
      refine ⟨sH _ _ upd_same, ?_⟩
      have l60 : acc.length ≤ 60 := by have := t2.k.len; have := hN.len; omega
      have sA := s2.trans (same_lock hd2' sH)
      have nDd : D ≠ d2 := fun e => by rw [e, upd_same] at nD; cases nD
      have hD2 : upd H' d2 (.dK kvs2) D = some (.lst (acc.map V.str)) := by rw [upd_ne nDd]; exact hD
      have hl1 := same_lock hd2' sH _ _ e_l1
      have hS := same_lock hd2' sH _ _ (s_H2 _ _ e_S)
      rw [List.take_length] at hc
      clear hD nD sH
      generalize upd H' d2 (.dK kvs2) = H3 at *
      refine ⟨_, _, _, _, rfl, rfl, hl1, hD2, by rw [List.length_map, List.length_map]; exact size_le (by omega), ?_⟩
      intro l2 n_l2
      generalize g_H4 : upd _ l2 _ = H4
      obtain ⟨s_H4, e_l2⟩ := gen_new n_l2 g_H4
      clear g_H4
      rw [← List.map_append] at e_l2
      obtain ⟨L, hL⟩ : ∃ L, ks ++ acc = L := ⟨_, rfl⟩
      rw [hL] at e_l2
      have hS := s_H4 _ _ hS
      have sB := sA.trans s_H4
      have LN : ∀ z ∈ L, z ∈ N := fun z m => by
        rw [← hL] at m
        rcases List.mem_append.mp m with m | m
        · obtain ⟨v, hv⟩ := (hm z).mp m
          obtain ⟨y, hy, e⟩ := t1.k.mem _ (valV_mem hv)
          cases e
          exact hy
        · exact ha z m
      have LZ : ∀ z, z ∉ L → f z = (0, 1) ∧ g z = (0, 1) := fun z n => by
        rw [← hL] at n
        have n1 : valV kvs (.inr z) = none := by
          cases q : valV kvs (.inr z) with
          | none => rfl
          | some v => exact absurd (List.mem_append_left _ ((hm z).mpr ⟨v, q⟩)) n
        refine ⟨t1.z z n1, ?_⟩
        cases q : valV kvs2 (.inr z) with
        | none => exact t2.z z q
        | some v =>
          rcases hc z (List.mem_map.mpr ⟨_, valV_mem q, rfl⟩) with ⟨u, hu⟩ | m
          · rw [n1] at hu
            cases hu
          · exact absurd (List.mem_append_right _ m) n
      have l120 : L.length ≤ 120 := by rw [← hL, List.length_append]; omega
      fail "rd"
      refine for_list (D := ⟨_, _, fun _ _ => True, fun _ _ => True⟩) (K := K) (a := l2) (xs := L.map V.str) (fun i σ' H' => ∃ (v1 v2 v3 v4 v5 : Option V), σ' = [some (.ref d1), some (.ref d2), some (.int s), some (.ref S), v1, v2, v3, v4, v5] ∧ Same H H' ∧ H' l2 = some (.lst (L.map V.str)) ∧ TabAt H' S N (doneF (L.take i) (sumF s f g)))
        ⟨_, _, _, _, _, rfl, sB, e_l2, [], hS, .nil fun z => by show doneF _ _ z = _; unfold doneF; simp⟩ (fun i σ' H' _ ⟨_, _, _, _, _, _, _, h, _⟩ => SqL.of h) ?_ ?_
      · rintro i x σ' H5 hx ⟨v1, v2, v3, v4, v5, rfl, s5, hl5, kv, hS5, hT⟩
        obtain ⟨y, hy, rfl⟩ : ∃ y, L[i]? = some y ∧ V.str y = x := by
          rw [List.getElem?_map] at hx
          exact Option.map_eq_some_iff.mp hx
        have hyN := LN y (List.mem_of_getElem? hy)
        fail "rd"
        refine ⟨.inl ⟨kvs, .inl (s5 _ _ hd1)⟩, ?_⟩
        fail "rd"
        intro p1 n_p1
        generalize g_H6 : upd _ p1 _ = H6
        obtain ⟨s_H6, e_p1⟩ := gen_new n_p1 g_H6
        clear g_H6
        have s6 := s5.trans s_H6
        refine ⟨_, dget_at (.inl (s6 _ _ hd1)), ?_⟩
        obtain ⟨u1, eu1, hu1⟩ := get_tup (z := y) (t1.mono (R' := TupF f H6) (fun _ _ => TupF.same s6) fun _ z => z) e_p1
        rw [eu1]
        fail "rd"
        refine ⟨.inl ⟨kvs2, .inl (s6 _ _ hd2)⟩, ?_⟩
        fail "rd"
        intro p2 n_p2
        generalize g_H7 : upd _ p2 _ = H7
        obtain ⟨s_H7, e_p2⟩ := gen_new n_p2 g_H7
        clear g_H7
        have s7 := s6.trans s_H7
        refine ⟨_, dget_at (.inl (s7 _ _ hd2)), ?_⟩
        obtain ⟨u2, eu2, hu2⟩ := get_tup (z := y) (t2.mono (R' := TupF g H7) (fun _ _ => TupF.same s7) fun _ z => z) e_p2
        rw [eu2]
        have zs : Sz 1 s := by
          rcases hs with rfl | rfl
          · exact Sz.one
          · exact Sz.one.neg
        have m1 : IntMulOk (f y).1 (g y).2 := (sf y).1.mok (sg y).2
        have m2 : IntMulOk s (g y).1 := zs.mok (sg y).1
        have m3 : IntMulOk (s * (g y).1) (f y).2 := (zs.mul (sg y).1).mok (sf y).2
        have m4 : IntMulOk (f y).2 (g y).2 := (sf y).2.mok (sg y).2
        have nz : (f y).2 * (g y).2 ≠ 0 := Int.mul_ne_zero (by have := (rf y).pos; omega) (by have := (rg y).pos; omega)
        fail "rd"
        refine ⟨nz, ((sf y).2.mul (sg y).2).lg, fun p3 H8 s8 n8 e8 => ?_⟩
        have s78 := s_H6.trans (s_H7.trans s8)
        have hS8 := s78 _ _ hS5
        fail "rd"
        refine ⟨S, _, rfl, DPut.k (k := Sum.inr y) hS8 (hT.k.line hN), ?_⟩
        have hT8 := (hT.mono (R' := TupF _ H8) (fun _ _ => TupF.same s78) fun _ z => z).setT (x := sumF s f g y) hS8 hyN e8
        refine ⟨_, _, _, _, _, rfl, same_put n_S (s5.trans s78), ?_, ?_⟩
        · rw [upd_ne (ne_of (s78 _ _ hl5) hS8 fun z => nomatch z)]
          exact s78 _ _ hl5
        · rw [List.take_add_one, hy]
          show TabAt _ S N (doneF (L.take i ++ [y]) (sumF s f g))
          rw [doneF_snoc]
          exact hT8
      · rintro σ' H5 ⟨v1, v2, v3, v4, v5, rfl, s5, hl5, hT⟩
        rw [List.length_map, List.take_length] at hT
        have e : doneF L (sumF s f g) = sumF s f g := by
          funext z
          unfold doneF
          by_cases c : z ∈ L
          · rw [if_pos c]
          · rw [if_neg c, sumF_off (LZ z c).1 (LZ z c).2]
        rw [e] at hT
        fail "rd"
        exact k S H5 n_S s5 hT

abbrev s_is_name : Stmt := top 13
theorem sc_is_name : FnScope ["name"] ["name"] (defScope s_is_name) := ⟨rfl, rfl, rfl, by decide +kernel, rfl, by decide +kernel, by decide +kernel⟩
def sp_is_name (_ : PySem.W.Frag) (_ : Nat → Addr) : Sp := fun vs H Q _ => ∃ z : Str, vs = [.str z] ∧ z.length ≤ 1000 ∧ Q (.bl (nmB z)) H
theorem ok_is_name {f : Addr} {fd : FuncData} (F : Fun K "is_name" "is_name" s_is_name f fd) (T : Txt K mg ca)  : FnOk P w K mg base (L2.CX P w) 1 f fd ["name"] (sp_is_name K ca) := by
  refine F.okX sc_is_name (fun vs H Q E h => ?_) (fun cdv A outer s H vs Q E hr h => ?_)
  · obtain ⟨_, rfl, _⟩ := h
    rfl
  · obtain ⟨z, rfl, hz, k⟩ := h
    refine ⟨_, pss_cons (ps_if (PW.pt (pw_or (pt_not (pt_val (pe_callB call_isi (by rfl) T.b_isinstance (by decide +kernel) (pa_cons (pv 0) (pa_cons (pe_bltn (v := .ty "str") (by rfl) T.b_str (by decide +kernel) rfl) pa_nil))))) (pw_or1 (pt_cmpR op_gt (pe_callB call_len_str (by rfl) T.b_len (by decide +kernel) (pa_cons (pv 0) pa_nil)) (pe_const T.c__LONGEST rfl) (nomark _))))) (pss_one (ps_ret pe_bl)) pss_nil) (pss_one (ps_ret (pe_and (pe_m0 PySem.F.slot_str_isascii PySem.F.type_str_isascii mt_isascii (pv 0)) (pe_and (pe_m0 PySem.F.slot_str_isalpha PySem.F.type_str_isalpha mt_isalpha (pv 0)) (pe_one (pe_m0 PySem.F.slot_str_islower PySem.F.type_str_islower mt_islower (pv 0))))))), ?_⟩
    fail "rd"
    refine ⟨_, _, _, _, true, rfl, .ty "str", .base (.str _), kit_ty (by decide +kernel), ?_⟩
    fail "rd"
    refine ⟨Nat.le_trans hz (line_le (by decide)), ?_⟩
    fail "rd"
    unfold nmB at k
    refine iteD (fun y => ?_) (fun y => ?_)
    · fail "rd"
      rw [decide_eq_false (by omega)] at k
      exact k
    · rw [decide_eq_true (by omega)] at k
      fail "rd"
      cases h1 : Txt.isascii z
      · rw [h1] at k
        fail "rd"
        exact k
      · rw [h1] at k
        fail "rd"
        cases h2 : Txt.isalpha z
        · rw [h2] at k
          fail "rd"
          exact k
        · rw [h2] at k
          fail "rd"
          exact k

abbrev s_check_names : Stmt := top 14
theorem sc_check_names : FnScope ["names", "wrong", "name"] ["names"] (defScope s_check_names) := ⟨rfl, rfl, rfl, by decide +kernel, rfl, by decide +kernel, by decide +kernel⟩
def sp_check_names (_ : PySem.W.Frag) (_ : Nat → Addr) : Sp := fun vs H Q _ => ∃ (d : Addr) (N : List Str) (kvs : List (Key × V)), vs = [.ref d] ∧ H d = some (.dK kvs) ∧ KOk N kvs ∧ Uni N ∧ ∀ H' : Hp, Same H H' → Q .non H'
theorem ok_check_names {f : Addr} {fd : FuncData} (F : Fun K "check_names" "check_names" s_check_names f fd) (T : Txt K mg ca) (O_is_name : Own P w K mg base 1 "is_name" ["name"] (sp_is_name K ca)) : FnOk P w K mg base (L2.CX P w) 2 f fd ["names"] (sp_check_names K ca) := by
  refine F.okX sc_check_names (fun vs H Q E h => ?_) (fun cdv A outer s H vs Q E hr h => ?_)
  · obtain ⟨_, _, _, rfl, _⟩ := h
    rfl
  · obtain ⟨d, N, kvs, rfl, hd, hk, hN, k⟩ := h
    refine ⟨_, pss_cons (ps_lk (ps_setLc (i := 1) (own := [("name", 2)]) (g := gName 2) rfl sc_check_names.nd rfl rfl (sw_true rfl rfl rfl (by decide +kernel)) (pi_keys (pv 0)) (blkOk_by (N := ["names", "wrong", "name"]) (sc := defScope s_check_names) (by decide +kernel)) (fun _ _ _ _ _ => pg_name (i := 2) sc_check_names.nd rfl (Or.inl rfl)) (fun _ _ _ _ _ => pts_one (pt_not (pt_val (pe_own O_is_name (hr.mono (by decide)) rfl pas0 (pa_cons (pv 2) pa_nil))))) (fun _ _ _ _ _ => pv 2))) (pss_one (ps_if (pt_truth (pv 1) (fun _ => rfl)) (pss_one ps_dead) pss_nil)), ?_⟩
    refine ⟨.inl ⟨d, _, hd, True.intro, fun od => ?_⟩⟩
    refine ⟨_, rfl, d, od, rfl, .inl ⟨kvs, upd_same, fun D hD => lc_names hk (fun _ H' => Same (upd H d (.frz od (.dK kvs))) H' ∧ H' D = some (.lst [])) ⟨same_upd hD, upd_same⟩ (fun i H' _ s => s.1 _ _ upd_same) ?_ ?_⟩⟩
    · intro i z v H' hi hz hv s
      fail "rd"
      have nm := hN.ok z hz
      refine ⟨by have := nm.le; omega, ?_⟩
      rw [nm.nm]
      fail "rd"
      exact s
    · intro H' s
      refine ⟨s.1 _ _ upd_same, ?_⟩
      fail "rd"
      have nd : D ≠ d := fun e => by rw [e, upd_same] at hD; cases hD
      refine ⟨false, .inl ⟨_, SqL.of (by rw [upd_ne nd]; exact s.2), rfl⟩, ?_⟩
      exact k _ (same_lock hd s.1)

abbrev s_as_ratio : Stmt := top 9
theorem sc_as_ratio : FnScope ["number"] ["number"] (defScope s_as_ratio) := ⟨rfl, rfl, rfl, by decide +kernel, rfl, by decide +kernel, by decide +kernel⟩
def sp_as_ratio (_ : PySem.W.Frag) (ca : Nat → Addr) : Sp := fun vs H Q _ => ∃ (x : V) (t b : Int), vs = [x] ∧ NumV ca H x t b ∧ ∀ (p : Addr) (H' : Hp), Same H H' → RatAt ca H' p t b → Q (.ref p) H'
theorem ok_as_ratio {f : Addr} {fd : FuncData} (F : Fun K "as_ratio" "as_ratio" s_as_ratio f fd) (T : Txt K mg ca) (O_Ratio_2 : OwnI P w K mg base 1 "Ratio" (ca 2) ["self", "top", "bottom"] [] (sp_Ratio_init K ca)) (O_Ratio_1 : OwnI P w K mg base 1 "Ratio" (ca 2) ["self", "top", "bottom"] [.int 1] (sp_Ratio_init K ca)) : FnOk P w K mg base (L2.CX P w) 3 f fd ["number"] (sp_as_ratio K ca) := by
  refine F.okX sc_as_ratio (fun vs H Q E h => ?_) (fun cdv A outer s H vs Q E hr h => ?_)
  · obtain ⟨_, _, _, rfl, _⟩ := h
    rfl
  · obtain ⟨x, t, b, rfl, hn, k⟩ := h
    refine ⟨_, pss_cons (ps_if (pt_val (pe_callB call_isi (by rfl) T.b_isinstance (by decide +kernel) (pa_cons (pv 0) (pa_cons (pe_glob (v := .ref (ca 2)) (by rfl) T.g_Ratio rfl) pa_nil)))) (pss_one (ps_ret (pv 0))) pss_nil) (pss_one (ps_ret (pe_owni O_Ratio_1 (hr.mono (by decide)) rfl pas0 (pa_cons (pv 0) pa_nil)))), ?_⟩
    rcases hn with ⟨rfl, rfl⟩ | ⟨p, rfl, hR⟩
    · fail "rd"
      refine ⟨_, _, _, _, _, rfl, .own _, .base (.int _), T.ki_int_Ratio, ?_⟩
      fail "rd"
      intro p dx np nd ne
      refine ⟨p, dx, t, 1, rfl, upd_same, by decide, fun z => absurd z (by decide), fun _ H2 k2 e2 => ⟨rfl, ?_⟩⟩
      refine k p H2 (same_made np nd ne k2) ⟨red_one, dx, ?_⟩
      rw [e2, nrm_one]
    · obtain ⟨hr1, dx, hp⟩ := id hR
      fail "rd"
      refine ⟨_, _, _, _, _, rfl, .own _, .base (.ins hp T.cl_Ratio T.ic_Ratio T.in_Ratio T.it_Ratio T.im_Ratio), kit_self, ?_⟩
      fail "rd"
      exact k p H (Same.refl H) hR

abbrev s_Ratio_same : Stmt := inClass (top 10) 12
theorem sc_Ratio_same : FnScope ["self", "other", "number"] ["self", "other"] (defScope s_Ratio_same) := ⟨rfl, rfl, rfl, by decide +kernel, rfl, by decide +kernel, by decide +kernel⟩
def sp_Ratio_same (_ : PySem.W.Frag) (ca : Nat → Addr) : Sp := fun vs H Q _ => ∃ (p : Addr) (x : V) (t b t' b' : Int), vs = [.ref p, x] ∧ RatAt ca H p t b ∧ NumV ca H x t' b' ∧ ∀ H' : Hp, Same H H' → Q (.bl (decide (t = t' ∧ b = b'))) H'
theorem ok_Ratio_same {f : Addr} {fd : FuncData} (F : Fun K "same" "Ratio.same" s_Ratio_same f fd) (T : Txt K mg ca) (O_as_ratio : Own P w K mg base 3 "as_ratio" ["number"] (sp_as_ratio K ca)) : FnOk P w K mg base (L2.CX P w) 4 f fd ["self", "other"] (sp_Ratio_same K ca) := by
  refine F.okX sc_Ratio_same (fun vs H Q E h => ?_) (fun cdv A outer s H vs Q E hr h => ?_)
  · obtain ⟨_, _, _, _, _, _, rfl, _⟩ := h
    rfl
  · obtain ⟨p, x, t, b, t', b', rfl, hR, hn, k⟩ := h
    refine ⟨_, pss_cons (ps_set (i := 2) sc_Ratio_same.nd rfl (Or.inl rfl) (pe_own O_as_ratio (hr.mono (by decide)) rfl pas0 (pa_cons (pv 1) pa_nil))) (pss_one (ps_ret (pe_and (pe_cmpR op_eq (pe_fld (pv 0) rfl) (pe_fld (pv 2) rfl) (nomark _)) (pe_one (pe_cmpR op_eq (pe_fld (pv 0) rfl) (pe_fld (pv 2) rfl) (nomark _)))))), ?_⟩
    fail "rd"
    refine ⟨x, t', b', rfl, hn, fun q H1 s1 hq => ?_⟩
    obtain ⟨_, dx, hp⟩ := hR.same s1
    obtain ⟨_, dy, hq⟩ := hq
    fail "rd"
    refine iteI (fun z1 => ?_) (fun z1 => ?_)
    · fail "rd"
      have k1 := k H1 s1
      by_cases z2 : b = b'
      · rw [decide_eq_true ⟨z1, z2⟩] at k1
        rw [decide_eq_true (congrArg V.int z2)]
        exact k1
      · rw [decide_eq_false fun z => z2 z.2] at k1
        rw [decide_eq_false fun z => z2 (V.int.inj z)]
        exact k1
    · have k1 := k H1 s1
      rw [decide_eq_false fun z => z1 z.1] at k1
      exact k1

abbrev s_Form_init : Stmt := inClass (top 16) 0
theorem sc_Form_init : FnScope ["self", "shares", "ratios", "name"] ["self", "shares"] (defScope s_Form_init) := ⟨rfl, rfl, rfl, by decide +kernel, rfl, by decide +kernel, by decide +kernel⟩
def sp_Form_init (_ : PySem.W.Frag) (ca : Nat → Addr) : Sp := fun vs H Q _ => ∃ (p dx : Addr) (x : V) (N : List Str) (f : Fm), vs = [.ref p, x] ∧ H p = some (.ins (ca 3) dx []) ∧ Uni N ∧
  ((x = .non ∧ ∀ z, f z = (0, 1)) ∨ ∃ d kvs, x = .ref d ∧ H d = some (.dK kvs) ∧ Tab N (NumR ca f H) (ShZ f) kvs) ∧
  ∀ (H' : Hp) (d' : Addr), H d' = none → Keep p H H' → H' p = some (.ins (ca 3) dx [("_shares", .ref d')]) → FormSh ca H' d' N f → Q .non H'
theorem form_in {K : PySem.W.Frag} {ca : Nat → Addr} {H : Hp} {x : V} {N : List Str} {f : Fm} {R : VK} {E : XK} {p dx : Addr} (n : H p = none) (nd : H dx = none) (ne : dx ≠ p) (hN : Uni N)
    (hx : (x = .non ∧ ∀ z, f z = (0, 1)) ∨ ∃ d kvs, x = .ref d ∧ H d = some (.dK kvs) ∧ Tab N (NumR ca f H) (ShZ f) kvs)
    (k : ∀ (d : Addr) (H' : Hp), H d = none → Same H H' → H' p = some (.ins (ca 3) dx [("_shares", .ref d)]) → FormSh ca H' d N f → R .non H') :
    sp_Form_init K ca [.ref p, x] (upd (upd H dx (.own p)) p (.ins (ca 3) dx [])) R E := by
  have n2 : upd H dx (.own p) p = none := by rw [upd_ne ne.symm]; exact n
  have s : Same H (upd (upd H dx (.own p)) p (.ins (ca 3) dx [])) := (same_upd nd).trans (same_upd n2)
  refine ⟨p, dx, x, N, f, rfl, upd_same, hN, ?_, fun H' d' nd' k' e' F => k d' H' (s.free nd') (same_made n nd ne k') e' F⟩
  rcases hx with h | ⟨d, kvs, e, hd, t⟩
  · exact .inl h
  · exact .inr ⟨d, kvs, e, s _ _ hd, t.mono (fun _ _ => NumR.same s) fun _ z => z⟩
theorem form_made2 {K : PySem.W.Frag} {ca : Nat → Addr} {H : Hp} {x : V} {N : List Str} {f : Fm} {Q : VK} {E : XK} (hN : Uni N)
    (hx : (x = .non ∧ ∀ z, f z = (0, 1)) ∨ ∃ d kvs, x = .ref d ∧ H d = some (.dK kvs) ∧ Tab N (NumR ca f H) (ShZ f) kvs)
    (k : ∀ (r dx d : Addr) (H' : Hp), H r = none → H d = none → Same H H' → H' r = some (.ins (ca 3) dx [("_shares", .ref d)]) → FormSh ca H' d N f → Q (.ref r) H') :
    ∀ p dx, H p = none → H dx = none → dx ≠ p → sp_Form_init K ca [.ref p, x] (upd (upd H dx (.own p)) p (.ins (ca 3) dx [])) (fun v H2 => v = .non ∧ Q (.ref p) H2) E :=
  fun p dx n nd ne => form_in n nd ne hN hx fun d H' nd' s e F => ⟨rfl, k p dx d H' n nd' s e F⟩
theorem form_made {K : PySem.W.Frag} {ca : Nat → Addr} {H : Hp} {x : V} {N : List Str} {f : Fm} {Q : VK} {E : XK} (hN : Uni N)
    (hx : (x = .non ∧ ∀ z, f z = (0, 1)) ∨ ∃ d kvs, x = .ref d ∧ H d = some (.dK kvs) ∧ Tab N (NumR ca f H) (ShZ f) kvs) (k : ∀ (r : Addr) (H' : Hp), H r = none → Same H H' → FormAt ca H' r N f → Q (.ref r) H') :
    ∀ p dx, H p = none → H dx = none → dx ≠ p → sp_Form_init K ca [.ref p, x] (upd (upd H dx (.own p)) p (.ins (ca 3) dx [])) (fun v H2 => v = .non ∧ Q (.ref p) H2) E :=
  form_made2 hN hx fun r dx d H' nr _ s e F => k r H' nr s ⟨dx, d, e, F⟩
theorem ok_Form_init {f : Addr} {fd : FuncData} (F : FunD K "__init__" "Form.__init__" (defArgs s_Form_init) (defBody s_Form_init) (defScope s_Form_init) [.non] [] f fd) (T : Txt K mg ca) (O_check_names : Own P w K mg base 2 "check_names" ["names"] (sp_check_names K ca)) (O_as_ratio : Own P w K mg base 3 "as_ratio" ["number"] (sp_as_ratio K ca)) (O_Ratio_same : OwnM P w K mg base 4 (ca 2) "same" ["self", "other"] (sp_Ratio_same K ca)) : FnOk P w K mg base (L2.CX P w) 5 f fd ["self", "shares"] (sp_Form_init K ca) := by
  refine F.ok sc_Form_init (fun vs H Q E h => ?_) (fun cdv A outer s H vs Q E hr h => ?_)
  · obtain ⟨_, _, _, _, _, rfl, _⟩ := h
    rfl
  · obtain ⟨p, dx, x, N, f, rfl, hp, hN, hx, k⟩ := h
    refine ⟨_, Evl.pss_cut (ps_if (pt_cmpR op_isN (pv 1) pe_non (nomark _)) (pss_one (ps_set (i := 1) sc_Form_init.nd rfl (Or.inr rfl) pe_dnewK)) pss_nil) (pss_cons (ps_expr (pe_own O_check_names (hr.mono (by decide)) rfl pas0 (pa_cons (pv 1) pa_nil))) (pss_cons (ps_set (i := 2) sc_Form_init.nd rfl (Or.inr rfl) (pe_lk (pe_dc (own := [("name", 3)]) (g := gName 3) (tt := tYes) rfl sc_Form_init.nd (pi_keys (pv 1)) (blkOk_by (N := ["self", "shares", "ratios", "name"]) (sc := defScope s_Form_init) (by decide +kernel)) (fun _ _ _ _ _ => pg_name (i := 3) sc_Form_init.nd rfl (Or.inl rfl)) (fun _ _ _ _ _ => pts_nil) (fun _ _ _ _ _ => pv 3) (fun _ _ _ _ _ => pe_own O_as_ratio (hr.mono (by decide)) rfl pas0 (pa_cons (pe_dget (hu_of (hr.mono (Nat.zero_le _))) (pv 1) (pv 3) (fun _ _ => rfl)) pa_nil))))) (pss_one (ps_fld (pv 0) (pe_lk (pe_dc (own := [("name", 3)]) (g := gName 3) rfl sc_Form_init.nd (pi_keys (pv 2)) (blkOk_by (N := ["self", "shares", "ratios", "name"]) (sc := defScope s_Form_init) (by decide +kernel)) (fun _ _ _ _ _ => pg_name (i := 3) sc_Form_init.nd rfl (Or.inl rfl)) (fun _ _ _ _ _ => pts_one (pt_not (pt_val (pe_ownm O_Ratio_same (pe_dget (hu_of (hr.mono (Nat.zero_le _))) (pv 2) (pv 3) (fun _ _ => rfl)) (hr.mono (by decide)) pas0 (pa_cons pe_int pa_nil))))) (fun _ _ _ _ _ => pv 3) (fun _ _ _ _ _ => pe_dget (hu_of (hr.mono (Nat.zero_le _))) (pv 2) (pv 3) (fun _ _ => rfl)))) rfl)))), ?_⟩
    refine ⟨fun σ' H' => ∃ d kvs, σ' = [some (.ref p), some (.ref d), none, none] ∧ Same H H' ∧ H' d = some (.dK kvs) ∧ Tab N (NumR ca f H') (ShZ f) kvs, ?_, ?_⟩
    · rcases hx with ⟨rfl, hf⟩ | ⟨d, kvs, rfl, hd, ht⟩
      · fail "rd"
        refine iteDT rfl ?_
        fail "rd"
        intro d n_d
        generalize g_H1 : upd _ d _ = H1
        obtain ⟨s_H1, e_d⟩ := gen_new n_d g_H1
        clear g_H1
        fail "rd"
        exact ⟨d, [], rfl, s_H1, e_d, .nil, fun z v e => (by rw [valV_nil] at e; cases e), fun z _ => hf z⟩
      · fail "rd"
        refine iteDF (fun z => nomatch z) ?_
        exact ⟨d, kvs, rfl, Same.refl _, hd, ht⟩
    rintro σ' H1 ⟨d, kvs, rfl, s1, hd, ht⟩
    fail "rd"
    refine ⟨d, N, kvs, rfl, hd, ht.k, hN, fun H2 s2 => ?_⟩
    have hd := s2 _ _ hd
    have ht : Tab N (NumR ca f H2) (ShZ f) kvs := ht.mono (fun _ _ => NumR.same s2) fun _ z => z
    refine ⟨.inl ⟨d, _, hd, True.intro, fun od => ?_⟩⟩
    refine ⟨_, rfl, d, od, rfl, .inl ⟨kvs, upd_same, fun D hD => dc_names ht.k (fun i H' => Same (upd H2 d (.frz od (.dK kvs))) H' ∧ ∃ new, H' D = some (.dK new) ∧ Part N (fun z v => ∃ q, v = .ref q ∧ RatAt ca H' q (f z).1 (f z).2) (ShZ f) kvs i new)
      ⟨same_upd hD, [], upd_same, .start⟩ (fun i H' _ s => s.1 _ _ upd_same) ?_ ?_⟩⟩
    · rintro i z v H' hi hz hv ⟨sH, new, hD', hP⟩
      fail "rd"
      refine ⟨d, v, rfl, dget (.inr ⟨od, sH _ _ upd_same⟩) hv, ?_⟩
      have hn : NumV ca H' v (f z).1 (f z).2 := ((ht.r z v hv).keep hd nd keep_upd).same sH
      refine ⟨v, _, _, rfl, hn, fun q H3 s3 hq => ?_⟩
      have hD3 := s3 _ _ hD'
      refine ⟨new, .inr z, rfl, hD3, hP.k.line hN, ?_⟩
      refine ⟨same_put hD (sH.trans s3), _, upd_same, ?_⟩
      exact (hP.mono (fun y u ⟨q, e, r⟩ => ⟨q, e, (r.same s3).keep hD3 nd keep_upd⟩) fun _ n => n).put hi hz ⟨q, rfl, hq.keep hD3 nd keep_upd⟩
    · rintro H' ⟨sH, new, hD', hP⟩
      refine ⟨sH _ _ upd_same, ?_⟩
      have hT := hP.done ht.z
      have sA := s2.trans (same_lock hd sH)
      have nD : D ≠ d := fun e => by rw [e, upd_same] at hD; cases hD
      have hD' : upd H' d (.dK kvs) D = some (.dK new) := by rw [upd_ne nD]; exact hD'
      have hfz := sH _ _ upd_same
      replace hT := hT.mono (R' := fun z v => ∃ q, v = .ref q ∧ RatAt ca (upd H' d (.dK kvs)) q (f z).1 (f z).2) (Z' := ShZ f) (fun _ _ ⟨q, e, r⟩ => ⟨q, e, r.keep hfz nf keep_upd⟩) fun _ n => n
      clear hP hfz
      generalize upd H' d (.dK kvs) = H3 at *
      fail "rd"
      refine ⟨.inl ⟨D, _, hD', True.intro, fun od2 => ?_⟩⟩
      refine ⟨_, rfl, D, od2, rfl, .inl ⟨new, upd_same, fun D2 hD2 => dc_names hT.k (fun i H' => Same (upd H3 D (.frz od2 (.dK new))) H' ∧ ∃ nw, H' D2 = some (.dK nw) ∧ Part N (ShR ca f H') (ShZ f) new i nw)
        ⟨same_upd hD2, [], upd_same, .start⟩ (fun i H' _ s => s.1 _ _ upd_same) ?_ ?_⟩⟩
      · rintro i z v H4 hi hz hv ⟨sH4, nw, hD4, hP⟩
        obtain ⟨q, rfl, hq⟩ := hT.r z v hv
        have hq := (hq.keep hD' nd (keep_upd (p := D))).same sH4
        obtain ⟨_, dq, eq⟩ := id hq
        fail "rd"
        refine ⟨D, _, rfl, dget (.inr ⟨od2, sH4 _ _ upd_same⟩) hv, ?_⟩
        fail "rd"
        refine ⟨q, _, _, _, 0, 1, rfl, hq, .inl ⟨rfl, rfl⟩, fun H5 s5 => ?_⟩
        fail "rd"
        have hD5 := s5 _ _ hD4
        refine iteDn (fun c => ?_) (fun c => ?_)
        · fail "rd"
          refine ⟨D, _, rfl, dget (.inr ⟨od2, s5 _ _ (sH4 _ _ upd_same)⟩) hv, ?_⟩
          refine ⟨nw, .inr z, rfl, hD5, hP.k.line hN, same_put hD2 (sH4.trans s5), _, upd_same, ?_⟩
          exact (hP.mono (fun y u r => ShR.keep hD5 nd keep_upd (ShR.same s5 r)) fun _ n => n).put hi hz ⟨q, rfl, (hq.same s5).keep hD5 nd keep_upd, fun e => c ⟨e, hq.1.zero e⟩⟩
        · exact ⟨sH4.trans s5, nw, hD5, (hP.mono (fun y u r => ShR.same s5 r) fun _ n => n).skip hi (Prod.ext c.1 c.2)⟩
      · rintro H4 ⟨sH4, nw, hD4, hP⟩
        refine ⟨sH4 _ _ upd_same, ?_⟩
        have hT2 := hP.done hT.z
        have sB := (s1.trans sA).trans (same_lock hD' sH4)
        have n2 : D2 ≠ D := fun e => by rw [e, upd_same] at hD2; cases hD2
        have hp2 := sB _ _ hp
        have nH : H D2 = none := (s1.trans sA).free (by rw [upd_ne n2] at hD2; exact hD2)
        have hfz := sH4 _ _ upd_same
        have hD5 : upd H4 D (.dK new) D2 = some (.dK nw) := by rw [upd_ne n2]; exact hD4
        replace hT2 := hT2.mono (R' := ShR ca f (upd H4 D (.dK new))) (Z' := ShZ f) (fun _ _ r => ShR.keep hfz nf keep_upd r) fun _ n => n
        clear hP hfz hT sH4 sH
        generalize upd H4 D (.dK new) = H6 at *
        fail "rd"
        generalize g_H7 : upd _ p _ = H7
        obtain ⟨k_H7, e_H7⟩ := gen_put g_H7
        clear g_H7
        rw [putF_nil] at e_H7
        exact k H7 D2 nH ((Keep.of sB).trans k_H7) e_H7 ⟨nw, k_H7 _ _ hD5 (ne_of hD5 hp2 fun z => nomatch z), hT2.mono (fun _ _ r => ShR.keepN hp2 k_H7 r) fun _ n => n⟩

abbrev s_Form_names : Stmt := inClass (top 16) 8
theorem sc_Form_names : FnScope ["self"] ["self"] (defScope s_Form_names) := ⟨rfl, rfl, rfl, by decide +kernel, rfl, by decide +kernel, by decide +kernel⟩
def sp_Form_names (_ : PySem.W.Frag) (ca : Nat → Addr) : Sp := fun vs H Q _ => ∃ (p : Addr) (N : List Str) (f : Fm), vs = [.ref p] ∧ FormAt ca H p N f ∧ Uni N ∧ ∀ (ys : List Str) (l : Addr) (H' : Hp), ys.Nodup → sortedS ys = true → (∀ z, z ∈ ys ↔ (f z).1 ≠ 0) → ys.length ≤ 60 →
  H l = none → Same H H' → H' l = some (.lst (ys.map V.str)) → Q (.ref l) H'
theorem ok_Form_names {f : Addr} {fd : FuncData} (F : Fun K "names" "Form.names" s_Form_names f fd) (T : Txt K mg ca)  : FnOk P w K mg base (L2.CX P w) 1 f fd ["self"] (sp_Form_names K ca) := by
  refine F.okX sc_Form_names (fun vs H Q E h => ?_) (fun cdv A outer s H vs Q E hr h => ?_)
  · obtain ⟨_, _, _, rfl, _⟩ := h
    rfl
  · obtain ⟨p, N, f, rfl, hF, hN, k⟩ := h
    refine ⟨_, pss_one (ps_ret (pe_callB (call_sortedD rfl) (by rfl) T.b_sorted (by decide +kernel) (pa_cons (pe_fld (pv 0) rfl) pa_nil))), ?_⟩
    obtain ⟨dx, d, hp, kvs, hd, t⟩ := hF
    obtain ⟨ks, e, nk, hm, hl⟩ := t.k.names
    have h60 : ks.length ≤ 60 := by have := t.k.len; have := hN.len; omega
    fail "rd"
    refine ⟨d, kvs, ks, rfl, .inl hd, e, by omega, fun ys l pm so nl => ?_⟩
    fail "rd"
    refine k ys l _ (pm.nodup_iff.mpr nk) so (fun z => ?_) (by rw [pm.length_eq]; exact h60) nl (same_upd nl) upd_same
    rw [pm.mem_iff, hm, FormSh.mem t]

abbrev s_Form_share : Stmt := inClass (top 16) 7
theorem sc_Form_share : FnScope ["self", "name"] ["self", "name"] (defScope s_Form_share) := ⟨rfl, rfl, rfl, by decide +kernel, rfl, by decide +kernel, by decide +kernel⟩
def sp_Form_share (_ : PySem.W.Frag) (ca : Nat → Addr) : Sp := fun vs H Q _ => ∃ (p : Addr) (z : Str) (N : List Str) (f : Fm), vs = [.ref p, .str z] ∧ FormAt ca H p N f ∧ ∀ (q : Addr) (H' : Hp), Same H H' → RatAt ca H' q (f z).1 (f z).2 → Q (.ref q) H'
theorem ok_Form_share {f : Addr} {fd : FuncData} (F : Fun K "share" "Form.share" s_Form_share f fd) (T : Txt K mg ca) (O_Ratio_2 : OwnI P w K mg base 1 "Ratio" (ca 2) ["self", "top", "bottom"] [] (sp_Ratio_init K ca)) (O_Ratio_1 : OwnI P w K mg base 1 "Ratio" (ca 2) ["self", "top", "bottom"] [.int 1] (sp_Ratio_init K ca)) : FnOk P w K mg base (L2.CX P w) 3 f fd ["self", "name"] (sp_Form_share K ca) := by
  refine F.okX sc_Form_share (fun vs H Q E h => ?_) (fun cdv A outer s H vs Q E hr h => ?_)
  · obtain ⟨_, _, _, _, rfl, _⟩ := h
    rfl
  · obtain ⟨p, z, N, f, rfl, hF, k⟩ := h
    refine ⟨_, pss_one (ps_ret (pe_dget2 (hu_of (hr.mono (Nat.zero_le _))) (pe_fld (pv 0) rfl) (pv 1) (pe_owni O_Ratio_1 (hr.mono (by decide)) rfl pas0 (pa_cons pe_int pa_nil)) ⟨rfl, rfl, rfl, rfl⟩)), ?_⟩
    obtain ⟨dx, d, hp, kvs, hd, t⟩ := hF
    fail "rd"
    refine ⟨.inl ⟨kvs, .inl hd⟩, ?_⟩
    fail "rd"
    intro q d_q n_q nd_q ne_q
    refine ⟨q, d_q, _, _, rfl, upd_same, (by decide), fun z => absurd z (by decide), fun _ H1 k_q e_q => ⟨rfl, ?_⟩⟩
    have s_H1 := same_made n_q nd_q ne_q k_q
    refine ⟨valV kvs (.inr z), DGet.k (k := Sum.inr z) (s_H1 _ _ hd), ?_⟩
    cases e : valV kvs (.inr z) with
    | none =>
      have e2 : f z = (0, 1) := t.z z e
      refine k q H1 s_H1 ?_
      rw [e2]
      exact ⟨red01, _, e_q⟩
    | some v =>
      obtain ⟨r, rfl, hr, _⟩ := t.r z v e
      exact k r H1 s_H1 (hr.same s_H1)

abbrev s_Ratio_add : Stmt := inClass (top 10) 1
theorem sc_Ratio_add : FnScope ["self", "other", "number"] ["self", "other"] (defScope s_Ratio_add) := ⟨rfl, rfl, rfl, by decide +kernel, rfl, by decide +kernel, by decide +kernel⟩
def sp_Ratio_add (_ : PySem.W.Frag) (ca : Nat → Addr) : Sp := fun vs H Q _ => ∃ (p : Addr) (x : V) (a b a' b' : Int), vs = [.ref p, x] ∧ RatQ ca H p a b ∧ NumQ ca H x a' b' ∧ Sz 4000 a ∧ Sz 4000 b ∧ Sz 4000 a' ∧ Sz 4000 b' ∧
  ∀ (q : Addr) (H' : Hp), H q = none → Same H H' → RatQ ca H' q (a * b' + a' * b) (b * b') → Q (.ref q) H'
theorem ok_Ratio_add {f : Addr} {fd : FuncData} (F : Fun K "__add__" "Ratio.__add__" s_Ratio_add f fd) (T : Txt K mg ca) (O_as_ratio : Own P w K mg base 3 "as_ratio" ["number"] (sp_as_ratio K ca)) (O_Ratio_2 : OwnI P w K mg base 1 "Ratio" (ca 2) ["self", "top", "bottom"] [] (sp_Ratio_init K ca)) (O_Ratio_1 : OwnI P w K mg base 1 "Ratio" (ca 2) ["self", "top", "bottom"] [.int 1] (sp_Ratio_init K ca)) : FnOk P w K mg base (L2.CX P w) 4 f fd ["self", "other"] (sp_Ratio_add K ca) := by
  refine F.okX sc_Ratio_add (fun vs H Q E h => ?_) (fun cdv A outer s H vs Q E hr h => ?_)
  · obtain ⟨_, _, _, _, _, _, rfl, _⟩ := h
    rfl
  · obtain ⟨p, x, a, b, a', b', rfl, hR, hn, s1, s2, s3, s4, k⟩ := h
    refine ⟨_, pss_cons (ps_set (i := 2) sc_Ratio_add.nd rfl (Or.inl rfl) (pe_own O_as_ratio (hr.mono (by decide)) rfl pas0 (pa_cons (pv 1) pa_nil))) (pss_one (ps_ret (pe_owni O_Ratio_2 (hr.mono (by decide)) rfl pas0 (pa_cons (pe_op op_add (pe_op op_mulI (pe_fld (pv 0) rfl) (pe_fld (pv 2) rfl)) (pe_op op_mulI (pe_fld (pv 2) rfl) (pe_fld (pv 0) rfl))) (pa_cons (pe_op op_mulI (pe_fld (pv 0) rfl) (pe_fld (pv 2) rfl)) pa_nil))))), ?_⟩
    fail "rd"
    refine ⟨x, _, _, rfl, hn.num, fun q H1 sm hq => ?_⟩
    obtain ⟨dx, hp⟩ := (hR.same sm).ins
    obtain ⟨_, dy, hq⟩ := hq
    have t1 := s1.le (nrm_le1 (a := a) hR.ne)
    have t2 := s2.le (nrm_le2 (a := a) hR.ne)
    have t3 := s3.le (nrm_le1 (a := a') hn.ne)
    have t4 := s4.le (nrm_le2 (a := a') hn.ne)
    have m1 : IntMulOk (nrm a b).1 (nrm a' b').2 := t1.mok t4
    have m2 : IntMulOk (nrm a' b').1 (nrm a b).2 := t3.mok t2
    have m3 : IntMulOk (nrm a b).2 (nrm a' b').2 := t2.mok t4
    have m4 : IntMulOk (nrm a b).1 (nrm a' b').1 := t1.mok t3
    have n0 : (nrm a b).2 * (nrm a' b').2 ≠ 0 := Int.mul_ne_zero (nrm_ne hR.ne) (nrm_ne hn.ne)
    fail "rd"
    intro r d_r n_r nd_r ne_r
    refine ⟨r, d_r, _, _, rfl, upd_same, ((t2.mul t4).lg), fun z => absurd z n0, fun _ H2 k_r e_r => ⟨rfl, ?_⟩⟩
    have s_H2 := same_made n_r nd_r ne_r k_r
    exact k r H2 (sm.free n_r) (sm.trans s_H2) (.of (Int.mul_ne_zero hR.ne hn.ne) e_r (nrm_add hR.ne hn.ne))

abbrev s_Form_add : Stmt := inClass (top 16) 2
theorem sc_Form_add : FnScope ["self", "other", "shares", "name"] ["self", "other"] (defScope s_Form_add) := ⟨rfl, rfl, rfl, by decide +kernel, rfl, by decide +kernel, by decide +kernel⟩
def sp_Form_add (_ : PySem.W.Frag) (ca : Nat → Addr) : Sp := fun vs H Q _ => ∃ (p q : Addr) (N : List Str) (f g : Fm), vs = [.ref p, .ref q] ∧ FormAt ca H p N f ∧ FormAt ca H q N g ∧ Uni N ∧ SzF 4000 f ∧ SzF 4000 g ∧
  ∀ (r : Addr) (H' : Hp), H r = none → Same H H' → FormAt ca H' r N (fun z => addP (f z) (g z)) → Q (.ref r) H'
theorem ok_Form_add {f : Addr} {fd : FuncData} (F : Fun K "__add__" "Form.__add__" s_Form_add f fd) (T : Txt K mg ca) (O_Form_1 : OwnI P w K mg base 5 "Form" (ca 3) ["self", "shares"] [] (sp_Form_init K ca)) (O_Form_0 : OwnI P w K mg base 5 "Form" (ca 3) ["self", "shares"] [.non] (sp_Form_init K ca)) (O_Form_names : OwnM P w K mg base 1 (ca 3) "names" ["self"] (sp_Form_names K ca)) (O_Form_share : OwnM P w K mg base 3 (ca 3) "share" ["self", "name"] (sp_Form_share K ca)) (O_Ratio___add__ : OwnM P w K mg base 4 (ca 2) "__add__" ["self", "other"] (sp_Ratio_add K ca)) : FnOk P w K mg base (L2.CX P w) 7 f fd ["self", "other"] (sp_Form_add K ca) := by
  refine F.okX sc_Form_add (fun vs H Q E h => ?_) (fun cdv A outer s H vs Q E hr h => ?_)
  · obtain ⟨_, _, _, _, _, rfl, _⟩ := h
    rfl
  · obtain ⟨p, q, N, f, g, rfl, hF, hG, hN, zf, zg, k⟩ := h
    refine ⟨_, pss_cons (ps_set (i := 2) sc_Form_add.nd rfl (Or.inl rfl) (pe_callTy call_dictD (by rfl) T.b_dict (by decide +kernel) (pa_cons (pe_fld (pv 0) rfl) pa_nil))) (pss_cons (ps_for (passes_of rfl) rfl (pi_list (pe_ownm0 O_Form_names (pv 1) (hr.mono (by decide)) pas0)) (pg_name (i := 3) sc_Form_add.nd rfl (Or.inl rfl)) (pss_one (ps_dput (hu_of (hr.mono (Nat.zero_le _))) (pv 2) (pv 3) (pe_op (op_own .add T.ar_Ratio O_Ratio___add__ (hr.mono (by decide)) passL) (pe_ownm O_Form_share (pv 0) (hr.mono (by decide)) pas0 (pa_cons (pv 3) pa_nil)) (pe_ownm O_Form_share (pv 1) (hr.mono (by decide)) pas0 (pa_cons (pv 3) pa_nil))) rfl))) (pss_one (ps_ret (pe_owni O_Form_1 (hr.mono (by decide)) rfl pas0 (pa_cons (pv 2) pa_nil))))), ?_⟩
    obtain ⟨dx, d, hp, kvs, hd, t⟩ := id hF
    fail "rd"
    refine ⟨d, kvs, rfl, .inl hd, ?_⟩
    intro S n_S
    generalize g_H1 : upd _ S _ = H1
    obtain ⟨s_H1, e_S⟩ := gen_new n_S g_H1
    clear g_H1
    have hF1 := hF.same s_H1
    have hG1 := hG.same s_H1
    obtain ⟨dy, d2, hq⟩ := hG1.ins
    fail "rd"
    refine ⟨q, N, g, rfl, hG1, hN, fun ys l H2 ny so hm h60 nl s2 hl => ?_⟩
    fail "rd"
    have sA := s_H1.trans s2
    refine for_list (D := ⟨_, _, fun _ _ => True, fun _ _ => True⟩) (K := K) (a := l) (xs := ys.map V.str) (fun i σ' H' => ∃ (v : Option V) (kv : List (Key × V)), σ' = [some (.ref p), some (.ref q), some (.ref S), v] ∧ Same H H' ∧ H' l = some (.lst (ys.map V.str)) ∧ H' S = some (.dK kv) ∧
        Tab N (NumR ca (fun z => if z ∈ ys.take i then addP (f z) (g z) else f z) H') (ShZ fun z => if z ∈ ys.take i then addP (f z) (g z) else f z) kv)
      ⟨none, kvs, rfl, sA, hl, s2 _ _ e_S, ?_⟩ (fun i σ' H' _ ⟨_, _, _, _, h, _⟩ => SqL.of h) ?_ ?_
    · simp only [List.take_zero, List.not_mem_nil, if_false]
      exact t.mono (fun z v ⟨r, e, hr, _⟩ => .inr ⟨r, e, hr.same sA⟩) fun _ n => n
    · rintro i x σ' H' hx ⟨v, kv, rfl, sH, hl, hS, hT⟩
      obtain ⟨y, hy, rfl⟩ : ∃ y, ys[i]? = some y ∧ V.str y = x := by
        rw [List.getElem?_map] at hx
        exact Option.map_eq_some_iff.mp hx
      have hyN : y ∈ N := Classical.byContradiction fun c => (hm y).mp (List.mem_of_getElem? hy) (by rw [hG.off c])
      have hF2 := hF.same sH
      have hG2 := hG.same sH
      obtain ⟨dx1, d1, hp2⟩ := hF2.ins
      obtain ⟨dx3, d3, hq2⟩ := hG2.ins
      fail "rd"
      refine ⟨p, y, N, f, rfl, hF2, fun r1 H3 s3 h1 => ?_⟩
      have hq2 := s3 _ _ hq2
      fail "rd"
      refine ⟨q, y, N, g, rfl, hG2.same s3, fun r2 H4 s4 h2 => ?_⟩
      have h1 := h1.same s4
      fail "rd"
      refine rOwn_of h1.q h2.q.num ⟨r1, _, _, _, _, _, rfl, h1.q, h2.q.num, (zf y).1, (zf y).2, (zg y).1, (zg y).2, fun r H5 nr s5 hr => ?_⟩
      have s35 := s3.trans (s4.trans s5)
      have hS5 := s35 _ _ hS
      fail "rd"
      refine ⟨S, _, rfl, DPut.k (k := Sum.inr y) hS5 (hT.k.line hN), ?_⟩
      have tm : ∀ z, z ∈ ys.take (i + 1) ↔ z ∈ ys.take i ∨ z = y := fun z => by rw [List.take_add_one, hy, List.mem_append]; simp
      refine ⟨_, _, rfl, same_put n_S (sH.trans s35), ?_, upd_same, hT.set hyN ?_ (fun z u c n => ?_) fun z c n => ?_⟩
      · rw [upd_ne (ne_of (s35 _ _ hl) hS5 fun z => nomatch z)]
        exact s35 _ _ hl
      · show NumV ca _ _ (if y ∈ ys.take (i + 1) then addP (f y) (g y) else f y).1 (if y ∈ ys.take (i + 1) then addP (f y) (g y) else f y).2
        rw [if_pos ((tm y).mpr (.inr rfl))]
        exact .inr ⟨r, rfl, hr.at_.keep hS5 nd keep_upd⟩
      · show NumV ca _ u (if z ∈ ys.take (i + 1) then addP (f z) (g z) else f z).1 (if z ∈ ys.take (i + 1) then addP (f z) (g z) else f z).2
        rw [show (if z ∈ ys.take (i + 1) then addP (f z) (g z) else f z) = if z ∈ ys.take i then addP (f z) (g z) else f z by simp only [tm z, c, or_false]]
        exact NumV.keep (NumR.same s35 n) hS5 nd keep_upd
      · show (if z ∈ ys.take (i + 1) then addP (f z) (g z) else f z) = (0, 1)
        rw [show (if z ∈ ys.take (i + 1) then addP (f z) (g z) else f z) = if z ∈ ys.take i then addP (f z) (g z) else f z by simp only [tm z, c, or_false]]
        exact n
    · rintro σ' H' ⟨v, kv, rfl, sH, hl, hS, hT⟩
      rw [List.length_map, List.take_length] at hT
      have e : (fun z => if z ∈ ys then addP (f z) (g z) else f z) = fun z => addP (f z) (g z) := by
        funext z
        by_cases c : z ∈ ys
        · rw [if_pos c]
        · rw [if_neg c]
          have g0 : (g z).1 = 0 := Classical.byContradiction fun n => c ((hm z).mpr n)
          have g1 : g z = (0, 1) := Prod.ext g0 ((hG.red z).zero g0)
          rw [g1, addP_zero (hF.red z)]
      rw [e] at hT
      fail "rd"
      exact form_made hN (.inr ⟨S, kv, rfl, hS, hT⟩) fun r H3 nr s3 F => k r H3 (sH.free nr) (sH.trans s3) F

abbrev s_Ratio_mul : Stmt := inClass (top 10) 5
theorem sc_Ratio_mul : FnScope ["self", "other", "number"] ["self", "other"] (defScope s_Ratio_mul) := ⟨rfl, rfl, rfl, by decide +kernel, rfl, by decide +kernel, by decide +kernel⟩
def sp_Ratio_mul (_ : PySem.W.Frag) (ca : Nat → Addr) : Sp := fun vs H Q _ => ∃ (p : Addr) (x : V) (a b a' b' : Int), vs = [.ref p, x] ∧ RatQ ca H p a b ∧ NumQ ca H x a' b' ∧ Sz 4000 a ∧ Sz 4000 b ∧ Sz 4000 a' ∧ Sz 4000 b' ∧
  ∀ (q : Addr) (H' : Hp), H q = none → Same H H' → RatQ ca H' q (a * a') (b * b') → Q (.ref q) H'
theorem ok_Ratio_mul {f : Addr} {fd : FuncData} (F : Fun K "__mul__" "Ratio.__mul__" s_Ratio_mul f fd) (T : Txt K mg ca) (O_as_ratio : Own P w K mg base 3 "as_ratio" ["number"] (sp_as_ratio K ca)) (O_Ratio_2 : OwnI P w K mg base 1 "Ratio" (ca 2) ["self", "top", "bottom"] [] (sp_Ratio_init K ca)) (O_Ratio_1 : OwnI P w K mg base 1 "Ratio" (ca 2) ["self", "top", "bottom"] [.int 1] (sp_Ratio_init K ca)) : FnOk P w K mg base (L2.CX P w) 4 f fd ["self", "other"] (sp_Ratio_mul K ca) := by
  refine F.okX sc_Ratio_mul (fun vs H Q E h => ?_) (fun cdv A outer s H vs Q E hr h => ?_)
  · obtain ⟨_, _, _, _, _, _, rfl, _⟩ := h
    rfl
  · obtain ⟨p, x, a, b, a', b', rfl, hR, hn, s1, s2, s3, s4, k⟩ := h
    refine ⟨_, pss_cons (ps_set (i := 2) sc_Ratio_mul.nd rfl (Or.inl rfl) (pe_own O_as_ratio (hr.mono (by decide)) rfl pas0 (pa_cons (pv 1) pa_nil))) (pss_one (ps_ret (pe_owni O_Ratio_2 (hr.mono (by decide)) rfl pas0 (pa_cons (pe_op op_mulI (pe_fld (pv 0) rfl) (pe_fld (pv 2) rfl)) (pa_cons (pe_op op_mulI (pe_fld (pv 0) rfl) (pe_fld (pv 2) rfl)) pa_nil))))), ?_⟩
    fail "rd"
    refine ⟨x, _, _, rfl, hn.num, fun q H1 sm hq => ?_⟩
    obtain ⟨dx, hp⟩ := (hR.same sm).ins
    obtain ⟨_, dy, hq⟩ := hq
    have t1 := s1.le (nrm_le1 (a := a) hR.ne)
    have t2 := s2.le (nrm_le2 (a := a) hR.ne)
    have t3 := s3.le (nrm_le1 (a := a') hn.ne)
    have t4 := s4.le (nrm_le2 (a := a') hn.ne)
    have m1 : IntMulOk (nrm a b).1 (nrm a' b').2 := t1.mok t4
    have m2 : IntMulOk (nrm a' b').1 (nrm a b).2 := t3.mok t2
    have m3 : IntMulOk (nrm a b).2 (nrm a' b').2 := t2.mok t4
    have m4 : IntMulOk (nrm a b).1 (nrm a' b').1 := t1.mok t3
    have n0 : (nrm a b).2 * (nrm a' b').2 ≠ 0 := Int.mul_ne_zero (nrm_ne hR.ne) (nrm_ne hn.ne)
    fail "rd"
    intro r d_r n_r nd_r ne_r
    refine ⟨r, d_r, _, _, rfl, upd_same, ((t2.mul t4).lg), fun z => absurd z n0, fun _ H2 k_r e_r => ⟨rfl, ?_⟩⟩
    have s_H2 := same_made n_r nd_r ne_r k_r
    exact k r H2 (sm.free n_r) (sm.trans s_H2) (.of (Int.mul_ne_zero hR.ne hn.ne) e_r (nrm_mul hR.ne hn.ne))

abbrev s_Form_mul : Stmt := inClass (top 16) 5
theorem sc_Form_mul : FnScope ["self", "other", "name"] ["self", "other"] (defScope s_Form_mul) := ⟨rfl, rfl, rfl, by decide +kernel, rfl, by decide +kernel, by decide +kernel⟩
def sp_Form_mul (_ : PySem.W.Frag) (ca : Nat → Addr) : Sp := fun vs H Q _ => ∃ (p : Addr) (x : V) (N : List Str) (f : Fm) (c d : Int), vs = [.ref p, x] ∧ FormAt ca H p N f ∧ Uni N ∧ SzF 4000 f ∧ NumQ ca H x c d ∧ Sz 4000 c ∧ Sz 4000 d ∧
  ∀ (r : Addr) (H' : Hp), H r = none → Same H H' → FormAt ca H' r N (fun z => mulP (f z) (c, d)) → Q (.ref r) H'
theorem ok_Form_mul {f : Addr} {fd : FuncData} (F : Fun K "__mul__" "Form.__mul__" s_Form_mul f fd) (T : Txt K mg ca) (O_Form_1 : OwnI P w K mg base 5 "Form" (ca 3) ["self", "shares"] [] (sp_Form_init K ca)) (O_Form_0 : OwnI P w K mg base 5 "Form" (ca 3) ["self", "shares"] [.non] (sp_Form_init K ca)) (O_Ratio___mul__ : OwnM P w K mg base 4 (ca 2) "__mul__" ["self", "other"] (sp_Ratio_mul K ca)) : FnOk P w K mg base (L2.CX P w) 7 f fd ["self", "other"] (sp_Form_mul K ca) := by
  refine F.okX sc_Form_mul (fun vs H Q E h => ?_) (fun cdv A outer s H vs Q E hr h => ?_)
  · obtain ⟨_, _, _, _, _, _, rfl, _⟩ := h
    rfl
  · obtain ⟨p, x, N, f, c, d, rfl, hF, hN, zf, hn, zc, zd, k⟩ := h
    refine ⟨_, pss_one (ps_ret (pe_owni O_Form_1 (hr.mono (by decide)) rfl pas0 (pa_cons (pe_lk (pe_dc (own := [("name", 2)]) (g := gName 2) (tt := tYes) rfl sc_Form_mul.nd (pi_keys (pe_fld (pv 0) rfl)) (blkOk_by (N := ["self", "other", "name"]) (sc := defScope s_Form_mul) (by decide +kernel)) (fun _ _ _ _ _ => pg_name (i := 2) sc_Form_mul.nd rfl (Or.inl rfl)) (fun _ _ _ _ _ => pts_nil) (fun _ _ _ _ _ => pv 2) (fun _ _ _ _ _ => pe_op (op_own .mul T.ar_Ratio O_Ratio___mul__ (hr.mono (by decide)) passL) (pe_dget (hu_of (hr.mono (Nat.zero_le _))) (pe_fldK (K := K) (pv 0) rfl rfl) (pv 2) (fun _ _ => rfl)) (pv 1)))) pa_nil))), ?_⟩
    obtain ⟨dx, sd, hp, kvs, hd, t⟩ := id hF
    refine ⟨.inl ⟨sd, _, hd, True.intro, fun od => ?_⟩⟩
    have hpl : upd H sd (.frz od (.dK kvs)) p = some (.ins (ca 3) dx [("_shares", .ref sd)]) := une (ne_of hp hd fun z => nomatch z) hp
    fail "rd"
    refine ⟨sd, od, rfl, .inl ⟨kvs, upd_same, fun D hD => dc_names t.k (fun i H' => Same (upd H sd (.frz od (.dK kvs))) H' ∧ ∃ new, H' D = some (.dK new) ∧ Part N (fun z v => ∃ q, v = .ref q ∧ RatAt ca H' q (mulP (f z) (c, d)).1 (mulP (f z) (c, d)).2) (fun z => mulP (f z) (c, d) = (0, 1)) kvs i new)
      ⟨same_upd hD, [], upd_same, .start⟩ (fun i H' _ s => s.1 _ _ upd_same) ?_ ?_⟩⟩
    · rintro i z v H' hi hz hv ⟨sH, new, hD', hP⟩
      have hpl := sH _ _ hpl
      obtain ⟨q, rfl, hq, _⟩ := t.r z v hv
      have hq := ((hq.keep hd nd keep_upd).same sH).q
      have hn := (hn.keep hd nd (keep_upd (p := sd) (o := .frz od (.dK kvs)))).same sH
      fail "rd"
      refine ⟨sd, _, rfl, dget (.inr ⟨od, sH _ _ upd_same⟩) hv, ?_⟩
      fail "rd"
      refine rOwn_of hq hn ⟨q, x, _, _, c, d, rfl, hq, hn, (zf z).1, (zf z).2, zc, zd, fun r H3 nr s3 hr => ?_⟩
      have hD3 := s3 _ _ hD'
      refine ⟨new, .inr z, rfl, hD3, hP.k.line hN, same_put hD (sH.trans s3), _, upd_same, ?_⟩
      exact (hP.mono (fun y u ⟨q, e, r⟩ => ⟨q, e, (r.same s3).keep hD3 nd keep_upd⟩) fun _ n => n).put hi hz ⟨r, rfl, hr.at_.keep hD3 nd keep_upd⟩
    · rintro H' ⟨sH, new, hD', hP⟩
      refine ⟨sH _ _ upd_same, ?_⟩
      have hT := hP.done fun z e => by
        rw [show f z = (0, 1) from t.z z e]
        exact mulP_0 hn.ne
      have sA := same_lock hd sH
      have nD : D ≠ sd := fun e => by rw [e, upd_same] at hD; cases hD
      have hD2 : upd H' sd (.dK kvs) D = some (.dK new) := by rw [upd_ne nD]; exact hD'
      have hfz := sH _ _ upd_same
      fail "rd"
      refine form_made hN (.inr ⟨D, new, rfl, hD2, hT.mono (fun z v ⟨q, e, r⟩ => ?_) fun _ n => n⟩) fun r H3 nr s3 F => k r H3 (sA.free nr) (sA.trans s3) F
      subst e
      exact .inr ⟨q, rfl, r.keep hfz nf keep_upd⟩

abbrev s_Form_neg : Stmt := inClass (top 16) 4
theorem sc_Form_neg : FnScope ["self"] ["self"] (defScope s_Form_neg) := ⟨rfl, rfl, rfl, by decide +kernel, rfl, by decide +kernel, by decide +kernel⟩
def sp_Form_neg (K : PySem.W.Frag) (ca : Nat → Addr) : Sp := fun vs H Q _ => ∃ (p : Addr) (N : List Str) (f : Fm), vs = [.ref p] ∧ FormAt ca H p N f ∧ Uni N ∧ SzF 4000 f ∧ 
  ∀ (r : Addr) (H' : Hp), H r = none → Same H H' → FormAt ca H' r N (fun z => mulP (f z) (-1, 1)) → Q (.ref r) H'
theorem ok_Form_neg {f : Addr} {fd : FuncData} (F : Fun K "__neg__" "Form.__neg__" s_Form_neg f fd) (T : Txt K mg ca) (O_Form___mul__ : OwnM P w K mg base 7 (ca 3) "__mul__" ["self", "other"] (sp_Form_mul K ca)) : FnOk P w K mg base (L2.CX P w) 8 f fd ["self"] (sp_Form_neg K ca) := by
  refine F.okX sc_Form_neg (fun vs H Q E h => ?_) (fun cdv A outer s H vs Q E hr h => ?_)
  · obtain ⟨_, _, _, rfl, _⟩ := h
    rfl
  · obtain ⟨p, N, f, rfl, hF, hN, zf, k⟩ := h
    refine ⟨_, pss_one (ps_ret (pe_op (op_own .mul T.ar_Form O_Form___mul__ (hr.mono (by decide)) passL) (pv 0) (pe_un un_neg pe_int))), ?_⟩
    fail "rd"
    refine fOwn_of hF ⟨_, rfl⟩ ⟨p, _, N, f, -1, 1, rfl, hF, hN, zf, NumQ.int, Sz.one.neg.mono, Sz.one.mono, k⟩

abbrev s_Form_sub : Stmt := inClass (top 16) 3
theorem sc_Form_sub : FnScope ["self", "other"] ["self", "other"] (defScope s_Form_sub) := ⟨rfl, rfl, rfl, by decide +kernel, rfl, by decide +kernel, by decide +kernel⟩
def sp_Form_sub (_ : PySem.W.Frag) (ca : Nat → Addr) : Sp := fun vs H Q _ => ∃ (p q : Addr) (N : List Str) (f g : Fm), vs = [.ref p, .ref q] ∧ FormAt ca H p N f ∧ FormAt ca H q N g ∧ Uni N ∧ SzF 4000 f ∧ SzF 3999 g ∧
  ∀ (r : Addr) (H' : Hp), H r = none → Same H H' → FormAt ca H' r N (fun z => addP (f z) (mulP (g z) (-1, 1))) → Q (.ref r) H'
theorem ok_Form_sub {f : Addr} {fd : FuncData} (F : Fun K "__sub__" "Form.__sub__" s_Form_sub f fd) (T : Txt K mg ca) (O_Form___add__ : OwnM P w K mg base 7 (ca 3) "__add__" ["self", "other"] (sp_Form_add K ca)) (O_Form___neg__ : OwnM P w K mg base 8 (ca 3) "__neg__" ["self"] (sp_Form_neg K ca)) : FnOk P w K mg base (L2.CX P w) 9 f fd ["self", "other"] (sp_Form_sub K ca) := by
  refine F.okX sc_Form_sub (fun vs H Q E h => ?_) (fun cdv A outer s H vs Q E hr h => ?_)
  · obtain ⟨_, _, _, _, _, rfl, _⟩ := h
    rfl
  · obtain ⟨p, q, N, f, g, rfl, hF, hG, hN, zf, zg, k⟩ := h
    refine ⟨_, pss_one (ps_ret (pe_op (op_own .add T.ar_Form O_Form___add__ (hr.mono (by decide)) passL) (pv 0) (pe_un (un_negOwn O_Form___neg__ (hr.mono (by decide)) passL) (pv 1)))), ?_⟩
    fail "rd"
    refine fUna_of hG ⟨q, N, g, rfl, hG, hN, zg.mono, fun r H1 nr s1 hR => ?_⟩
    fail "rd"
    refine fOwn2_of (hF.same s1) hR ⟨p, r, N, f, _, rfl, hF.same s1, hR, hN, zf, fun z => ?_, fun r2 H2 n2 s2 hR2 => k r2 H2 (s1.free n2) (s1.trans s2) hR2⟩
    have n : (g z).2 * 1 ≠ 0 := by have := (hG.red z).pos; omega
    unfold mulP
    exact ⟨((zg z).1.mul Sz.one.neg |>.mono).le (nrm_le1 n), ((zg z).2.mul Sz.one |>.mono).le (nrm_le2 n)⟩

abbrev s_parting : Stmt := top 17
theorem sc_parting : FnScope ["one", "other", "differing", "prices", "name"] ["one", "other"] (defScope s_parting) := ⟨rfl, rfl, rfl, by decide +kernel, rfl, by decide +kernel, by decide +kernel⟩
def sp_parting (_ : PySem.W.Frag) (ca : Nat → Addr) : Sp := fun vs H Q _ => ∃ (p q : Addr) (N : List Str) (f g : Fm), vs = [.ref p, .ref q] ∧ FormAt ca H p N f ∧ FormAt ca H q N g ∧ Uni N ∧ SzF 3999 f ∧ SzF 3999 g ∧
  ∀ (v : V) (H' : Hp), Same H H' → (((∀ z, f z = g z) ∧ v = .non) ∨ ∃ (d : Addr) (z0 : Str) (kvs : List (Key × V)), H d = none ∧ v = .ref d ∧ H' d = some (.dK kvs) ∧ f z0 ≠ g z0 ∧ KOk N kvs ∧
    (∀ z, z ∈ N → (valV kvs (.inr z) = if z = z0 then some (.int 1) else if (f z).1 ≠ 0 ∨ (g z).1 ≠ 0 then some (.int 0) else none))) → Q v H'
theorem ok_parting {f : Addr} {fd : FuncData} (F : Fun K "parting" "parting" s_parting f fd) (T : Txt K mg ca) (O_Form___sub__ : OwnM P w K mg base 9 (ca 3) "__sub__" ["self", "other"] (sp_Form_sub K ca)) (O_Form_names : OwnM P w K mg base 1 (ca 3) "names" ["self"] (sp_Form_names K ca)) : FnOk P w K mg base (L2.CX P w) 10 f fd ["one", "other"] (sp_parting K ca) := by
  refine F.okX sc_parting (fun vs H Q E h => ?_) (fun cdv A outer s H vs Q E hr h => ?_)
  · obtain ⟨_, _, _, _, _, rfl, _⟩ := h
    rfl
  · obtain ⟨p, q, N, f, g, rfl, hF, hG, hN, zf, zg, k⟩ := h
    refine ⟨_, pss_cons (ps_set (i := 2) sc_parting.nd rfl (Or.inl rfl) (pe_ownm0 O_Form_names (pe_op (op_own .sub T.ar_Form O_Form___sub__ (hr.mono (by decide)) passL) (pv 0) (pv 1)) (hr.mono (by decide)) pas0)) (pss_cons (ps_if (pt_not (pt_truth (pv 2) (fun _ => rfl))) (pss_one (ps_ret pe_non)) pss_nil) (pss_cons (ps_setDc (slot := 3) (mine := [("name", 4)]) (tg := gName 4) (tt := tYes) rfl sc_parting.nd rfl rfl (sw_trueD rfl rfl rfl (by decide +kernel)) (pi_list (pe_op op_cat (pe_ownm0 O_Form_names (pv 0) (hr.mono (by decide)) pas0) (pe_ownm0 O_Form_names (pv 1) (hr.mono (by decide)) pas0))) (blkOk_by (N := ["one", "other", "differing", "prices", "name"]) (sc := defScope s_parting) (by decide +kernel)) (fun _ _ _ _ _ => pg_name (i := 4) sc_parting.nd rfl (Or.inl rfl)) (fun _ _ _ _ _ => pts_nil) (fun _ _ _ _ _ => pv 4) (fun _ _ _ _ _ => pe_int)) (pss_cons (ps_dput (hu_of (hr.mono (Nat.zero_le _))) (pv 3) (pe_ix ix_list (pv 2) pe_int (fun _ _ => rfl)) pe_int rfl) (pss_one (ps_ret (pv 3)))))), ?_⟩
    fail "rd"
    refine fOwn2_of hF hG ⟨p, q, N, f, g, rfl, hF, hG, hN, zf.mono, zg, fun r H1 nr s1 hR => ?_⟩
    obtain ⟨dx, d, er⟩ := hR.ins
    fail "rd"
    refine ⟨r, N, _, rfl, hR, hN, fun ys l H2 ny so hm h60 nl s2 hl => ?_⟩
    fail "rd"
    refine ⟨!ys.isEmpty, .inl ⟨_, SqL.of hl, by cases ys <;> rfl⟩, ?_⟩
    have sS := s1.trans s2
    show if (!!ys.isEmpty) = true then _ else _
    rw [Bool.not_not]
    cases ey : ys.isEmpty with
    | true =>
      refine iteT (k .non H2 sS (.inl ⟨fun z => ?_, rfl⟩))
      have e : ys = [] := List.isEmpty_iff.mp ey
      subst e
      exact (sub_0 (hF.red z) (hG.red z)).mp (Classical.byContradiction fun n => nomatch (hm z).mpr n)
    | false =>
      refine iteF ?_
      have hF2 := hF.same sS
      have hG2 := hG.same sS
      obtain ⟨dx1, d1, hp2⟩ := hF2.ins
      obtain ⟨dx3, d3, hq2⟩ := hG2.ins
      fail "rd"
      refine ⟨p, N, f, rfl, hF2, hN, fun ya la H3 na soa ma a60 nla s3 hla => ?_⟩
      have hq3 := s3 _ _ hq2
      fail "rd"
      refine ⟨q, N, g, rfl, hG2.same s3, hN, fun yb lb H4 nb sob mb b60 nlb s4 hlb => ?_⟩
      have hla := s4 _ _ hla
      fail "rd"
      refine ⟨la, lb, _, _, rfl, rfl, hla, hlb, line_le (by rw [List.length_map, List.length_map]; omega), ?_⟩
      intro lc n_lc
      generalize g_H5 : upd _ lc _ = H5
      obtain ⟨s_H5, e_lc⟩ := gen_new n_lc g_H5
      clear g_H5
      rw [← List.map_append] at e_lc
      fail "rd"
      have sA : Same H H5 := ((sS.trans s3).trans s4).trans s_H5
      have lW : ∀ z, z ∈ ya ++ yb ↔ (f z).1 ≠ 0 ∨ (g z).1 ≠ 0 := fun z => by rw [List.mem_append, ma, mb]
      generalize hW : ya ++ yb = W at *
      intro D nD
      refine dc_it (walk_list (K := K) (a := lc) (xs := W.map V.str)) (fun i H' => Same H5 H' ∧ ∃ kvs, H' D = some (.dK kvs) ∧ KOk N kvs ∧ ∀ z, valV kvs (.inr z) = if z ∈ W.take i then some (.int 0) else none)
        ⟨same_upd nD, [], upd_same, .nil, fun z => by rw [List.take_zero, if_neg (List.not_mem_nil), valV_nil]⟩ (fun i H' _ s => SqL.of (s.1 _ _ e_lc)) ?_ ?_
      · rintro i x H' H6 hi ⟨sH, kvs, hD, hK, hV⟩ ⟨rfl, hx⟩
        obtain ⟨y, hy, rfl⟩ : ∃ y, W[i]? = some y ∧ V.str y = x := by
          rw [List.getElem?_map] at hx
          exact Option.map_eq_some_iff.mp hx
        have hyN : y ∈ N := Classical.byContradiction fun c => by
          rcases (lW y).mp (List.mem_of_getElem? hy) with n | n
          · exact n (by rw [hF.off c])
          · exact n (by rw [hG.off c])
        fail "rd"
        show Exists _
        refine ⟨kvs, .inr y, rfl, hD, hK.line hN, same_put nD sH, _, upd_same, hK.put hyN _, fun z => ?_⟩
        rw [valV_put, hV, List.take_add_one, hy]
        by_cases e : z = y
        · rw [if_pos (by rw [e]), if_pos (by rw [e]; simp)]
        · rw [if_neg (fun c => e (Sum.inr.inj c))]
          by_cases c : z ∈ W.take i
          · rw [if_pos c, if_pos (List.mem_append_left _ c)]
          · rw [if_neg c, if_neg (fun m => (List.mem_append.mp m).elim c fun m => e (by simpa using m))]
      · rintro H' ⟨sH, kvs, hD, hK, hV⟩
        rw [List.length_map, List.take_length] at hV
        have hl6 := sH _ _ (s_H5 _ _ (s4 _ _ (s3 _ _ hl)))
        fail "rd"
        obtain ⟨z0, yr, rfl⟩ : ∃ z0 yr, ys = z0 :: yr := by
          cases ys with
          | nil => exact nomatch ey
          | cons a b => exact ⟨a, b, rfl⟩
        have d0 : f z0 ≠ g z0 := fun e => (hm z0).mp List.mem_cons_self ((sub_0 (hF.red z0) (hG.red z0)).mpr e)
        have z0N : z0 ∈ N := Classical.byContradiction fun c => d0 (by rw [hF.off c, hG.off c])
        refine ⟨l, _, ((0 : Nat) : Int), .str z0, rfl, rfl, SqL.of hl6, atI_nat rfl, ?_⟩
        refine ⟨D, _, rfl, DPut.k (k := Sum.inr z0) hD (hK.line hN), ?_⟩
        fail "rd"
        refine k (.ref D) _ (same_put (sA.free nD) (sA.trans sH)) (.inr ⟨D, z0, _, sA.free nD, rfl, upd_same, d0, hK.put z0N _, fun z _ => ?_⟩)
        rw [valV_put, hV]
        by_cases e : z = z0
        · rw [if_pos (by rw [e]), if_pos e]
        · rw [if_neg (fun c => e (Sum.inr.inj c)), if_neg e]
          by_cases c : z ∈ W
          · rw [if_pos c, if_pos ((lW z).mp c)]
          · rw [if_neg c, if_neg fun d => c ((lW z).mpr d)]

abbrev s_l_pick : Stmt := top 23
theorem sc_l_pick : FnScope ["_law_bag_here", "_law_items"] ["_law_bag_here", "_law_items"] (defScope s_l_pick) := ⟨rfl, rfl, rfl, by decide +kernel, rfl, by decide +kernel, by decide +kernel⟩
def sp_l_pick (_ : PySem.W.Frag) (_ : Nat → Addr) : Sp := fun vs H Q _ => ∃ (b a : Addr) (xs : List V), vs = [.ref b, .ref a] ∧ ∃ L : Addr, Bag H L b ∧ H a = some (.lst xs) ∧ a ≠ b ∧ xs ≠ [] ∧ xs.length < 1000 ∧
  ∀ (i : Nat) (x : V) (H' : Hp), xs[i]? = some x → Keep b H H' → Bag H' L b → Q x H'
theorem ok_l_pick {f : Addr} {fd : FuncData} (F : Fun K "_law_pick" "_law_pick" s_l_pick f fd) (T : Txt K mg ca) (O__law_draw : Own P w K mg base 1 "_law_draw" ["_law_bag_here", "_law_size"] (sp_l_draw K ca)) : FnOk P w K mg base (L2.CX P w) 2 f fd ["_law_bag_here", "_law_items"] (sp_l_pick K ca) := by
  refine F.okX sc_l_pick (fun vs H Q E h => ?_) (fun cdv A outer s H vs Q E hr h => ?_)
  · obtain ⟨_, _, _, rfl, _⟩ := h
    rfl
  · obtain ⟨b, a, xs, rfl, L, hB, ha, hne, h0, h1, k⟩ := h
    refine ⟨_, pss_one (ps_ret (pe_ix ix_list (pv 1) (pe_own O__law_draw (hr.mono (by decide)) rfl pas0 (pa_cons (pv 0) (pa_cons (pe_callB call_len_seq (by rfl) T.b_len (by decide +kernel) (pa_cons (pv 1) pa_nil)) pa_nil))) (fun _ _ => rfl))), ?_⟩
    have hu : (0 : Int) < (xs.length : Nat) := by have := List.length_pos_iff.mpr h0; omega
    have h64 : (xs.length : Int).natAbs < 2 ^ 164 := Nat.lt_of_le_of_lt (show (xs.length : Int).natAbs ≤ 1000 by omega) (by decide)
    fail "rd"
    refine ⟨L, hB, hu, lg164 h64, fun d H1 d0 d1 k1 B1 => ?_⟩
    have ha := k1 _ _ ha hne
    obtain ⟨D, rfl⟩ := Int.eq_ofNat_of_zero_le d0
    have hD : D < xs.length := by omega
    refine ⟨a, xs, _, xs[D], rfl, rfl, SqL.of ha, atI_nat (by simp [hD]), ?_⟩
    exact k D _ H1 (by simp [hD]) k1 B1

abbrev s_l_differ : Stmt := top 31
theorem sc_l_differ : FnScope ["_law_one", "_law_other", "_law_prices", "_law_rest", "_law_top_here", "_law_bottom", "_law_name", "_law_more", "_law_part"] ["_law_one", "_law_other", "_law_prices"] (defScope s_l_differ) := ⟨rfl, rfl, rfl, by decide +kernel, rfl, by decide +kernel, by decide +kernel⟩
def sp_l_differ (_ : PySem.W.Frag) (ca : Nat → Addr) : Sp := fun vs H Q _ => ∃ (d1 d2 dp : Addr) (N : List Str) (f g : Fm) (z0 : Str) (ps : List (Key × V)), vs = [.ref d1, .ref d2, .ref dp] ∧ TabAt H d1 N f ∧ TabAt H d2 N g ∧ RedF f ∧ RedF g ∧ SzF 900 f ∧ SzF 900 g ∧ Uni N ∧
  H dp = some (.dK ps) ∧ f z0 ≠ g z0 ∧ (∀ z ∈ N, if z = z0 then valV ps (.inr z) = some (.int 1) else valV ps (.inr z) = some (.int 0) ∨ valV ps (.inr z) = none) ∧ ∀ H' : Hp, Same H H' → Q (.bl true) H'
theorem sumF_sz {s : Int} {f g : Fm} (hs : s = 1 ∨ s = -1) (rf : RedF f) (rg : RedF g) (zf : SzF 900 f) (zg : SzF 900 g) : SzF 4000 (sumF s f g) := fun z => by
  have zs : Sz 1 s := by
    rcases hs with rfl | rfl
    · exact Sz.one
    · exact Sz.one.neg
  have n : (f z).2 * (g z).2 ≠ 0 := Int.mul_ne_zero (by have := (rf z).pos; omega) (by have := (rg z).pos; omega)
  exact ⟨((((zf z).1.mul (zg z).2).add ((zs.mul (zg z).1).mul (zf z).2)).mono).le (nrm_le1 n), (((zf z).2.mul (zg z).2).mono).le (nrm_le2 n)⟩
open Classical in
/-- where the sum of differences stands, some names gone over -/
noncomputable def partF (ks : List Key) (z0 : Str) (r : Fm) : Int × Int := if (Sum.inr z0 : Key) ∈ ks then r z0 else (0, 1)
theorem ok_l_differ {f : Addr} {fd : FuncData} (F : Fun K "_law_differ" "_law_differ" s_l_differ f fd) (T : Txt K mg ca) (O__law_sum : Own P w K mg base 3 "_law_sum" ["_law_one", "_law_other", "_law_sign"] (sp_l_sum K ca)) (O__law_lowest : Own P w K mg base 2 "_law_lowest" ["_law_top_here", "_law_bottom"] (sp_l_lowest K ca)) : FnOk P w K mg base (L2.CX P w) 4 f fd ["_law_one", "_law_other", "_law_prices"] (sp_l_differ K ca) := by
  refine F.okX sc_l_differ (fun vs H Q E h => ?_) (fun cdv A outer s H vs Q E hr h => ?_)
  · obtain ⟨_, _, _, _, _, _, _, _, rfl, _⟩ := h
    rfl
  · obtain ⟨d1, d2, dp, N, f, g, z0, ps, rfl, hT1, hT2, rf, rg, sf, sg, hN, hp, h0, hps, k⟩ := h
    refine ⟨_, pss_cons (ps_set (i := 3) sc_l_differ.nd rfl (Or.inl rfl) (pe_own O__law_sum (hr.mono (by decide)) rfl pas0 (pa_cons (pv 0) (pa_cons (pv 1) (pa_cons (pe_un un_neg pe_int) pa_nil))))) (pss_cons (ps_set (i := 4) sc_l_differ.nd rfl (Or.inl rfl) pe_int) (pss_cons (ps_set (i := 5) sc_l_differ.nd rfl (Or.inl rfl) pe_int) (pss_cons (ps_lk (ps_for (passes_of rfl) rfl (pi_keys (pv 3)) (pg_name (i := 6) sc_l_differ.nd rfl (Or.inl rfl)) (pss_cons (ps_asg (pe_dget (hu_of (hr.mono (Nat.zero_le _))) (pv 3) (pv 6) (fun _ _ => rfl)) (pg_tup rfl (pgs_cons (pg_name (i := 7) sc_l_differ.nd rfl (Or.inl rfl)) (pgs_cons (pg_name (i := 8) sc_l_differ.nd rfl (Or.inl rfl)) pgs_nil)))) (pss_one (ps_asg (pe_own O__law_lowest (hr.mono (by decide)) rfl pas0 (pa_cons (pe_op op_add (pe_op op_mulI (pv 4) (pv 8)) (pe_op op_mulI (pe_op op_mulI (pv 7) (pe_dget2 (hu_of (hr.mono (Nat.zero_le _))) (pv 2) (pv 6) pe_int ⟨rfl, rfl, rfl, rfl⟩)) (pv 5))) (pa_cons (pe_op op_mulI (pv 5) (pv 8)) pa_nil))) (pg_tup rfl (pgs_cons (pg_name (i := 4) sc_l_differ.nd rfl (Or.inl rfl)) (pgs_cons (pg_name (i := 5) sc_l_differ.nd rfl (Or.inl rfl)) pgs_nil)))))))) (pss_one (ps_ret (pe_cmpR op_ne (pv 4) pe_int (nomark _))))))), ?_⟩
    fail "rd"
    refine ⟨d1, d2, -1, N, f, g, rfl, .inr rfl, hT1, hT2, rf, rg, sf.mono, sg.mono, hN, fun d H1 nd1 s1 hT => ?_⟩
    obtain ⟨kvs, hd, t⟩ := hT
    have hp1 := s1 _ _ hp
    have nz : ∀ z, (f z).2 * (g z).2 ≠ 0 := fun z => Int.mul_ne_zero (by have := (rf z).pos; omega) (by have := (rg z).pos; omega)
    have rr : RedF (sumF (-1) f g) := fun z => nrm_red (nz z)
    fail "rd"
    refine ⟨.inl ⟨d, _, hd, True.intro, fun od => ?_⟩⟩
    have rz : SzF 4000 (sumF (-1) f g) := sumF_sz (.inr rfl) rf rg sf sg
    have t0 := t.mono (R' := TupF (sumF (-1) f g) (upd H1 d (.frz od (.dK kvs)))) (fun _ _ => TupF.keep hd ndt keep_upd) fun _ z => z
    have pz : ∀ ks, Red (partF ks z0 (sumF (-1) f g)).1 (partF ks z0 (sumF (-1) f g)).2 ∧ Sz 4000 (partF ks z0 (sumF (-1) f g)).1 ∧ Sz 4000 (partF ks z0 (sumF (-1) f g)).2 := fun ks => by
      unfold partF
      by_cases c : (Sum.inr z0 : Key) ∈ ks
      · rw [if_pos c]
        exact ⟨rr z0, (rz z0).1, (rz z0).2⟩
      · rw [if_neg c]
        exact ⟨red_one, Sz.zero.mono, Sz.one.mono⟩
    refine ⟨_, rfl, d, od, rfl, .inl ⟨kvs, upd_same, for_names t.k (D := ⟨_, _, fun _ _ => True, fun _ _ => True⟩) (fun i σ' H' => ∃ (v1 v2 v3 : Option V), σ' = [some (.ref d1), some (.ref d2), some (.ref dp), some (.ref d), some (.int (partF ((kvs.take i).map (·.1)) z0 (sumF (-1) f g)).1), some (.int (partF ((kvs.take i).map (·.1)) z0 (sumF (-1) f g)).2), v1, v2, v3] ∧
      Same (upd H1 d (.frz od (.dK kvs))) H') ?_ ?_ ?_ ?_⟩⟩
    · refine ⟨none, none, none, ?_, Same.refl _⟩
      have e : partF ((kvs.take 0).map (·.1)) z0 (sumF (-1) f g) = (0, 1) := if_neg (by simp)
      rw [e]
      rfl
    · rintro i σ' H' _ ⟨_, _, _, _, kp⟩
      exact kp _ _ upd_same
    · rintro i z v σ' H' hi hz hv ⟨v1, v2, v3, rfl, kp⟩
      obtain ⟨tt, rfl, ht⟩ := t0.r z v hv
      have ht := kp _ _ ht
      obtain ⟨pr, zt, zb⟩ := pz ((kvs.take i).map (·.1))
      have hst : partF ((kvs.take (i + 1)).map (·.1)) z0 (sumF (-1) f g) = if z = z0 then sumF (-1) f g z0 else partF ((kvs.take i).map (·.1)) z0 (sumF (-1) f g) := by
        unfold partF
        by_cases c : z = z0
        · rw [if_pos c, if_pos ((take_mem hi).mpr (.inr (by rw [c])))]
        · rw [if_neg c]
          by_cases e : (Sum.inr z0 : Key) ∈ (kvs.take i).map (·.1)
          · rw [if_pos e, if_pos ((take_mem hi).mpr (.inl e))]
          · rw [if_neg e, if_neg fun m => ((take_mem hi).mp m).elim e fun q => c (Sum.inr.inj q).symm]
      have hz0 : z = z0 → partF ((kvs.take i).map (·.1)) z0 (sumF (-1) f g) = (0, 1) := fun e => if_neg fun m => by
        have n1 : ((kvs.take (i + 1)).map (·.1)).Nodup := t.k.nd.sublist ((List.take_sublist _ _).map _)
        rw [List.take_add_one, hi, List.map_append, List.nodup_append] at n1
        exact n1.2.2 _ m _ (List.mem_singleton.mpr rfl) (by rw [e])
      generalize partF ((kvs.take i).map (·.1)) z0 (sumF (-1) f g) = tb at *
      obtain ⟨p1, p2⟩ := rz z
      have rz1 := rr z
      fail "rd"
      refine ⟨d, _, rfl, dget (.inr ⟨od, kp _ _ upd_same⟩) hv, ?_⟩
      have hpk : H' dp = some (.dK ps) := kp _ _ (by rw [upd_ne (ne_of_none hp nd1)]; exact hp1)
      have m1 : IntMulOk tb.1 (sumF (-1) f g z).2 := zt.mok p2
      have m4 : IntMulOk tb.2 (sumF (-1) f g z).2 := zb.mok p2
      fail "rd"
      refine ⟨.inl ⟨ps, .inl hpk⟩, ?_⟩
      fail "rd"
      refine ⟨_, dget_at (.inl hpk), ?_⟩
      have pv : ∃ c : Int, (valV ps (.inr z)).getD (.int 0) = .int c ∧ c = if z = z0 then 1 else 0 := by
        have q := hps z hz
        by_cases c : z = z0
        · rw [if_pos c] at q
          exact ⟨1, by rw [q]; rfl, by rw [if_pos c]⟩
        · rw [if_neg c] at q
          rcases q with q | q
          · exact ⟨0, by rw [q]; rfl, by rw [if_neg c]⟩
          · exact ⟨0, by rw [q]; rfl, by rw [if_neg c]⟩
      obtain ⟨c, ec, hc⟩ := pv
      rw [ec]
      have zc : Sz 1 c := by
        rw [hc]
        split
        · exact Sz.one
        · exact Sz.zero
      have m2 : IntMulOk (sumF (-1) f g z).1 c := p1.mok zc
      have m3 : IntMulOk ((sumF (-1) f g z).1 * c) tb.2 := (p1.mul zc).mok zb
      fail "rd"
      have b0 : tb.2 * (sumF (-1) f g z).2 ≠ 0 := Int.mul_ne_zero (by have := pr.pos; omega) (by have := rz1.pos; omega)
      have he : nrm (tb.1 * (sumF (-1) f g z).2 + (sumF (-1) f g z).1 * c * tb.2) (tb.2 * (sumF (-1) f g z).2) = partF ((kvs.take (i + 1)).map (·.1)) z0 (sumF (-1) f g) := by
        rw [hst]
        by_cases e : z = z0
        · rw [if_pos e, hc, if_pos e, hz0 e, ← e]
          show nrm (0 * _ + _ * 1 * 1) (1 * _) = _
          rw [Int.zero_mul, Int.zero_add, Int.mul_one, Int.mul_one, Int.one_mul]
          exact nrm_id rz1
        · rw [if_neg e, hc, if_neg e, Int.mul_zero, Int.zero_mul, Int.add_zero]
          rw [nrm_same (c := tb.1) (d := tb.2) b0 (by have := pr.pos; omega) (by rw [Int.mul_assoc, Int.mul_comm tb.2])]
          exact nrm_id pr
      refine ⟨b0, (zb.mul p2).lg, fun p3 H8 s8 n8 e8 => ?_⟩
      rw [he] at e8
      fail "rd"
      exact ⟨_, _, _, rfl, kp.trans s8⟩
    · rintro σ' H' ⟨v1, v2, v3, rfl, kp⟩
      refine ⟨kp _ _ upd_same, ?_⟩
      fail "rd"
      have e0 : (Sum.inr z0 : Key) ∈ (kvs.take kvs.length).map (·.1) := by
        rw [List.take_length]
        refine Classical.byContradiction fun n => h0 ?_
        have q : sumF (-1) f g z0 = (0, 1) := t.z z0 (valV_none.mpr n)
        rw [sumF_sub rg] at q
        exact (sub_0 (rf z0) (rg z0)).mp (by rw [show addP (f z0) (mulP (g z0) (-1, 1)) = (0, 1) from q])
      have e1 : partF ((kvs.take kvs.length).map (·.1)) z0 (sumF (-1) f g) = sumF (-1) f g z0 := if_pos e0
      have n1 : (sumF (-1) f g z0).1 ≠ 0 := fun q => h0 (by
        rw [sumF_sub rg] at q
        exact (sub_0 (rf z0) (rg z0)).mp q)
      rw [e1]
      show Q (.bl (!decide (V.int _ = V.int 0))) _
      rw [decide_eq_false fun q => n1 (V.int.inj q)]
      exact k _ (s1.trans (same_lock hd kp))

abbrev s_l_number : Stmt := top 22
theorem sc_l_number : FnScope ["_law_value"] ["_law_value"] (defScope s_l_number) := ⟨rfl, rfl, rfl, by decide +kernel, rfl, by decide +kernel, by decide +kernel⟩
def sp_l_number (_ : PySem.W.Frag) (_ : Nat → Addr) : Sp := fun vs H Q _ => ∃ i : Int, vs = [.int i] ∧ Q (.bl true) H
theorem ok_l_number {f : Addr} {fd : FuncData} (F : Fun K "_law_number" "_law_number" s_l_number f fd) (T : Txt K mg ca)  : FnOk P w K mg base (L2.CX P w) 1 f fd ["_law_value"] (sp_l_number K ca) := by
  refine F.okX sc_l_number (fun vs H Q E h => ?_) (fun cdv A outer s H vs Q E hr h => ?_)
  · obtain ⟨_, rfl, _⟩ := h
    rfl
  · obtain ⟨i, rfl, k⟩ := h
    refine ⟨_, pss_one (ps_ret (pe_and (pe_callB call_isi (by rfl) T.b_isinstance (by decide +kernel) (pa_cons (pv 0) (pa_cons (pe_bltn (v := .ty "int") (by rfl) T.b_int (by decide +kernel) rfl) pa_nil))) (pe_one (pe_not (pe_callB call_isi (by rfl) T.b_isinstance (by decide +kernel) (pa_cons (pv 0) (pa_cons (pe_bltn (v := .ty "bool") (by rfl) T.b_bool (by decide +kernel) rfl) pa_nil))))))), ?_⟩
    fail "rd"
    refine ⟨_, _, _, _, true, rfl, .ty "int", .base (.int _), kit_ty (by decide +kernel), ?_⟩
    fail "rd"
    refine ⟨_, _, _, _, false, rfl, .ty "bool", .base (.int _), kit_ty (by decide +kernel), ?_⟩
    fail "rd"
    exact k

abbrev s_l_told_right : Stmt := top 32
theorem sc_l_told_right : FnScope ["_law_told", "_law_one", "_law_other", "_law_had", "_law_name"] ["_law_told", "_law_one", "_law_other"] (defScope s_l_told_right) := ⟨rfl, rfl, rfl, by decide +kernel, rfl, by decide +kernel, by decide +kernel⟩
def sp_l_told_right (_ : PySem.W.Frag) (ca : Nat → Addr) : Sp := fun vs H Q _ => ∃ (dt d1 d2 : Addr) (N : List Str) (f g : Fm) (z0 : Str) (ps : List (Key × V)), vs = [.ref dt, .ref d1, .ref d2] ∧ TabAt H d1 N f ∧ TabAt H d2 N g ∧ RedF f ∧ RedF g ∧ SzF 900 f ∧ SzF 900 g ∧ Uni N ∧ N.length ≤ 12 ∧
  H dt = some (.dK ps) ∧ f z0 ≠ g z0 ∧ KOk N ps ∧ (∀ z, z ∈ N → (valV ps (.inr z) = if z = z0 then some (.int 1) else if (f z).1 ≠ 0 ∨ (g z).1 ≠ 0 then some (.int 0) else none)) ∧ ∀ H' : Hp, Same H H' → Q (.bl true) H'
theorem ok_l_told_right {f : Addr} {fd : FuncData} (F : Fun K "_law_told_right" "_law_told_right" s_l_told_right f fd) (T : Txt K mg ca) (O__law_differ : Own P w K mg base 4 "_law_differ" ["_law_one", "_law_other", "_law_prices"] (sp_l_differ K ca)) (O__law_number : Own P w K mg base 1 "_law_number" ["_law_value"] (sp_l_number K ca)) : FnOk P w K mg base (L2.CX P w) 5 f fd ["_law_told", "_law_one", "_law_other"] (sp_l_told_right K ca) := by
  refine F.okX sc_l_told_right (fun vs H Q E h => ?_) (fun cdv A outer s H vs Q E hr h => ?_)
  · obtain ⟨_, _, _, _, _, _, _, _, rfl, _⟩ := h
    rfl
  · obtain ⟨dt, d1, d2, N, f, g, z0, ps, rfl, hT1, hT2, rf, rg, sf, sg, hN, h12, hp, h0, hk, hps, k⟩ := h
    refine ⟨_, pss_cons (ps_set (i := 3) sc_l_told_right.nd rfl (Or.inl rfl) (pe_op op_cat (pe_lk (pe_lc (own := [("_law_name", 4)]) (g := gName 4) rfl sc_l_told_right.nd (pi_keys (pv 1)) (blkOk_by (N := ["_law_told", "_law_one", "_law_other", "_law_had", "_law_name"]) (sc := defScope s_l_told_right) (by decide +kernel)) (fun _ _ _ _ _ => pg_name (i := 4) sc_l_told_right.nd rfl (Or.inl rfl)) (fun _ _ _ _ _ => pts_one (pt_cmpR op_ne (pe_ix (r := rIxT K) ix_tup (pe_dget (hu_of (hr.mono (Nat.zero_le _))) (pv 1) (pv 4) (fun _ _ => rfl)) pe_int (fun _ _ => rfl)) pe_int (nomark _))) (fun _ _ _ _ _ => pv 4))) (pe_lk (pe_lc (own := [("_law_name", 4)]) (g := gName 4) rfl sc_l_told_right.nd (pi_keys (pv 2)) (blkOk_by (N := ["_law_told", "_law_one", "_law_other", "_law_had", "_law_name"]) (sc := defScope s_l_told_right) (by decide +kernel)) (fun _ _ _ _ _ => pg_name (i := 4) sc_l_told_right.nd rfl (Or.inl rfl)) (fun _ _ _ _ _ => pts_one (pt_cmpR op_ne (pe_ix (r := rIxT K) ix_tup (pe_dget (hu_of (hr.mono (Nat.zero_le _))) (pv 2) (pv 4) (fun _ _ => rfl)) pe_int (fun _ _ => rfl)) pe_int (nomark _))) (fun _ _ _ _ _ => pv 4))))) (pss_cons (ps_if (PW.pt (pw_or (pt_not (pt_val (pe_callB call_isi (by rfl) T.b_isinstance (by decide +kernel) (pa_cons (pv 0) (pa_cons (pe_bltn (v := .ty "dict") (by rfl) T.b_dict (by decide +kernel) rfl) pa_nil))))) (pw_or1 (pt_cmpR (op_neD (Room.units (hr.mono (Nat.zero_le _)))) (pe_callB (call_sortedD rfl) (by rfl) T.b_sorted (by decide +kernel) (pa_cons (pv 0) pa_nil)) (pe_callB (cr_sortedQ rfl) (by rfl) T.b_sorted (by decide +kernel) (pa_cons (pe_callTy (cr_setOfS rfl) (by rfl) T.b_set (by decide +kernel) (pa_cons (pv 3) pa_nil)) pa_nil)) (nomark _))))) (pss_one (ps_ret pe_bl)) pss_nil) (pss_cons (ps_if (pt_not (pt_val (pe_callB (cr_all rfl) (by rfl) T.b_all (by decide +kernel) (pa_cons (pe_lk (pe_lc (own := [("_law_name", 4)]) (g := gName 4) (tt := tYes) rfl sc_l_told_right.nd (pi_keys (pv 0)) (blkOk_by (N := ["_law_told", "_law_one", "_law_other", "_law_had", "_law_name"]) (sc := defScope s_l_told_right) (by decide +kernel)) (fun _ _ _ _ _ => pg_name (i := 4) sc_l_told_right.nd rfl (Or.inl rfl)) (fun _ _ _ _ _ => pts_nil) (fun _ _ _ _ _ => pe_and (pe_own O__law_number (hr.mono (by decide)) rfl pas0 (pa_cons (pe_dget (hu_of (hr.mono (Nat.zero_le _))) (pv 0) (pv 4) (fun _ _ => rfl)) pa_nil)) (pe_one (pe_cmpR (show OpR _ _ (rIn K false) from op_in_seq) (pe_dget (hu_of (hr.mono (Nat.zero_le _))) (pv 0) (pv 4) (fun _ _ => rfl)) (pe_lst (pa_cons pe_int (pa_cons pe_int pa_nil))) (by with_unfolding_all rfl)))))) pa_nil)))) (pss_one (ps_ret pe_bl)) pss_nil) (pss_one (ps_ret (pe_own O__law_differ (hr.mono (by decide)) rfl pas0 (pa_cons (pv 1) (pa_cons (pv 2) (pa_cons (pv 0) pa_nil)))))))), ?_⟩
    obtain ⟨kv1, hd1, t1⟩ := id hT1
    obtain ⟨kv2, hd2, t2⟩ := id hT2
    have t01 := fun od => t1.mono (R' := TupF f (upd H d1 (.frz od (.dK kv1)))) (fun _ _ => TupF.keep hd1 ndt keep_upd) fun _ z => z
    fail "rd"
    refine ⟨.inl ⟨d1, _, hd1, True.intro, fun od => ?_⟩⟩
    replace t01 := t01 od
    refine ⟨_, rfl, d1, od, rfl, .inl ⟨kv1, upd_same, fun D nD => lc_names t1.k (fun i H' => ∃ acc : List Str, H' D = some (.lst (acc.map V.str)) ∧ Same (upd H d1 (.frz od (.dK kv1))) H' ∧ acc.length ≤ i ∧ ∀ z, z ∈ acc ↔ (Sum.inr z : Key) ∈ (kv1.take i).map (·.1) ∧ (f z).1 ≠ 0)
      ⟨[], upd_same, same_upd nD, Nat.le_refl _, fun z => by simp⟩ (fun i H' _ ⟨_, _, s, _⟩ => s _ _ upd_same) ?_ ?_⟩⟩
    · rintro i z v H' hi hz hv ⟨acc, hD, sH, hl, hc⟩
      obtain ⟨tt, rfl, ht⟩ := t01.r z v hv
      have ht := sH _ _ ht
      have hi12 : i < 12 := by
        have := (List.getElem?_eq_some_iff.mp hi).1
        have := t1.k.len
        omega
      fail "rd"
      refine ⟨d1, _, rfl, dget (.inr ⟨od, sH _ _ upd_same⟩) hv, ?_⟩
      fail "rd"
      refine iteDn (fun c => ?_) (fun c => ?_)
      · fail "rd"
        refine ⟨_, hD, by rw [List.length_map]; exact size_line (by omega), acc ++ [z], by rw [strs_snoc]; exact upd_same, same_put nD sH, by rw [List.length_append]; exact Nat.add_le_add_right hl 1, fun y => ?_⟩
        rw [List.mem_append, hc, take_mem hi, List.mem_singleton]
        constructor
        · rintro (⟨a, b⟩ | rfl)
          · exact ⟨.inl a, b⟩
          · exact ⟨.inr rfl, fun e => c (congrArg V.int e)⟩
        · rintro ⟨a | a, b⟩
          · exact .inl ⟨a, b⟩
          · exact .inr (Sum.inr.inj a)
      · refine ⟨acc, hD, sH, by omega, fun y => ?_⟩
        rw [hc, take_mem hi]
        constructor
        · rintro ⟨a, b⟩
          exact ⟨.inl a, b⟩
        · rintro ⟨a | a, b⟩
          · exact ⟨a, b⟩
          · cases a
            exact absurd (V.int.inj c) b
    · rintro H' ⟨acc, hD, sH, hl, hc⟩
      refine ⟨sH _ _ upd_same, ?_⟩
      rw [List.take_length] at hc
      have sA := same_lock hd1 sH
      have nDd : D ≠ d1 := fun e => by rw [e, upd_same] at nD; cases nD
      have hD2 : upd H' d1 (.dK kv1) D = some (.lst (acc.map V.str)) := by rw [upd_ne nDd]; exact hD
      clear hD nD sH
      generalize upd H' d1 (.dK kv1) = H3 at *
      have hd2 := sA _ _ hd2
      have t02 := fun od => t2.mono (R' := TupF g (upd H3 d2 (.frz od (.dK kv2)))) (fun _ _ h => TupF.keep hd2 ndt keep_upd (TupF.same sA h)) fun _ z => z
      refine ⟨.inl ⟨d2, _, hd2, True.intro, fun od2 => ?_⟩⟩
      replace t02 := t02 od2
      refine ⟨_, rfl, d2, od2, rfl, .inl ⟨kv2, upd_same, fun D2 nD2 => lc_names t2.k (fun i H' => ∃ acc : List Str, H' D2 = some (.lst (acc.map V.str)) ∧ Same (upd H3 d2 (.frz od2 (.dK kv2))) H' ∧ acc.length ≤ i ∧ ∀ z, z ∈ acc ↔ (Sum.inr z : Key) ∈ (kv2.take i).map (·.1) ∧ (g z).1 ≠ 0)
        ⟨[], upd_same, same_upd nD2, Nat.le_refl _, fun z => by simp⟩ (fun i H' _ ⟨_, _, s, _⟩ => s _ _ upd_same) ?_ ?_⟩⟩
      · rintro i z v H' hi hz hv ⟨acc2, hD, sH, hl, hc⟩
        obtain ⟨tt, rfl, ht⟩ := t02.r z v hv
        have ht := sH _ _ ht
        have hi12 : i < 12 := by
          have := (List.getElem?_eq_some_iff.mp hi).1
          have := t2.k.len
          omega
        fail "rd"
        refine ⟨d2, _, rfl, dget (.inr ⟨od2, sH _ _ upd_same⟩) hv, ?_⟩
        fail "rd"
        refine iteDn (fun c => ?_) (fun c => ?_)
        · fail "rd"
          refine ⟨_, hD, by rw [List.length_map]; exact size_line (by omega), acc2 ++ [z], by rw [strs_snoc]; exact upd_same, same_put nD2 sH, by rw [List.length_append]; exact Nat.add_le_add_right hl 1, fun y => ?_⟩
          rw [List.mem_append, hc, take_mem hi, List.mem_singleton]
          constructor
          · rintro (⟨a, b⟩ | rfl)
            · exact ⟨.inl a, b⟩
            · exact ⟨.inr rfl, fun e => c (congrArg V.int e)⟩
          · rintro ⟨a | a, b⟩
            · exact .inl ⟨a, b⟩
            · exact .inr (Sum.inr.inj a)
        · refine ⟨acc2, hD, sH, by omega, fun y => ?_⟩
          rw [hc, take_mem hi]
          constructor
          · rintro ⟨a, b⟩
            exact ⟨.inl a, b⟩
          · rintro ⟨a | a, b⟩
            · exact ⟨a, b⟩
            · cases a
              exact absurd (V.int.inj c) b
      · rintro H' ⟨acc2, hDb, sH, hl2, hc2⟩
        refine ⟨sH _ _ upd_same, ?_⟩
        rw [List.take_length] at hc2
        have sB := sA.trans (same_lock hd2 sH)
        have nDb : D2 ≠ d2 := fun e => by rw [e, upd_same] at nD2; cases nD2
        have hDb2 : upd H' d2 (.dK kv2) D2 = some (.lst (acc2.map V.str)) := by rw [upd_ne nDb]; exact hDb
        have hD2 := same_lock hd2 sH _ _ hD2
        clear hDb nD2 sH
        generalize upd H' d2 (.dK kv2) = H4 at *
        have l1 := t1.k.len
        have l2 := t2.k.len
        refine ⟨_, _, _, _, rfl, rfl, hD2, hDb2, by rw [List.length_map, List.length_map]; exact size_le (by omega), ?_⟩
        intro lh n_lh
        generalize g_H5 : upd _ lh _ = H5
        obtain ⟨s_H5, e_lh⟩ := gen_new n_lh g_H5
        clear g_H5
        rw [← List.map_append] at e_lh
        fail "rd"
        have hpt : H5 dt = some (.dK ps) := s_H5 _ _ (sB _ _ hp)
        obtain ⟨ks, ek, nk, hmk, hlk⟩ := hk.names
        have hk12 := hk.len
        refine ⟨_, _, _, _, true, rfl, .ty "dict", .base (.dK hpt), kit_ty (by decide +kernel), ?_⟩
        fail "rd"
        refine ⟨dt, ps, ks, rfl, .inl hpt, ek, by omega, fun ys ly pm so n_ly => ?_⟩
        generalize g_H6 : upd _ ly _ = H6
        obtain ⟨s_H6, e_ly⟩ := gen_new n_ly g_H6
        clear g_H6
        fail "rd"
        refine ⟨lh, acc ++ acc2, rfl, SqL.of (s_H6 _ _ e_lh), by rw [List.length_append]; omega, ?_⟩
        intro st n_st
        generalize g_H7 : upd _ st _ = H7
        obtain ⟨s_H7, e_st⟩ := gen_new n_st g_H7
        clear g_H7
        fail "rd"
        refine ⟨st, acc ++ acc2, rfl, e_st, by rw [List.length_append]; omega, fun ys2 lz so2 nd2 mem2 n_lz => ?_⟩
        generalize g_H8 : upd _ lz _ = H8
        obtain ⟨s_H8, e_lz⟩ := gen_new n_lz g_H8
        clear g_H8
        fail "rd"
        have m1 : ∀ z, z ∈ acc ↔ (f z).1 ≠ 0 := fun z => by
          rw [hc]
          refine ⟨fun h => h.2, fun h => ⟨Classical.byContradiction fun n => ?_, h⟩⟩
          exact h (by rw [show f z = (0, 1) from t1.z z (valV_none.mpr n)])
        have m2 : ∀ z, z ∈ acc2 ↔ (g z).1 ≠ 0 := fun z => by
          rw [hc2]
          refine ⟨fun h => h.2, fun h => ⟨Classical.byContradiction fun n => ?_, h⟩⟩
          exact h (by rw [show g z = (0, 1) from t2.z z (valV_none.mpr n)])
        have fg0 : (f z0).1 ≠ 0 ∨ (g z0).1 ≠ 0 := Classical.byContradiction fun n => by
          have a : (f z0).1 = 0 := Classical.byContradiction fun c => n (.inl c)
          have b : (g z0).1 = 0 := Classical.byContradiction fun c => n (.inr c)
          exact h0 (Prod.ext (a.trans b.symm) (((rf z0).zero a).trans ((rg z0).zero b).symm))
        have mk : ∀ z, z ∈ ks ↔ (f z).1 ≠ 0 ∨ (g z).1 ≠ 0 := fun z => by
          rw [hmk]
          constructor
          · rintro ⟨v, hv⟩
            obtain ⟨y, hy, e⟩ := hk.mem _ (valV_mem hv)
            cases e
            rw [hps z hy] at hv
            by_cases c : z = z0
            · rw [c]; exact fg0
            · rw [if_neg c] at hv
              exact Classical.byContradiction fun n => by rw [if_neg n] at hv; cases hv
          · intro h
            have hy : z ∈ N := Classical.byContradiction fun c => by
              rcases h with n | n
              · exact n (by rw [show f z = (0, 1) from hT1.off c])
              · exact n (by rw [show g z = (0, 1) from hT2.off c])
            rw [hps z hy]
            by_cases c : z = z0
            · exact ⟨_, if_pos c⟩
            · rw [if_neg c]
              exact ⟨_, if_pos h⟩
        have ey : ys = ys2 := pw_uniq (sorted_pw so) (sorted_pw so2) (pm.nodup_iff.mpr nk) nd2 fun z => by rw [pm.mem_iff, mk, mem2, List.mem_append, m1, m2]
        have lety : ∀ z ∈ ys, Lets z := fun z m => by
          obtain ⟨v, hv⟩ := (hmk z).mp (pm.mem_iff.mp m)
          obtain ⟨y, hy, e⟩ := hk.mem _ (valV_mem hv)
          cases e
          exact (hN.ok z hy).ls
        rw [← ey] at e_lz
        have s58 : Same H5 H8 := s_H6.trans (s_H7.trans s_H8)
        refine neS (s_H8 _ _ (s_H7 _ _ e_ly)) e_lz lety ⟨false, rfl, iteF ?_⟩
        have hp8 := s58 _ _ hpt
        have sF := (sB.trans s_H5).trans s58
        refine ⟨.inl ⟨dt, _, hp8, True.intro, fun od3 => ?_⟩⟩
        refine ⟨_, rfl, dt, od3, rfl, .inl ⟨ps, upd_same, fun D3 nD3 => lc_names hk (fun i H' => ∃ bs : List Bool, H' D3 = some (.lst (bs.map V.bl)) ∧ Same (upd H8 dt (.frz od3 (.dK ps))) H' ∧ bs.length ≤ i ∧ bs.all id = true)
          ⟨[], upd_same, same_upd nD3, Nat.le_refl _, rfl⟩ (fun i H' _ ⟨_, _, s, _⟩ => s _ _ upd_same) ?_ ?_⟩⟩
        · rintro i z v H' hi hz hv ⟨bs, hD, sH, hl, ha⟩
          have hi12 : i < 12 := by
            have := (List.getElem?_eq_some_iff.mp hi).1
            omega
          obtain ⟨b01, rfl, hb⟩ : ∃ b : Int, v = .int b ∧ (b = 0 ∨ b = 1) := by
            rw [hps z hz] at hv
            split at hv
            · cases hv
              exact ⟨1, rfl, .inr rfl⟩
            · split at hv
              · cases hv
                exact ⟨0, rfl, .inl rfl⟩
              · cases hv
          fail "rd"
          refine ⟨dt, _, rfl, dget (.inr ⟨od3, sH _ _ upd_same⟩) hv, ?_⟩
          fail "rd"
          refine ⟨dt, _, rfl, dget (.inr ⟨od3, sH _ _ upd_same⟩) hv, ?_⟩
          fail "rd"
          intro pl n_pl
          generalize g_H9 : upd _ pl _ = H9
          obtain ⟨s_H9, e_pl⟩ := gen_new n_pl g_H9
          clear g_H9
          refine ⟨pl, _, rfl, .inl (SqL.of e_pl), rfl, rfl, ?_⟩
          have hin : inV (.int b01) [.int 0, .int 1] = true := by rcases hb with rfl | rfl <;> rfl
          rw [hin]
          fail "rd"
          have hD9 := s_H9 _ _ hD
          refine ⟨_, hD9, by rw [List.length_map]; exact size_line (by omega), bs ++ [true], ?_, same_put nD3 (sH.trans s_H9), by rw [List.length_append]; exact Nat.add_le_add_right hl 1, ?_⟩
          · rw [List.map_append]
            exact upd_same
          · rw [List.all_append, ha]
            rfl
        · rintro H' ⟨bs, hD, sH, hl, ha⟩
          refine ⟨sH _ _ upd_same, ?_⟩
          have sG := sF.trans (same_lock hp8 sH)
          have nDd : D3 ≠ dt := fun e => by rw [e, upd_same] at nD3; cases nD3
          have hD2 : upd H' dt (.dK ps) D3 = some (.lst (bs.map V.bl)) := by rw [upd_ne nDd]; exact hD
          clear hD sH nD3
          generalize upd H' dt (.dK ps) = H9 at *
          fail "rd"
          refine ⟨D3, bs, rfl, SqL.of hD2, ?_⟩
          rw [ha]
          refine ⟨true, rfl, iteF ?_⟩
          fail "rd"
          refine ⟨d1, d2, dt, N, f, g, z0, ps, rfl, hT1.same sG, hT2.same sG, rf, rg, sf, sg, hN, sG _ _ hp, h0, fun z hz => ?_, fun H' s' => k H' (sG.trans s')⟩
          have q := hps z hz
          split
          · rename_i c
            rw [q, if_pos c]
          · rename_i c
            rw [q, if_neg c]
            split
            · exact .inl rfl
            · exact .inr rfl

abbrev s_Form_same : Stmt := inClass (top 16) 12
theorem sc_Form_same : FnScope ["self", "other"] ["self", "other"] (defScope s_Form_same) := ⟨rfl, rfl, rfl, by decide +kernel, rfl, by decide +kernel, by decide +kernel⟩
def sp_Form_same (_ : PySem.W.Frag) (ca : Nat → Addr) : Sp := fun vs H Q _ => ∃ (p q : Addr) (N : List Str) (f g : Fm), vs = [.ref p, .ref q] ∧ FormAt ca H p N f ∧ FormAt ca H q N g ∧ Uni N ∧ SzF 3999 f ∧ SzF 3999 g ∧
  ∀ (b : Bool) (H' : Hp), Same H H' → (b = true ↔ ∀ z, f z = g z) → Q (.bl b) H'
theorem ok_Form_same {f : Addr} {fd : FuncData} (F : Fun K "same" "Form.same" s_Form_same f fd) (T : Txt K mg ca) (O_Form___sub__ : OwnM P w K mg base 9 (ca 3) "__sub__" ["self", "other"] (sp_Form_sub K ca)) (O_Form_names : OwnM P w K mg base 1 (ca 3) "names" ["self"] (sp_Form_names K ca)) : FnOk P w K mg base (L2.CX P w) 10 f fd ["self", "other"] (sp_Form_same K ca) := by
  refine F.okX sc_Form_same (fun vs H Q E h => ?_) (fun cdv A outer s H vs Q E hr h => ?_)
  · obtain ⟨_, _, _, _, _, rfl, _⟩ := h
    rfl
  · obtain ⟨p, q, N, f, g, rfl, hF, hG, hN, zf, zg, k⟩ := h
    refine ⟨_, pss_one (ps_ret (pe_notT (pe_ownm0 O_Form_names (pe_op (op_own .sub T.ar_Form O_Form___sub__ (hr.mono (by decide)) passL) (pv 0) (pv 1)) (hr.mono (by decide)) pas0))), ?_⟩
    fail "rd"
    refine fOwn2_of hF hG ⟨p, q, N, f, g, rfl, hF, hG, hN, zf.mono, zg, fun r H1 nr s1 hR => ?_⟩
    obtain ⟨dx, d, er⟩ := hR.ins
    fail "rd"
    refine ⟨r, N, _, rfl, hR, hN, fun ys l H2 ny so hm h60 nl s2 hl => ?_⟩
    refine ⟨!ys.isEmpty, .inl ⟨_, SqL.of hl, by cases ys <;> rfl⟩, ?_⟩
    refine k _ H2 (s1.trans s2) ?_
    rw [Bool.not_not, List.isEmpty_iff]
    constructor
    · rintro rfl z
      exact (sub_0 (hF.red z) (hG.red z)).mp (Classical.byContradiction fun n => nomatch (hm z).mpr n)
    · intro e
      refine List.eq_nil_iff_forall_not_mem.mpr fun z m => (hm z).mp m ((sub_0 (hF.red z) (hG.red z)).mpr (e z))

abbrev s_law : Stmt := top 33
theorem sc_law : FnScope ["_law_script", "_law_bag_here", "_law_names_here", "_law_one", "_law_other", "_law_k", "_law_more", "_law_left", "_law_right", "_law_alike", "_law_turn", "_law_told", "_law_name"] ["_law_script"] (defScope s_law) := ⟨rfl, rfl, rfl, by decide +kernel, rfl, by decide +kernel, by decide +kernel⟩
theorem sumF_szn {n m : Nat} {s : Int} {f g : Fm} (hs : s = 1 ∨ s = -1) (rf : RedF f) (rg : RedF g) (zf : SzF n f) (zg : SzF m g) : SzF (n + m + (1 + m + n) + 1) (sumF s f g) := fun z => by
  have zs : Sz 1 s := by
    rcases hs with rfl | rfl
    · exact Sz.one
    · exact Sz.one.neg
  have k : (f z).2 * (g z).2 ≠ 0 := Int.mul_ne_zero (by have := (rf z).pos; omega) (by have := (rg z).pos; omega)
  exact ⟨(((zf z).1.mul (zg z).2).add ((zs.mul (zg z).1).mul (zf z).2)).le (nrm_le1 k), (((zf z).2.mul (zg z).2).mono (by omega)).le (nrm_le2 k)⟩
theorem zero_red : RedF fun _ => (0, 1) := fun _ => red_one
theorem zero_sz {n : Nat} (h : 1 ≤ n := by decide) : SzF n fun _ => (0, 1) := fun _ => ⟨Sz.zero.mono h, Sz.one.mono h⟩
/-- what parting tells, of heap H, told from heap H0 on -/
def Told (N : List Str) (f g : Fm) (H0 H : Hp) (v : V) : Prop := ((∀ z, f z = g z) ∧ v = .non) ∨ ∃ (d : Addr) (z0 : Str) (kvs : List (Key × V)), H0 d = none ∧ v = .ref d ∧ H d = some (.dK kvs) ∧ f z0 ≠ g z0 ∧ KOk N kvs ∧
    (∀ z, z ∈ N → (valV kvs (.inr z) = if z = z0 then some (.int 1) else if (f z).1 ≠ 0 ∨ (g z).1 ≠ 0 then some (.int 0) else none))
theorem Told.same {N : List Str} {f g : Fm} {H0 H H' : Hp} {v : V} (h : Told N f g H0 H v) (s : Same H H') : Told N f g H0 H' v := by
  rcases h with h | ⟨d, z0, kvs, a, b, c, r⟩
  · exact .inl h
  · exact .inr ⟨d, z0, kvs, a, b, s _ _ c, r⟩
theorem Told.swap {N : List Str} {f g : Fm} {H0 H : Hp} {v : V} (h : Told N g f H0 H v) : Told N f g H0 H v := by
  rcases h with ⟨h, e⟩ | ⟨d, z0, kvs, a, b, c, n, k, r⟩
  · exact .inl ⟨fun z => (h z).symm, e⟩
  · refine .inr ⟨d, z0, kvs, a, b, c, n.symm, k, fun z m => ?_⟩
    rw [r z m]
    simp only [or_comm]
theorem ok_law {f : Addr} {fd : FuncData} (F : Fun K "law" "law" s_law f fd) (T : Txt K mg ca) (O__law_bag : Own P w K mg base 1 "_law_bag" ["_law_script"] (sp_l_bag K ca)) (O__law_names : Own P w K mg base 2 "_law_names" ["_law_bag_here", "_law_count", "_law_words"] (sp_l_names K ca)) (O__law_shares : Own P w K mg base 4 "_law_shares" ["_law_bag_here", "_law_names_here"] (sp_l_shares K ca)) (O__law_draw : Own P w K mg base 1 "_law_draw" ["_law_bag_here", "_law_size"] (sp_l_draw K ca)) (O__law_handed : Own P w K mg base 3 "_law_handed" ["_law_bag_here", "_law_shares_here"] (sp_l_handed K ca)) (O__law_share : Own P w K mg base 3 "_law_share" ["_law_bag_here"] (sp_l_share K ca)) (O__law_sum : Own P w K mg base 3 "_law_sum" ["_law_one", "_law_other", "_law_sign"] (sp_l_sum K ca)) (O_parting : Own P w K mg base 10 "parting" ["one", "other"] (sp_parting K ca)) (O__law_pick : Own P w K mg base 2 "_law_pick" ["_law_bag_here", "_law_items"] (sp_l_pick K ca)) (O__law_told_right : Own P w K mg base 5 "_law_told_right" ["_law_told", "_law_one", "_law_other"] (sp_l_told_right K ca)) (O_Form_1 : OwnI P w K mg base 5 "Form" (ca 3) ["self", "shares"] [] (sp_Form_init K ca)) (O_Form_0 : OwnI P w K mg base 5 "Form" (ca 3) ["self", "shares"] [.non] (sp_Form_init K ca)) (O_Form_same : OwnM P w K mg base 10 (ca 3) "same" ["self", "other"] (sp_Form_same K ca)) : FnOk P w K mg base (L2.CX P w) 11 f fd ["_law_script"] (sp_law K ca) := by
  refine F.okX sc_law (fun vs H Q E h => ?_) (fun cdv A outer s H vs Q E hr h => ?_)
  · obtain ⟨_, _, rfl, _⟩ := h
    rfl
  · obtain ⟨s0, ns, rfl, hs, k⟩ := h
    refine ⟨_, pss_cons (ps_set (i := 1) sc_law.nd rfl (Or.inl rfl) (pe_own O__law_bag (hr.mono (by decide)) rfl pas0 (pa_cons (pv 0) pa_nil))) (pss_cons (ps_set (i := 2) sc_law.nd rfl (Or.inl rfl) (pe_own O__law_names (hr.mono (by decide)) rfl pas0 (pa_cons (pv 1) (pa_cons (pe_op op_add pe_int (pe_own O__law_draw (hr.mono (by decide)) rfl pas0 (pa_cons (pv 1) (pa_cons pe_int pa_nil)))) (pa_cons (pe_lst (pa_cons pe_str (pa_cons pe_str (pa_cons pe_str (pa_cons pe_str pa_nil))))) pa_nil))))) (pss_cons (ps_set (i := 3) sc_law.nd rfl (Or.inr rfl) (pe_own O__law_shares (hr.mono (by decide)) rfl pas0 (pa_cons (pv 1) (pa_cons (pv 2) pa_nil)))) (pss_cons (ps_set (i := 4) sc_law.nd rfl (Or.inr rfl) (pe_own O__law_shares (hr.mono (by decide)) rfl pas0 (pa_cons (pv 1) (pa_cons (pv 2) pa_nil)))) (Evl.pss_cut (ps_if (pt_cmpR op_eq (pe_own O__law_draw (hr.mono (by decide)) rfl pas0 (pa_cons (pv 1) (pa_cons pe_int pa_nil))) pe_int (nomark _)) (pss_cons (ps_set (i := 4) sc_law.nd rfl (Or.inr rfl) (pe_callTy call_dictD (by rfl) T.b_dict (by decide +kernel) (pa_cons (pv 3) pa_nil))) (pss_cons (ps_for (passes_of rfl) rfl (pi_range1 rfl T.b_range (pa_cons (pe_own O__law_draw (hr.mono (by decide)) rfl pas0 (pa_cons (pv 1) (pa_cons pe_int pa_nil))) pa_nil)) (pg_name (i := 5) sc_law.nd rfl (Or.inl rfl)) (pss_one (ps_dput (hu_of (hr.mono (Nat.zero_le _))) (pv 4) (pe_own O__law_pick (hr.mono (by decide)) rfl pas0 (pa_cons (pv 1) (pa_cons (pv 2) pa_nil))) (pe_own O__law_share (hr.mono (by decide)) rfl pas0 (pa_cons (pv 1) pa_nil)) rfl))) (pss_one (ps_if (pt_cmpR op_eq (pe_own O__law_draw (hr.mono (by decide)) rfl pas0 (pa_cons (pv 1) (pa_cons pe_int pa_nil))) pe_int (nomark _)) (pss_cons (ps_set (i := 6) sc_law.nd rfl (Or.inl rfl) (pe_own O__law_share (hr.mono (by decide)) rfl pas0 (pa_cons (pv 1) pa_nil))) (pss_one (ps_set (i := 4) sc_law.nd rfl (Or.inr rfl) (pe_own O__law_sum (hr.mono (by decide)) rfl pas0 (pa_cons (pe_own O__law_sum (hr.mono (by decide)) rfl pas0 (pa_cons (pv 3) (pa_cons (pe_disp (pps_cons (pe_own O__law_pick (hr.mono (by decide)) rfl pas0 (pa_cons (pv 1) (pa_cons (pv 2) pa_nil))) (pv 6) pps_nil) (by rfl) (by rfl) (fun z => by cases z) (by decide)) (pa_cons pe_int pa_nil)))) (pa_cons (pe_disp (pps_cons (pe_own O__law_pick (hr.mono (by decide)) rfl pas0 (pa_cons (pv 1) (pa_cons (pv 2) pa_nil))) (pv 6) pps_nil) (by rfl) (by rfl) (fun z => by cases z) (by decide)) (pa_cons (pe_un un_neg pe_int) pa_nil))))))) pss_nil)))) pss_nil) (pss_cons (ps_set (i := 7) sc_law.nd rfl (Or.inl rfl) (pe_owni O_Form_1 (hr.mono (by decide)) rfl pas0 (pa_cons (pe_own O__law_handed (hr.mono (by decide)) rfl pas0 (pa_cons (pv 1) (pa_cons (pv 3) pa_nil))) pa_nil))) (pss_cons (ps_set (i := 8) sc_law.nd rfl (Or.inl rfl) (pe_owni O_Form_1 (hr.mono (by decide)) rfl pas0 (pa_cons (pe_own O__law_handed (hr.mono (by decide)) rfl pas0 (pa_cons (pv 1) (pa_cons (pv 4) pa_nil))) pa_nil))) (pss_cons (ps_set (i := 9) sc_law.nd rfl (Or.inl rfl) (pe_callB (cr_all rfl) (by rfl) T.b_all (by decide +kernel) (pa_cons (pe_lc (own := [("_law_name", 12)]) (g := gName 12) (tt := tYes) rfl sc_law.nd (pi_list (pv 2)) (blkOk_by (N := ["_law_script", "_law_bag_here", "_law_names_here", "_law_one", "_law_other", "_law_k", "_law_more", "_law_left", "_law_right", "_law_alike", "_law_turn", "_law_told", "_law_name"]) (sc := defScope s_law) (by decide +kernel)) (fun _ _ _ _ _ => pg_name (i := 12) sc_law.nd rfl (Or.inl rfl)) (fun _ _ _ _ _ => pts_nil) (fun _ _ _ _ _ => pe_cmpR (show OpR _ _ (rEqD K) from op_eqD (Room.units (hr.mono (Nat.zero_le _)))) (pe_dget2 (hu_of (hr.mono (Nat.zero_le _))) (pv 3) (pv 12) (pe_tup (pa_cons pe_int (pa_cons pe_int pa_nil))) ⟨rfl, rfl, rfl, rfl⟩) (pe_dget2 (hu_of (hr.mono (Nat.zero_le _))) (pv 4) (pv 12) (pe_tup (pa_cons pe_int (pa_cons pe_int pa_nil))) ⟨rfl, rfl, rfl, rfl⟩) (nomark _))) pa_nil))) (pss_cons (ps_for (passes_of rfl) rfl (pi_range1 rfl T.b_range (pa_cons pe_int pa_nil)) (pg_name (i := 10) sc_law.nd rfl (Or.inl rfl)) (pss_one (ps_for (passes_of rfl) rfl (pi_list (pe_lst (pa_cons (pe_own O_parting (hr.mono (by decide)) rfl pas0 (pa_cons (pv 7) (pa_cons (pv 8) pa_nil))) (pa_cons (pe_own O_parting (hr.mono (by decide)) rfl pas0 (pa_cons (pv 8) (pa_cons (pv 7) pa_nil))) pa_nil)))) (pg_name (i := 11) sc_law.nd rfl (Or.inl rfl)) (pss_cons (ps_if (PW.pt (pw_or (PW.pt (pw_and (pt_val (pv 9)) (pw_and1 (pt_cmpR op_notN (pv 11) pe_non (nomark _))))) (pw_or1 (PW.pt (pw_and (pt_not (pt_val (pv 9))) (pw_and1 (pt_cmpR op_isN (pv 11) pe_non (nomark _)))))))) (pss_one (ps_ret pe_bl)) pss_nil) (pss_one (ps_if (pt_cmpR op_notN (pv 11) pe_non (nomark _)) (pss_cons (ps_if (pt_not (pt_val (pe_own O__law_told_right (hr.mono (by decide)) rfl pas0 (pa_cons (pv 11) (pa_cons (pv 3) (pa_cons (pv 4) pa_nil)))))) (pss_one (ps_ret pe_bl)) pss_nil) (pss_one (ps_expr (pe_bm0 PySem.F.plainAttrs_dict PySem.F.slot_dict_clear PySem.F.type_dict_clear mtd_clear (pv 11))))) pss_nil)))))) (pss_one (ps_ret (pe_and (pe_cmpR op_eq (pe_ownm O_Form_same (pv 7) (hr.mono (by decide)) pas0 (pa_cons (pv 8) pa_nil)) (pv 9) (nomark _)) (pe_one (pe_cmpR op_isN (pe_own O_parting (hr.mono (by decide)) rfl pas0 (pa_cons (pv 7) (pa_cons (pv 7) pa_nil))) pe_non (nomark _)))))))))))))), ?_⟩
    refine ⟨_, rfl, s0, ns, rfl, hs, fun L bag H1 nb nL s1 B1 => ?_⟩
    fail "rd"
    refine ⟨L, B1, by decide, by decide, fun c H2 c0 c1 k2 B2 => ?_⟩
    fail "rd"
    intro lw n_lw
    generalize g_H3 : upd _ lw _ = H3
    obtain ⟨s_H3, e_lw⟩ := gen_new n_lw g_H3
    clear g_H3
    have B3 := B2.same s_H3
    obtain ⟨n, rfl⟩ := Int.eq_ofNat_of_zero_le c0
    fail "rd"
    refine ⟨bag, lw, 1 + n, ["silk", "form", "names", "share"], rfl, L, B3, e_lw, B2.ne n_lw, namesB_ok (by decide +kernel), by simp, by simp, by omega, by omega, fun N ln H4 hlen hok n4 k4 B4 e4 => ?_⟩
    have hN : Uni N := ⟨by omega, hok⟩
    have lb : ln ≠ bag := B3.ne n4
    fail "rd"
    refine ⟨bag, ln, N, rfl, L, B4, e4, lb, hN, fun f d1 H5 rf sf hT1 k5 B5 n5 => ?_⟩
    have e4 := k5 _ _ e4 lb
    fail "rd"
    refine ⟨bag, ln, N, rfl, L, B5, e4, lb, hN, fun g d2 H6 rg sg hT2 k6 B6 n6 => ?_⟩
    have e4 := k6 _ _ e4 lb
    obtain ⟨xb5, hxb5⟩ := B5.lst
    have hT1 := hT1.put hxb5 k6
    clear k2 s_H3 n_lw B1 B2 B3 B4 B5 k4 k5 k6 n4 hxb5 nb nL s1 n5 n6 e_lw
    refine ⟨fun σ' H' => ∃ (g : Fm) (d2 : Addr) (v1 v2 : Option V), σ' = [some (.ref s0), some (.ref bag), some (.ref ln), some (.ref d1), some (.ref d2), v1, v2, none, none, none, none, none, none] ∧ RedF g ∧ SzF 800 g ∧ H' ln = some (.lst (N.map V.str)) ∧ TabAt H' d1 N f ∧ TabAt H' d2 N g ∧ Bag H' L bag, ?_, ?_⟩
    · fail "rd"
      refine ⟨L, B6, by decide, by decide, fun c H7 c0 c1 k7 B7 => ?_⟩
      have e4 := k7 _ _ e4 lb
      obtain ⟨xb6, hxb6⟩ := B6.lst
      have hT1 := hT1.put hxb6 k7
      have hT2 := hT2.put hxb6 k7
      clear k7 hxb6
      fail "rd"
      refine iteI (fun y => ?_) (fun y => ⟨g, d2, none, none, rfl, rg, sg.mono, e4, hT1, hT2, B7⟩)
      obtain ⟨kvs, hd1, t1⟩ := id hT1
      fail "rd"
      refine ⟨d1, kvs, rfl, .inl hd1, ?_⟩
      intro d3 n_d3
      generalize g_H8 : upd _ d3 _ = H8
      obtain ⟨s_H8, e_d3⟩ := gen_new n_d3 g_H8
      clear g_H8
      have hT3 : TabAt H8 d3 N f := ⟨kvs, e_d3, t1.mono (fun _ _ => TupF.same s_H8) fun _ z => z⟩
      have hT1 := hT1.same s_H8
      have e4 := s_H8 _ _ e4
      have B8 := B7.same s_H8
      have db3 : d3 ≠ bag := B7.ne n_d3
      have d3L := B7.neL n_d3
      have d31 : d3 ≠ d1 := (ne_of_none hd1 n_d3).symm
      clear t1 hd1 hT2 B7 s_H8 e_d3 n_d3
      fail "rd"
      refine ⟨L, B8, by decide, by decide, fun c2 H9 c20 c21 k9 B9 => ?_⟩
      have e4 := k9 _ _ e4 lb
      obtain ⟨xb8, hxb8⟩ := B8.lst
      have hT1 := hT1.put hxb8 k9
      have hT3 := hT3.put hxb8 k9
      obtain ⟨m, rfl⟩ := Int.eq_ofNat_of_zero_le c20
      clear k9 hxb8 B8
      fail "rd"
      refine ⟨by omega, by omega, for_range (n := m) (fun i σ' H' => ∃ (g : Fm) (v1 : Option V), σ' = [some (.ref s0), some (.ref bag), some (.ref ln), some (.ref d1), some (.ref d3), v1, none, none, none, none, none, none, none] ∧ RedF g ∧ SzF 70 g ∧ H' ln = some (.lst (N.map V.str)) ∧ TabAt H' d1 N f ∧ TabAt H' d3 N g ∧ Bag H' L bag)
        ⟨f, none, rfl, rf, sf, e4, hT1, hT3, B9⟩ ?_ ?_⟩
      · clear hT1 hT3 e4 B9
        rintro i σ' H7 hi ⟨g, v1, rfl, rg, sg, e4, hT1, hT3, B7⟩
        fail "rd"
        refine ⟨L, B7, fun x t1 H8 rx zx1 zx2 k8 B8 n8 e8 => ?_⟩
        have e4 := k8 _ _ e4 lb
        obtain ⟨xb7, hxb7⟩ := B7.lst
        have hT1 := hT1.put hxb7 k8
        have hT3 := hT3.put hxb7 k8
        fail "rd"
        refine ⟨bag, ln, N.map V.str, rfl, L, B8, e4, lb, by rw [Ne, List.map_eq_nil_iff]; rintro rfl; exact absurd hlen (by simp; omega), by rw [List.length_map]; omega, fun j yv H9 hj k9 B9 => ?_⟩
        have e4 := k9 _ _ e4 lb
        have tb : t1 ≠ bag := B7.ne n8
        have e8 := k9 _ _ e8 tb
        obtain ⟨xb8, hxb8⟩ := B8.lst
        have hT1 := hT1.put hxb8 k9
        have hT3 := hT3.put hxb8 k9
        obtain ⟨y, hy, rfl⟩ : ∃ y, N[j]? = some y ∧ V.str y = yv := by
          rw [List.getElem?_map] at hj
          exact Option.map_eq_some_iff.mp hj
        have hyN := List.mem_of_getElem? hy
        obtain ⟨kv3, hd3, t3⟩ := id hT3
        fail "rd"
        refine ⟨d3, _, rfl, DPut.k (k := Sum.inr y) hd3 (t3.k.line hN), ?_⟩
        have hT4 := t3.setT hd3 hyN e8
        generalize g_H10 : upd _ d3 _ = H10 at hT4 ⊢
        obtain ⟨k_H10, e_H10⟩ := gen_put g_H10
        refine ⟨_, _, rfl, fun z => ?_, fun z => ?_, k_H10 _ _ e4 (ne_of e4 hd3 fun z => nomatch z), hT1.putD hd3 d31.symm k_H10, hT4, B9.keep k_H10 db3 d3L⟩
        · exact setF_red rg rx z
        · exact setF_sz sg ⟨zx1, zx2⟩ z
      · rintro σ' H7 ⟨g, v1, rfl, rg, sg, e4, hT1, hT3, B7⟩
        fail "rd"
        refine ⟨L, B7, by decide, by decide, fun c3 H8 c30 c31 k8 B8 => ?_⟩
        have e4 := k8 _ _ e4 lb
        obtain ⟨xb7, hxb7⟩ := B7.lst
        have hT1 := hT1.put hxb7 k8
        have hT3 := hT3.put hxb7 k8
        clear k8 hxb7 B7
        fail "rd"
        refine iteI (fun y => ?_) (fun y => ⟨g, d3, v1, none, rfl, rg, sg.mono, e4, hT1, hT3, B8⟩)
        fail "rd"
        refine ⟨L, B8, fun x t1 H9 rx zx1 zx2 k9 B9 n9 e9 => ?_⟩
        have e4 := k9 _ _ e4 lb
        obtain ⟨xb8, hxb8⟩ := B8.lst
        have tb : t1 ≠ bag := B8.ne n9
        have hT1 := hT1.put hxb8 k9
        have hT3 := hT3.put hxb8 k9
        clear k9 hxb8 B8
        fail "rd"
        intro d4 nd4
        generalize g4 : upd H9 d4 _ = H10
        obtain ⟨s10, e10⟩ := gen_new nd4 g4
        clear g4
        have d4b : d4 ≠ bag := B9.ne nd4
        have d4L := B9.neL nd4
        have n14 := hT1.ne nd4
        have n34 := hT3.ne nd4
        have nt4 := ne_of_none e9 nd4
        have B10 := B9.same s10
        have hT1 := hT1.same s10
        have hT3 := hT3.same s10
        have e4 := s10 _ _ e4
        have e9 := s10 _ _ e9
        clear s10 B9
        fail "rd"
        refine ⟨bag, ln, N.map V.str, rfl, L, B10, e4, lb, by rw [Ne, List.map_eq_nil_iff]; rintro rfl; exact absurd hlen (by simp; omega), by rw [List.length_map]; omega, fun j yv H11 hj k11 B11 => ?_⟩
        have e4 := k11 _ _ e4 lb
        have e9 := k11 _ _ e9 tb
        have e10 := k11 _ _ e10 d4b
        obtain ⟨xb10, hxb10⟩ := B10.lst
        have hT1 := hT1.put hxb10 k11
        have hT3 := hT3.put hxb10 k11
        obtain ⟨y, hy, rfl⟩ : ∃ y, N[j]? = some y ∧ V.str y = yv := by
          rw [List.getElem?_map] at hj
          exact Option.map_eq_some_iff.mp hj
        have hyN := List.mem_of_getElem? hy
        clear k11 hxb10 B10
        fail "rd"
        refine ⟨e10, [(.inr y, .ref t1)], rfl, Nat.le_of_ble_eq_true rfl, ?_⟩
        have hT4 : TabAt (upd H11 d4 (.dK (mergeK [] [(.inr y, .ref t1)]))) d4 N (setF (fun _ => (0, 1)) y x) := Tab.setT (.nil fun _ => rfl) e10 hyN e9
        generalize g12 : upd H11 d4 (.dK (mergeK [] [(.inr y, .ref t1)])) = H12 at *
        obtain ⟨k12, e12⟩ := gen_put g12
        clear g12
        have e4 := k12 _ _ e4 (ne_of e4 e10 fun z => nomatch z)
        have e9 := k12 _ _ e9 (ne_of e9 e10 fun z => nomatch z)
        have hT1 := hT1.putD e10 n14 k12
        have B12 := B11.keep k12 d4b d4L
        clear k12 B11 e12 hT3
        fail "rd"
        refine ⟨d1, d4, 1, N, f, _, rfl, .inl rfl, hT1, hT4, rf, setF_red zero_red rx, sf.mono, (setF_sz zero_sz ⟨zx1, zx2⟩ : SzF 70 _).mono, hN, fun d5 H13 n5 s13 hT5 => ?_⟩
        have z5 := sumF_szn (.inl rfl) rf (setF_red zero_red rx) sf (setF_sz (z := y) zero_sz ⟨zx1, zx2⟩ : SzF 70 _)
        have r5 := sumF_red (s := 1) rf (setF_red (z := y) zero_red rx)
        have e4 := s13 _ _ e4
        have e9 := s13 _ _ e9
        have hT1 := hT1.same s13
        have B13 := B12.same s13
        clear hT4 s13 B12
        fail "rd"
        intro d6 nd6
        generalize g6 : upd H13 d6 _ = H14
        obtain ⟨s14, e14⟩ := gen_new nd6 g6
        clear g6
        have d6b : d6 ≠ bag := B13.ne nd6
        have d6L := B13.neL nd6
        have n16 := hT1.ne nd6
        have n56 := hT5.ne nd6
        have B14 := B13.same s14
        have hT1 := hT1.same s14
        have hT5 := hT5.same s14
        have e4 := s14 _ _ e4
        have e9 := s14 _ _ e9
        clear s14 B13
        fail "rd"
        refine ⟨bag, ln, N.map V.str, rfl, L, B14, e4, lb, by rw [Ne, List.map_eq_nil_iff]; rintro rfl; exact absurd hlen (by simp; omega), by rw [List.length_map]; omega, fun j2 yv2 H15 hj2 k15 B15 => ?_⟩
        have e4 := k15 _ _ e4 lb
        have e9 := k15 _ _ e9 tb
        have e14 := k15 _ _ e14 d6b
        obtain ⟨xb14, hxb14⟩ := B14.lst
        have hT1 := hT1.put hxb14 k15
        have hT5 := hT5.put hxb14 k15
        obtain ⟨y2, hy2, rfl⟩ : ∃ y, N[j2]? = some y ∧ V.str y = yv2 := by
          rw [List.getElem?_map] at hj2
          exact Option.map_eq_some_iff.mp hj2
        have hy2N := List.mem_of_getElem? hy2
        clear k15 hxb14 B14
        fail "rd"
        refine ⟨e14, [(.inr y2, .ref t1)], rfl, Nat.le_of_ble_eq_true rfl, ?_⟩
        have hT6 : TabAt (upd H15 d6 (.dK (mergeK [] [(.inr y2, .ref t1)]))) d6 N (setF (fun _ => (0, 1)) y2 x) := Tab.setT (.nil fun _ => rfl) e14 hy2N e9
        generalize g16 : upd H15 d6 (.dK (mergeK [] [(.inr y2, .ref t1)])) = H16 at *
        obtain ⟨k16, e16⟩ := gen_put g16
        clear g16
        have e4 := k16 _ _ e4 (ne_of e4 e14 fun z => nomatch z)
        have hT1 := hT1.putD e14 n16 k16
        have hT5 := hT5.putD e14 n56 k16
        have B16 := B15.keep k16 d6b d6L
        clear k16 B15 e16
        fail "rd"
        refine ⟨d5, d6, -1, N, _, _, rfl, .inr rfl, hT5, hT6, r5, setF_red zero_red rx, z5.mono, (setF_sz zero_sz ⟨zx1, zx2⟩ : SzF 70 _).mono, hN, fun d7 H17 n7 s17 hT7 => ?_⟩
        have z7 := sumF_szn (.inr rfl) r5 (setF_red zero_red rx) z5 (setF_sz (z := y2) zero_sz ⟨zx1, zx2⟩ : SzF 70 _)
        have r7 := sumF_red (s := -1) r5 (setF_red (z := y2) zero_red rx)
        have e4 := s17 _ _ e4
        have hT1 := hT1.same s17
        have B17 := B16.same s17
        fail "rd"
        exact ⟨_, d7, _, _, rfl, r7, z7.mono, e4, hT1, hT7, B17⟩
    clear hT1 hT2 e4 B6
    rintro σ' H7 ⟨g, d2, v1, v2, rfl, rg, sg, e4, hT1, hT2, B7⟩
    fail "rd"
    refine ⟨bag, d1, N, f, rfl, L, B7, hT1, rf, sf.mono, hN, fun hd kvs H10 ehd tk k10 B10 n10 => ?_⟩
    obtain ⟨xb9, hxb9⟩ := B7.lst
    have hT1 := hT1.put hxb9 k10
    have hT2 := hT2.put hxb9 k10
    have e4 := k10 _ _ e4 lb
    clear k10 n10 hxb9 B7
    fail "rd"
    intro p dxp n_p nd_p ne_p
    refine form_in n_p nd_p ne_p hN (.inr ⟨hd, kvs, rfl, ehd, tk⟩) fun dp H12 ndp s12 ep fp => ⟨rfl, ?_⟩
    have B12 := B10.same s12
    have hT1 := hT1.same s12
    have hT2 := hT2.same s12
    have e4 := s12 _ _ e4
    have hF : FormAt ca H12 p N f := ⟨dxp, dp, ep, fp⟩
    clear B10 ehd tk s12 n_p nd_p ne_p ndp ep fp
    fail "rd"
    refine ⟨bag, d2, N, g, rfl, L, B12, hT2, rg, sg.mono, hN, fun hd2 kvs2 H13 ehd2 tk2 k13 B13 n13 => ?_⟩
    obtain ⟨xb12, hxb12⟩ := B12.lst
    have hT1 := hT1.put hxb12 k13
    have hT2 := hT2.put hxb12 k13
    have hF : FormAt ca H13 p N f := hF.put hxb12 k13
    have e4 := k13 _ _ e4 lb
    clear k13 n13 hxb12 B12
    fail "rd"
    intro q dxq n_q nd_q ne_q
    refine form_in n_q nd_q ne_q hN (.inr ⟨hd2, kvs2, rfl, ehd2, tk2⟩) fun dq H14 ndq s14 eq fq => ⟨rfl, ?_⟩
    have hT1 := hT1.same s14
    have hT2 := hT2.same s14
    have hF := hF.same s14
    have e4 := s14 _ _ e4
    have hG : FormAt ca H14 q N g := ⟨dxq, dq, eq, fq⟩
    clear B13 ehd2 tk2 s14 n_q nd_q ne_q ndq eq fq
    fail "rd"
    intro D nD
    have nDln := (ne_of_none e4 nD).symm
    refine lc_list (K := K) (a := ln) (xs := N.map V.str) (fun i H' => Same H14 H' ∧ H' D = some (.lst (((N.take i).map fun z => decide (f z = g z)).map V.bl))) ⟨same_upd nD, upd_same⟩ (fun i H' _ h => SqL.of (h.1 _ _ e4)) ?_ ?_
    · rintro i yv H7 hj ⟨sH, hD⟩
      obtain ⟨y, hy, rfl⟩ : ∃ y, N[i]? = some y ∧ V.str y = yv := by
        rw [List.getElem?_map] at hj
        exact Option.map_eq_some_iff.mp hj
      obtain ⟨kv1, hd1, t1⟩ := hT1.same sH
      obtain ⟨kv2, hd2, t2⟩ := hT2.same sH
      fail "rd"
      refine ⟨.inl ⟨kv1, .inl hd1⟩, ?_⟩
      fail "rd"
      intro p1 n_p1
      generalize g_H8 : upd _ p1 _ = H8
      obtain ⟨s_H8, e_p1⟩ := gen_new n_p1 g_H8
      clear g_H8
      refine ⟨_, dget_at (.inl (s_H8 _ _ hd1)), ?_⟩
      obtain ⟨u1, eu1, hu1⟩ := get_tup (z := y) (t1.mono (R' := TupF f H8) (fun _ _ => TupF.same s_H8) fun _ z => z) e_p1
      rw [eu1]
      have hd2 := s_H8 _ _ hd2
      have t2 := t2.mono (R' := TupF g H8) (fun _ _ => TupF.same s_H8) fun _ z => z
      fail "rd"
      refine ⟨.inl ⟨kv2, .inl hd2⟩, ?_⟩
      fail "rd"
      intro p2 n_p2
      generalize g_H9 : upd _ p2 _ = H9
      obtain ⟨s_H9, e_p2⟩ := gen_new n_p2 g_H9
      clear g_H9
      refine ⟨_, dget_at (.inl (s_H9 _ _ hd2)), ?_⟩
      obtain ⟨u2, eu2, hu2⟩ := get_tup (z := y) (t2.mono (R' := TupF g H9) (fun _ _ => TupF.same s_H9) fun _ z => z) e_p2
      rw [eu2]
      have hu1 := s_H9 _ _ hu1
      fail "rd"
      refine ⟨_, s_H9 _ _ (s_H8 _ _ hD), by rw [List.length_map, List.length_map, List.length_take]; exact size_line (by omega), same_put nD (sH.trans (s_H8.trans s_H9)), ?_⟩
      rw [upd_same, List.take_add_one, hy, List.map_append, List.map_append]
      have e : decide ((f y).1 = (g y).1 ∧ (f y).2 = (g y).2) = decide (f y = g y) := by
        rw [decide_eq_decide]
        exact Prod.ext_iff.symm
      rw [e]
      rfl
    · rintro H7 ⟨sH, hD⟩
      rw [List.length_map, List.take_length] at hD
      fail "rd"
      refine ⟨D, _, rfl, SqL.of hD, ?_⟩
      have hb : ((N.map fun z => decide (f z = g z)).all id = true) ↔ ∀ z, f z = g z := by
        rw [List.all_map, List.all_eq_true]
        constructor
        · intro h z
          by_cases c : z ∈ N
          · exact of_decide_eq_true (h z c)
          · rw [hT1.off c, hT2.off c]
        · exact fun h z _ => decide_eq_true (h z)
      generalize (N.map fun z => decide (f z = g z)).all id = b at *
      have hF := hF.same sH
      have hG := hG.same sH
      have hT1 := hT1.same sH
      have hT2 := hT2.same sH
      clear hD nD nDln e4 sH
      fail "rd"
      refine ⟨by decide, by decide, for_range (n := 2) (fun i σ' H' => ∃ (w1 w2 : Option V), σ' = [some (.ref s0), some (.ref bag), some (.ref ln), some (.ref d1), some (.ref d2), v1, v2, some (.ref p), some (.ref q), some (.bl b), w1, w2, none] ∧ Same H7 H') ⟨none, none, rfl, Same.refl _⟩ ?_ ?_⟩
      · rintro i σ' H8 hi ⟨w1, w2, rfl, sH⟩
        have hF := hF.same sH
        have hG := hG.same sH
        fail "rd"
        refine ⟨p, q, N, f, g, rfl, hF, hG, hN, sf.mono, sg.mono, fun t1 H9 s9 r9 => ?_⟩
        have r9 : Told N f g H8 H9 t1 := r9
        fail "rd"
        refine ⟨q, p, N, g, f, rfl, hG.same s9, hF.same s9, hN, sg.mono, sf.mono, fun t2 H10 s10 r10 => ?_⟩
        have r10 : Told N f g H9 H10 t2 := Told.swap r10
        fail "rd"
        intro lt n_lt
        generalize g_H11 : upd _ lt _ = H11
        obtain ⟨s_H11, e_lt⟩ := gen_new n_lt g_H11
        clear g_H11
        have rA : Told N f g H8 H11 t1 := (r9.same s10).same s_H11
        have rB : Told N f g H9 H11 t2 := r10.same s_H11
        have tA : ∀ d, t1 = .ref d → ∃ o, H9 d = some o := fun d e => by
          rcases r9 with ⟨_, n⟩ | ⟨d', z0, kvs, a, b, c, r⟩
          · rw [n] at e
            cases e
          · rw [b] at e
            cases e
            exact ⟨_, c⟩
        have sX : Same H8 H11 := s9.trans (s10.trans s_H11)
        have h8l : H8 lt = none := s9.free (s10.free n_lt)
        have h9l : H9 lt = none := s10.free n_lt
        clear r9 r10
        fail "rd"
        refine for_list (D := ⟨_, _, fun _ _ => True, fun _ _ => True⟩) (K := K) (a := lt) (xs := [t1, t2]) (fun j σ' H' => ∃ (w1 w2 : Option V), σ' = [some (.ref s0), some (.ref bag), some (.ref ln), some (.ref d1), some (.ref d2), v1, v2, some (.ref p), some (.ref q), some (.bl b), w1, w2, none] ∧ Same H8 H' ∧ H' lt = some (.lst [t1, t2]) ∧ (j = 0 → Told N f g H8 H' t1) ∧ (j ≤ 1 → Told N f g H9 H' t2))
          ⟨_, _, rfl, sX, e_lt, fun _ => rA, fun _ => rB⟩ (fun j σ' H' _ ⟨_, _, _, _, h, _⟩ => SqL.of h) ?_ ?_
        · rintro j x σ' H12 hx ⟨w1, w2, rfl, s12, elt, r1, r2⟩
          have rX : ∃ HB : Hp, Told N f g HB H12 x ∧ HB lt = none ∧ (∀ d, HB d = none → H8 d = none) ∧ (j = 0 → HB = H8) ∧ (∀ d, j = 0 → x = .ref d → ∃ o, H9 d = some o) ∧ j ≤ 1 := by
            match j, hx with
            | 0, hx =>
              cases hx
              exact ⟨H8, r1 rfl, h8l, fun _ h => h, fun _ => rfl, fun d _ => tA d, by decide⟩
            | 1, hx =>
              cases hx
              exact ⟨H9, r2 (by decide), h9l, fun d h => s9.free h, (fun e => nomatch e), (fun d e => nomatch e), Nat.le_refl _⟩
          obtain ⟨HB, rX, hBl, hB8, _, tX, hj⟩ := rX
          rcases rX with ⟨hall, rfl⟩ | ⟨d, z0, kvs, hd0, rfl, hd, hne, hk, hps⟩
          · have eb : b = true := hb.mpr hall
            subst eb
            fail "rd"
            exact ⟨s12, elt, fun e => absurd e (by omega), fun e => r2 (by omega)⟩
          · have eb : b = false := by
              cases e : b with
              | false => rfl
              | true => exact absurd (hb.mp e z0) hne
            subst eb
            fail "rd"
            refine ⟨d, d1, d2, N, f, g, z0, kvs, rfl, hT1.same (sH.trans s12), hT2.same (sH.trans s12), rf, rg, sf.mono, sg.mono, hN, by omega, hd, hne, hk, hps, fun H13 s13 => ?_⟩
            refine ⟨true, rfl, iteF ?_⟩
            have hd13 := s13 _ _ hd
            fail "rd"
            refine ⟨.inr (.inr (.inl ⟨rfl, .inl ⟨_, hd13⟩⟩)), d, kvs, rfl, rfl, hd13, ?_⟩
            have sP : Same H8 (upd H13 d (.dK [])) := same_put (hB8 d hd0) (s12.trans s13)
            generalize g14 : upd H13 d _ = H14 at sP ⊢
            obtain ⟨k14, e14⟩ := gen_put g14
            refine ⟨_, _, rfl, sP, k14 _ _ (s13 _ _ elt) (ne_of (s13 _ _ elt) hd13 fun z => nomatch z), fun e => absurd e (by omega), fun e => ?_⟩
            rcases (r2 (by omega)).same s13 with q | ⟨d', z1, kv1, a1, b1, c1', r⟩
            · exact .inl q
            · refine .inr ⟨d', z1, kv1, a1, b1, k14 _ _ c1' ?_, r⟩
              rintro rfl
              obtain ⟨o, ho⟩ := tX d' (by omega) rfl
              rw [a1] at ho
              cases ho
        · rintro σ' H12 ⟨w1, w2, rfl, s12, elt, _, _⟩
          exact ⟨_, _, rfl, sH.trans s12⟩
      · rintro σ' H8 ⟨w1, w2, rfl, sH⟩
        have hF := hF.same sH
        have hG := hG.same sH
        obtain ⟨dx1, dd1, ep1⟩ := hF.ins
        fail "rd"
        refine ⟨p, q, N, f, g, rfl, hF, hG, hN, sf.mono, sg.mono, fun b2 H9 s9 hb2 => ?_⟩
        have e2 : b2 = b := by rw [Bool.eq_iff_iff, hb2, hb]
        subst e2
        fail "rd"
        rw [decide_eq_true rfl]
        refine iteT ?_
        fail "rd"
        refine ⟨p, p, N, f, f, rfl, hF.same s9, hF.same s9, hN, sf.mono, sf.mono, fun v H10 s10 r10 => ?_⟩
        rcases r10 with ⟨_, rfl⟩ | ⟨_, z0, _, _, _, _, hne, _⟩
        · fail "rd"
          exact k H10
        · exact absurd rfl hne

end
theorem all_mk {l : PySem.W.OpenLaw} {w : World} {K : PySem.W.Frag} {h : Heap} {mg : Str → Option Value} {fa : Addr} (X : K.In h) (G : h.Ns mainGlobals mg) (hfa : mg "law" = some (.ref fa))
    {C0 C1 C4 C5 C6 C2 C3 : Addr}
    {vi0 vi1 vi2 vi3 vi4 vi5 : Option Value}
    {tkc__LONGEST : Tok}
    {kd2 : ClassData} {vr2_0 vr2_1 vr2_2 : Option Value} {vh2_0 vh2_1 vh2_2 : Addr}
    {kd3 : ClassData} {vr3_0 vr3_1 vr3_2 : Option Value} {vh3_0 vh3_1 vh3_2 : Addr}
    {f0 : Addr} {od0 an0 : Option Addr} {sl0 : Array (Option Value)} {oc0 kV0 dc0 pm0 cd0 ct0 : Value}
    {f1 : Addr} {od1 an1 : Option Addr} {sl1 : Array (Option Value)} {oc1 kV1 dc1 pm1 cd1 ct1 : Value}
    {f2 : Addr} {od2 an2 : Option Addr} {sl2 : Array (Option Value)} {oc2 kV2 dc2 pm2 cd2 ct2 : Value}
    {f3 : Addr} {od3 an3 : Option Addr} {sl3 : Array (Option Value)} {oc3 kV3 dc3 pm3 cd3 ct3 : Value}
    {f4 : Addr} {od4 an4 : Option Addr} {sl4 : Array (Option Value)} {oc4 kV4 dc4 pm4 cd4 ct4 : Value}
    {f5 : Addr} {od5 an5 : Option Addr} {sl5 : Array (Option Value)} {oc5 kV5 dc5 pm5 cd5 ct5 : Value}
    {f6 : Addr} {od6 an6 : Option Addr} {sl6 : Array (Option Value)} {oc6 kV6 dc6 pm6 cd6 ct6 : Value}
    {f7 : Addr} {od7 an7 : Option Addr} {sl7 : Array (Option Value)} {oc7 kV7 dc7 pm7 cd7 ct7 : Value}
    {f8 : Addr} {od8 an8 : Option Addr} {sl8 : Array (Option Value)} {oc8 kV8 dc8 pm8 cd8 ct8 : Value}
    {T8 : Addr} {tk8_0 : Tok} {oT8 : Value} {dT8 : Option Addr} {nT8 : Nat} {sT8 : Array (Option Value)}
    {f9 : Addr} {od9 an9 : Option Addr} {sl9 : Array (Option Value)} {oc9 kV9 dc9 pm9 cd9 ct9 : Value}
    {f10 : Addr} {od10 an10 : Option Addr} {sl10 : Array (Option Value)} {oc10 kV10 dc10 pm10 cd10 ct10 : Value}
    {f11 : Addr} {od11 an11 : Option Addr} {sl11 : Array (Option Value)} {oc11 kV11 dc11 pm11 cd11 ct11 : Value}
    {f12 : Addr} {od12 an12 : Option Addr} {sl12 : Array (Option Value)} {oc12 kV12 dc12 pm12 cd12 ct12 : Value}
    {f13 : Addr} {od13 an13 : Option Addr} {sl13 : Array (Option Value)} {oc13 kV13 dc13 pm13 cd13 ct13 : Value}
    {f14 : Addr} {od14 an14 : Option Addr} {sl14 : Array (Option Value)} {oc14 kV14 dc14 pm14 cd14 ct14 : Value}
    {f15 : Addr} {od15 an15 : Option Addr} {sl15 : Array (Option Value)} {oc15 kV15 dc15 pm15 cd15 ct15 : Value}
    {T15 : Addr}  {oT15 : Value} {dT15 : Option Addr} {nT15 : Nat} {sT15 : Array (Option Value)}
    {f16 : Addr} {od16 an16 : Option Addr} {sl16 : Array (Option Value)} {oc16 kV16 dc16 pm16 cd16 ct16 : Value}
    {f17 : Addr} {od17 an17 : Option Addr} {sl17 : Array (Option Value)} {oc17 kV17 dc17 pm17 cd17 ct17 : Value}
    {f18 : Addr} {od18 an18 : Option Addr} {sl18 : Array (Option Value)} {oc18 kV18 dc18 pm18 cd18 ct18 : Value}
    {f19 : Addr} {od19 an19 : Option Addr} {sl19 : Array (Option Value)} {oc19 kV19 dc19 pm19 cd19 ct19 : Value}
    {f20 : Addr} {od20 an20 : Option Addr} {sl20 : Array (Option Value)} {oc20 kV20 dc20 pm20 cd20 ct20 : Value}
    {f21 : Addr} {od21 an21 : Option Addr} {sl21 : Array (Option Value)} {oc21 kV21 dc21 pm21 cd21 ct21 : Value}
    {f22 : Addr} {od22 an22 : Option Addr} {sl22 : Array (Option Value)} {oc22 kV22 dc22 pm22 cd22 ct22 : Value}
    {f23 : Addr} {od23 an23 : Option Addr} {sl23 : Array (Option Value)} {oc23 kV23 dc23 pm23 cd23 ct23 : Value}
    {f24 : Addr} {od24 an24 : Option Addr} {sl24 : Array (Option Value)} {oc24 kV24 dc24 pm24 cd24 ct24 : Value}
    {f25 : Addr} {od25 an25 : Option Addr} {sl25 : Array (Option Value)} {oc25 kV25 dc25 pm25 cd25 ct25 : Value}
    {f26 : Addr} {od26 an26 : Option Addr} {sl26 : Array (Option Value)} {oc26 kV26 dc26 pm26 cd26 ct26 : Value}
    {f27 : Addr} {od27 an27 : Option Addr} {sl27 : Array (Option Value)} {oc27 kV27 dc27 pm27 cd27 ct27 : Value}
    {f28 : Addr} {od28 an28 : Option Addr} {sl28 : Array (Option Value)} {oc28 kV28 dc28 pm28 cd28 ct28 : Value}
    {f29 : Addr} {od29 an29 : Option Addr} {sl29 : Array (Option Value)} {oc29 kV29 dc29 pm29 cd29 ct29 : Value}
    {f30 : Addr} {od30 an30 : Option Addr} {sl30 : Array (Option Value)} {oc30 kV30 dc30 pm30 cd30 ct30 : Value}
    (aC0 : PySem.W.nsIn K mainGlobals "CostError" = some (some (.ref C0)))
    (aC1 : PySem.W.nsIn K mainGlobals "NoRatio" = some (some (.ref C1)))
    (aC4 : PySem.W.nsIn K mainGlobals "BadName" = some (some (.ref C4)))
    (aC5 : PySem.W.nsIn K mainGlobals "NoPrice" = some (some (.ref C5)))
    (aC6 : PySem.W.nsIn K mainGlobals "Negative" = some (some (.ref C6)))
    (aC2 : PySem.W.nsIn K mainGlobals "Ratio" = some (some (.ref C2)))
    (aC3 : PySem.W.nsIn K mainGlobals "Form" = some (some (.ref C3)))
    (pg2 : PySem.W.plainGet K C2 Str.empty = true)
    (hd2 : PySem.W.hasDictIn K C2 = true)
    (po2 : PySem.W.plainOver K C2 = true)
    (sa2 : PySem.W.findIn K (.ref C2) "__setattr__" = some (some (.builtin "object.__setattr__")))
    (mk2 : PySem.W.makesIn K C2 = true)
    (kc2 : PySem.W.keepIn K (.ref C2) = true)
    (pg3 : PySem.W.plainGet K C3 Str.empty = true)
    (hd3 : PySem.W.hasDictIn K C3 = true)
    (po3 : PySem.W.plainOver K C3 = true)
    (sa3 : PySem.W.findIn K (.ref C3) "__setattr__" = some (some (.builtin "object.__setattr__")))
    (mk3 : PySem.W.makesIn K C3 = true)
    (kc3 : PySem.W.keepIn K (.ref C3) = true)
    (z_abs : PySem.W.nsIn K mainGlobals "abs" = some none)
    (z_all : PySem.W.nsIn K mainGlobals "all" = some none)
    (z_bool : PySem.W.nsIn K mainGlobals "bool" = some none)
    (z_dict : PySem.W.nsIn K mainGlobals "dict" = some none)
    (z_int : PySem.W.nsIn K mainGlobals "int" = some none)
    (z_isinstance : PySem.W.nsIn K mainGlobals "isinstance" = some none)
    (z_len : PySem.W.nsIn K mainGlobals "len" = some none)
    (z_list : PySem.W.nsIn K mainGlobals "list" = some none)
    (z_min : PySem.W.nsIn K mainGlobals "min" = some none)
    (z_range : PySem.W.nsIn K mainGlobals "range" = some none)
    (z_set : PySem.W.nsIn K mainGlobals "set" = some none)
    (z_sorted : PySem.W.nsIn K mainGlobals "sorted" = some none)
    (z_str : PySem.W.nsIn K mainGlobals "str" = some none)
    (z_gcd : PySem.W.nsIn K mainGlobals "gcd" = some (some (.builtin "math.gcd")))
    (zc__LONGEST : PySem.W.nsIn K mainGlobals "_LONGEST" = some (some (.int 12 tkc__LONGEST)))
    (fkp_NoRatio : PySem.W.keepIn K (.ref C1) = true)
    (fex_NoRatio : PySem.W.excIn K C1 [.type "ValueError", .type "Exception", .type "BaseException", .type "object"] "ValueError.__new__" = true)
    (fsb_NoRatio : PySem.W.subIn K (.ref C1) (.type "BaseException") = some true)
    (fty_NoRatio : PySem.W.typeIn K (.ref C1) = some (.type "type"))
    (fna_Ratio_top : PySem.W.findIn K (.ref C2) "top" = some none)
    (fna_Ratio_bottom : PySem.W.findIn K (.ref C2) "bottom" = some none)
    (fic_Ratio : PySem.W.findIn K (.ref C2) "__class__" = some (some (.builtin "object.__class__")))
    (fo5 : PySem.W.specialIn K (.builtin "object.__class__") "__get__" = some (some (.builtin "getset_descriptor.__get__")))
    (fo6 : PySem.W.takesIn K (.builtin "object.__class__") = some true)
    (fim_Ratio : PySem.W.mroIn K C2 (.type "object") = some true)
    (fr1_Ratio : PySem.W.selfFirst K C2 = true)
    (fr2_Ratio : PySem.W.subIn K (.type "int") (.ref C2) = some false)
    (fr3_Ratio : PySem.W.subIn K (.ref C2) (.type "int") = some false)
    (fr4_Ratio : PySem.W.clsIn K C2 = some kd2)
    (fmro_Ratio : kd2.mro = [.ref C2, .type "object"])
    (fr_iadd_Ratio : PySem.W.findIn K (.ref C2) "__iadd__" = some none)
    (fro_iadd : PySem.W.findIn K (.type "object") "__iadd__" = some none)
    (fr_isub_Ratio : PySem.W.findIn K (.ref C2) "__isub__" = some none)
    (fro_isub : PySem.W.findIn K (.type "object") "__isub__" = some none)
    (fr_imul_Ratio : PySem.W.findIn K (.ref C2) "__imul__" = some none)
    (fro_imul : PySem.W.findIn K (.type "object") "__imul__" = some none)
    (fri_add : PySem.W.findIn K (.type "int") "__add__" = some vi0)
    (fri_radd : PySem.W.findIn K (.type "int") "__radd__" = some vi1)
    (fri_sub : PySem.W.findIn K (.type "int") "__sub__" = some vi2)
    (fri_rsub : PySem.W.findIn K (.type "int") "__rsub__" = some vi3)
    (fri_mul : PySem.W.findIn K (.type "int") "__mul__" = some vi4)
    (fri_rmul : PySem.W.findIn K (.type "int") "__rmul__" = some vi5)
    (frr_radd_Ratio : PySem.W.findIn K (.ref C2) "__radd__" = some vr2_0)
    (frs_radd_Ratio : refOr vr2_0 = true)
    (frr_rsub_Ratio : PySem.W.findIn K (.ref C2) "__rsub__" = some vr2_1)
    (frs_rsub_Ratio : refOr vr2_1 = true)
    (frr_rmul_Ratio : PySem.W.findIn K (.ref C2) "__rmul__" = some vr2_2)
    (frs_rmul_Ratio : refOr vr2_2 = true)
    (frh_add_Ratio : PySem.W.findIn K (.ref C2) "__add__" = some (some (.ref vh2_0)))
    (frh_sub_Ratio : PySem.W.findIn K (.ref C2) "__sub__" = some (some (.ref vh2_1)))
    (frh_mul_Ratio : PySem.W.findIn K (.ref C2) "__mul__" = some (some (.ref vh2_2)))
    (fna_Form__shares : PySem.W.findIn K (.ref C3) "_shares" = some none)
    (fr1_Form : PySem.W.selfFirst K C3 = true)
    (fr2_Form : PySem.W.subIn K (.type "int") (.ref C3) = some false)
    (fr3_Form : PySem.W.subIn K (.ref C3) (.type "int") = some false)
    (fr4_Form : PySem.W.clsIn K C3 = some kd3)
    (fmro_Form : kd3.mro = [.ref C3, .type "object"])
    (fr_iadd_Form : PySem.W.findIn K (.ref C3) "__iadd__" = some none)
    (fr_isub_Form : PySem.W.findIn K (.ref C3) "__isub__" = some none)
    (fr_imul_Form : PySem.W.findIn K (.ref C3) "__imul__" = some none)
    (frr_radd_Form : PySem.W.findIn K (.ref C3) "__radd__" = some vr3_0)
    (frs_radd_Form : refOr vr3_0 = true)
    (frr_rsub_Form : PySem.W.findIn K (.ref C3) "__rsub__" = some vr3_1)
    (frs_rsub_Form : refOr vr3_1 = true)
    (frr_rmul_Form : PySem.W.findIn K (.ref C3) "__rmul__" = some vr3_2)
    (frs_rmul_Form : refOr vr3_2 = true)
    (frh_add_Form : PySem.W.findIn K (.ref C3) "__add__" = some (some (.ref vh3_0)))
    (frh_sub_Form : PySem.W.findIn K (.ref C3) "__sub__" = some (some (.ref vh3_1)))
    (frh_mul_Form : PySem.W.findIn K (.ref C3) "__mul__" = some (some (.ref vh3_2)))
    (fki_int_Ratio : PySem.W.kitOne K (.type "int") (.ref C2) = some false)
    (a0 : PySem.W.nsIn K mainGlobals "_law_bag" = some (some (.ref f0)))
    (l0 : K.lookup f0 = some ⟨oc0, od0, .func (PySem.W.fnOf "_law_bag" "_law_bag" (defArgs s_l_bag) (defBody s_l_bag) (defScope s_l_bag) .none kV0 dc0 pm0 an0 cd0 ct0), sl0⟩)
    (c0 : PySem.W.codeIn K cd0 "_law_bag" = true)
    (k0 : PySem.W.keepIn K (.ref f0) = true)
    (a1 : PySem.W.nsIn K mainGlobals "_law_draw" = some (some (.ref f1)))
    (l1 : K.lookup f1 = some ⟨oc1, od1, .func (PySem.W.fnOf "_law_draw" "_law_draw" (defArgs s_l_draw) (defBody s_l_draw) (defScope s_l_draw) .none kV1 dc1 pm1 an1 cd1 ct1), sl1⟩)
    (c1 : PySem.W.codeIn K cd1 "_law_draw" = true)
    (k1 : PySem.W.keepIn K (.ref f1) = true)
    (a2 : PySem.W.nsIn K mainGlobals "_law_names" = some (some (.ref f2)))
    (l2 : K.lookup f2 = some ⟨oc2, od2, .func (PySem.W.fnOf "_law_names" "_law_names" (defArgs s_l_names) (defBody s_l_names) (defScope s_l_names) .none kV2 dc2 pm2 an2 cd2 ct2), sl2⟩)
    (c2 : PySem.W.codeIn K cd2 "_law_names" = true)
    (k2 : PySem.W.keepIn K (.ref f2) = true)
    (a3 : PySem.W.nsIn K mainGlobals "_law_divisor" = some (some (.ref f3)))
    (l3 : K.lookup f3 = some ⟨oc3, od3, .func (PySem.W.fnOf "_law_divisor" "_law_divisor" (defArgs s_l_divisor) (defBody s_l_divisor) (defScope s_l_divisor) .none kV3 dc3 pm3 an3 cd3 ct3), sl3⟩)
    (c3 : PySem.W.codeIn K cd3 "_law_divisor" = true)
    (k3 : PySem.W.keepIn K (.ref f3) = true)
    (a4 : PySem.W.nsIn K mainGlobals "_law_lowest" = some (some (.ref f4)))
    (l4 : K.lookup f4 = some ⟨oc4, od4, .func (PySem.W.fnOf "_law_lowest" "_law_lowest" (defArgs s_l_lowest) (defBody s_l_lowest) (defScope s_l_lowest) .none kV4 dc4 pm4 an4 cd4 ct4), sl4⟩)
    (c4 : PySem.W.codeIn K cd4 "_law_lowest" = true)
    (k4 : PySem.W.keepIn K (.ref f4) = true)
    (a5 : PySem.W.nsIn K mainGlobals "_law_top" = some (some (.ref f5)))
    (l5 : K.lookup f5 = some ⟨oc5, od5, .func (PySem.W.fnOf "_law_top" "_law_top" (defArgs s_l_top) (defBody s_l_top) (defScope s_l_top) .none kV5 dc5 pm5 an5 cd5 ct5), sl5⟩)
    (c5 : PySem.W.codeIn K cd5 "_law_top" = true)
    (k5 : PySem.W.keepIn K (.ref f5) = true)
    (a6 : PySem.W.nsIn K mainGlobals "_law_share" = some (some (.ref f6)))
    (l6 : K.lookup f6 = some ⟨oc6, od6, .func (PySem.W.fnOf "_law_share" "_law_share" (defArgs s_l_share) (defBody s_l_share) (defScope s_l_share) .none kV6 dc6 pm6 an6 cd6 ct6), sl6⟩)
    (c6 : PySem.W.codeIn K cd6 "_law_share" = true)
    (k6 : PySem.W.keepIn K (.ref f6) = true)
    (a7 : PySem.W.nsIn K mainGlobals "_law_shares" = some (some (.ref f7)))
    (l7 : K.lookup f7 = some ⟨oc7, od7, .func (PySem.W.fnOf "_law_shares" "_law_shares" (defArgs s_l_shares) (defBody s_l_shares) (defScope s_l_shares) .none kV7 dc7 pm7 an7 cd7 ct7), sl7⟩)
    (c7 : PySem.W.codeIn K cd7 "_law_shares" = true)
    (k7 : PySem.W.keepIn K (.ref f7) = true)
    (a8 : PySem.W.findIn K (.ref C2) "__init__" = some (some (.ref f8)))
    (i8 : PySem.W.isFn K (.ref f8) = true)
    (l8 : K.lookup f8 = some ⟨oc8, od8, .func (PySem.W.fnOf "__init__" "Ratio.__init__" (defArgs s_Ratio_init) (defBody s_Ratio_init) (defScope s_Ratio_init) (.ref T8) kV8 dc8 pm8 an8 cd8 ct8), sl8⟩)
    (c8 : PySem.W.codeIn K cd8 "Ratio.__init__" = true)
    (k8 : PySem.W.keepIn K (.ref f8) = true)
    (t8 : K.lookup T8 = some ⟨oT8, dT8, .seq #[.int 1 tk8_0] nT8, sT8⟩)
    (a9 : PySem.W.nsIn K mainGlobals "_law_handed" = some (some (.ref f9)))
    (l9 : K.lookup f9 = some ⟨oc9, od9, .func (PySem.W.fnOf "_law_handed" "_law_handed" (defArgs s_l_handed) (defBody s_l_handed) (defScope s_l_handed) .none kV9 dc9 pm9 an9 cd9 ct9), sl9⟩)
    (c9 : PySem.W.codeIn K cd9 "_law_handed" = true)
    (k9 : PySem.W.keepIn K (.ref f9) = true)
    (a10 : PySem.W.nsIn K mainGlobals "_law_sum" = some (some (.ref f10)))
    (l10 : K.lookup f10 = some ⟨oc10, od10, .func (PySem.W.fnOf "_law_sum" "_law_sum" (defArgs s_l_sum) (defBody s_l_sum) (defScope s_l_sum) .none kV10 dc10 pm10 an10 cd10 ct10), sl10⟩)
    (c10 : PySem.W.codeIn K cd10 "_law_sum" = true)
    (k10 : PySem.W.keepIn K (.ref f10) = true)
    (a11 : PySem.W.nsIn K mainGlobals "is_name" = some (some (.ref f11)))
    (l11 : K.lookup f11 = some ⟨oc11, od11, .func (PySem.W.fnOf "is_name" "is_name" (defArgs s_is_name) (defBody s_is_name) (defScope s_is_name) .none kV11 dc11 pm11 an11 cd11 ct11), sl11⟩)
    (c11 : PySem.W.codeIn K cd11 "is_name" = true)
    (k11 : PySem.W.keepIn K (.ref f11) = true)
    (a12 : PySem.W.nsIn K mainGlobals "check_names" = some (some (.ref f12)))
    (l12 : K.lookup f12 = some ⟨oc12, od12, .func (PySem.W.fnOf "check_names" "check_names" (defArgs s_check_names) (defBody s_check_names) (defScope s_check_names) .none kV12 dc12 pm12 an12 cd12 ct12), sl12⟩)
    (c12 : PySem.W.codeIn K cd12 "check_names" = true)
    (k12 : PySem.W.keepIn K (.ref f12) = true)
    (a13 : PySem.W.nsIn K mainGlobals "as_ratio" = some (some (.ref f13)))
    (l13 : K.lookup f13 = some ⟨oc13, od13, .func (PySem.W.fnOf "as_ratio" "as_ratio" (defArgs s_as_ratio) (defBody s_as_ratio) (defScope s_as_ratio) .none kV13 dc13 pm13 an13 cd13 ct13), sl13⟩)
    (c13 : PySem.W.codeIn K cd13 "as_ratio" = true)
    (k13 : PySem.W.keepIn K (.ref f13) = true)
    (a14 : PySem.W.findIn K (.ref C2) "same" = some (some (.ref f14)))
    (i14 : PySem.W.isFn K (.ref f14) = true)
    (l14 : K.lookup f14 = some ⟨oc14, od14, .func (PySem.W.fnOf "same" "Ratio.same" (defArgs s_Ratio_same) (defBody s_Ratio_same) (defScope s_Ratio_same) .none kV14 dc14 pm14 an14 cd14 ct14), sl14⟩)
    (c14 : PySem.W.codeIn K cd14 "Ratio.same" = true)
    (k14 : PySem.W.keepIn K (.ref f14) = true)
    (a15 : PySem.W.findIn K (.ref C3) "__init__" = some (some (.ref f15)))
    (i15 : PySem.W.isFn K (.ref f15) = true)
    (l15 : K.lookup f15 = some ⟨oc15, od15, .func (PySem.W.fnOf "__init__" "Form.__init__" (defArgs s_Form_init) (defBody s_Form_init) (defScope s_Form_init) (.ref T15) kV15 dc15 pm15 an15 cd15 ct15), sl15⟩)
    (c15 : PySem.W.codeIn K cd15 "Form.__init__" = true)
    (k15 : PySem.W.keepIn K (.ref f15) = true)
    (t15 : K.lookup T15 = some ⟨oT15, dT15, .seq #[.none] nT15, sT15⟩)
    (a16 : PySem.W.findIn K (.ref C3) "names" = some (some (.ref f16)))
    (i16 : PySem.W.isFn K (.ref f16) = true)
    (l16 : K.lookup f16 = some ⟨oc16, od16, .func (PySem.W.fnOf "names" "Form.names" (defArgs s_Form_names) (defBody s_Form_names) (defScope s_Form_names) .none kV16 dc16 pm16 an16 cd16 ct16), sl16⟩)
    (c16 : PySem.W.codeIn K cd16 "Form.names" = true)
    (k16 : PySem.W.keepIn K (.ref f16) = true)
    (a17 : PySem.W.findIn K (.ref C3) "share" = some (some (.ref f17)))
    (i17 : PySem.W.isFn K (.ref f17) = true)
    (l17 : K.lookup f17 = some ⟨oc17, od17, .func (PySem.W.fnOf "share" "Form.share" (defArgs s_Form_share) (defBody s_Form_share) (defScope s_Form_share) .none kV17 dc17 pm17 an17 cd17 ct17), sl17⟩)
    (c17 : PySem.W.codeIn K cd17 "Form.share" = true)
    (k17 : PySem.W.keepIn K (.ref f17) = true)
    (a18 : PySem.W.findIn K (.ref C2) "__add__" = some (some (.ref f18)))
    (i18 : PySem.W.isFn K (.ref f18) = true)
    (l18 : K.lookup f18 = some ⟨oc18, od18, .func (PySem.W.fnOf "__add__" "Ratio.__add__" (defArgs s_Ratio_add) (defBody s_Ratio_add) (defScope s_Ratio_add) .none kV18 dc18 pm18 an18 cd18 ct18), sl18⟩)
    (c18 : PySem.W.codeIn K cd18 "Ratio.__add__" = true)
    (k18 : PySem.W.keepIn K (.ref f18) = true)
    (a19 : PySem.W.findIn K (.ref C3) "__add__" = some (some (.ref f19)))
    (i19 : PySem.W.isFn K (.ref f19) = true)
    (l19 : K.lookup f19 = some ⟨oc19, od19, .func (PySem.W.fnOf "__add__" "Form.__add__" (defArgs s_Form_add) (defBody s_Form_add) (defScope s_Form_add) .none kV19 dc19 pm19 an19 cd19 ct19), sl19⟩)
    (c19 : PySem.W.codeIn K cd19 "Form.__add__" = true)
    (k19 : PySem.W.keepIn K (.ref f19) = true)
    (a20 : PySem.W.findIn K (.ref C2) "__mul__" = some (some (.ref f20)))
    (i20 : PySem.W.isFn K (.ref f20) = true)
    (l20 : K.lookup f20 = some ⟨oc20, od20, .func (PySem.W.fnOf "__mul__" "Ratio.__mul__" (defArgs s_Ratio_mul) (defBody s_Ratio_mul) (defScope s_Ratio_mul) .none kV20 dc20 pm20 an20 cd20 ct20), sl20⟩)
    (c20 : PySem.W.codeIn K cd20 "Ratio.__mul__" = true)
    (k20 : PySem.W.keepIn K (.ref f20) = true)
    (a21 : PySem.W.findIn K (.ref C3) "__mul__" = some (some (.ref f21)))
    (i21 : PySem.W.isFn K (.ref f21) = true)
    (l21 : K.lookup f21 = some ⟨oc21, od21, .func (PySem.W.fnOf "__mul__" "Form.__mul__" (defArgs s_Form_mul) (defBody s_Form_mul) (defScope s_Form_mul) .none kV21 dc21 pm21 an21 cd21 ct21), sl21⟩)
    (c21 : PySem.W.codeIn K cd21 "Form.__mul__" = true)
    (k21 : PySem.W.keepIn K (.ref f21) = true)
    (a22 : PySem.W.findIn K (.ref C3) "__neg__" = some (some (.ref f22)))
    (i22 : PySem.W.isFn K (.ref f22) = true)
    (l22 : K.lookup f22 = some ⟨oc22, od22, .func (PySem.W.fnOf "__neg__" "Form.__neg__" (defArgs s_Form_neg) (defBody s_Form_neg) (defScope s_Form_neg) .none kV22 dc22 pm22 an22 cd22 ct22), sl22⟩)
    (c22 : PySem.W.codeIn K cd22 "Form.__neg__" = true)
    (k22 : PySem.W.keepIn K (.ref f22) = true)
    (a23 : PySem.W.findIn K (.ref C3) "__sub__" = some (some (.ref f23)))
    (i23 : PySem.W.isFn K (.ref f23) = true)
    (l23 : K.lookup f23 = some ⟨oc23, od23, .func (PySem.W.fnOf "__sub__" "Form.__sub__" (defArgs s_Form_sub) (defBody s_Form_sub) (defScope s_Form_sub) .none kV23 dc23 pm23 an23 cd23 ct23), sl23⟩)
    (c23 : PySem.W.codeIn K cd23 "Form.__sub__" = true)
    (k23 : PySem.W.keepIn K (.ref f23) = true)
    (a24 : PySem.W.nsIn K mainGlobals "parting" = some (some (.ref f24)))
    (l24 : K.lookup f24 = some ⟨oc24, od24, .func (PySem.W.fnOf "parting" "parting" (defArgs s_parting) (defBody s_parting) (defScope s_parting) .none kV24 dc24 pm24 an24 cd24 ct24), sl24⟩)
    (c24 : PySem.W.codeIn K cd24 "parting" = true)
    (k24 : PySem.W.keepIn K (.ref f24) = true)
    (a25 : PySem.W.nsIn K mainGlobals "_law_pick" = some (some (.ref f25)))
    (l25 : K.lookup f25 = some ⟨oc25, od25, .func (PySem.W.fnOf "_law_pick" "_law_pick" (defArgs s_l_pick) (defBody s_l_pick) (defScope s_l_pick) .none kV25 dc25 pm25 an25 cd25 ct25), sl25⟩)
    (c25 : PySem.W.codeIn K cd25 "_law_pick" = true)
    (k25 : PySem.W.keepIn K (.ref f25) = true)
    (a26 : PySem.W.nsIn K mainGlobals "_law_differ" = some (some (.ref f26)))
    (l26 : K.lookup f26 = some ⟨oc26, od26, .func (PySem.W.fnOf "_law_differ" "_law_differ" (defArgs s_l_differ) (defBody s_l_differ) (defScope s_l_differ) .none kV26 dc26 pm26 an26 cd26 ct26), sl26⟩)
    (c26 : PySem.W.codeIn K cd26 "_law_differ" = true)
    (k26 : PySem.W.keepIn K (.ref f26) = true)
    (a27 : PySem.W.nsIn K mainGlobals "_law_number" = some (some (.ref f27)))
    (l27 : K.lookup f27 = some ⟨oc27, od27, .func (PySem.W.fnOf "_law_number" "_law_number" (defArgs s_l_number) (defBody s_l_number) (defScope s_l_number) .none kV27 dc27 pm27 an27 cd27 ct27), sl27⟩)
    (c27 : PySem.W.codeIn K cd27 "_law_number" = true)
    (k27 : PySem.W.keepIn K (.ref f27) = true)
    (a28 : PySem.W.nsIn K mainGlobals "_law_told_right" = some (some (.ref f28)))
    (l28 : K.lookup f28 = some ⟨oc28, od28, .func (PySem.W.fnOf "_law_told_right" "_law_told_right" (defArgs s_l_told_right) (defBody s_l_told_right) (defScope s_l_told_right) .none kV28 dc28 pm28 an28 cd28 ct28), sl28⟩)
    (c28 : PySem.W.codeIn K cd28 "_law_told_right" = true)
    (k28 : PySem.W.keepIn K (.ref f28) = true)
    (a29 : PySem.W.findIn K (.ref C3) "same" = some (some (.ref f29)))
    (i29 : PySem.W.isFn K (.ref f29) = true)
    (l29 : K.lookup f29 = some ⟨oc29, od29, .func (PySem.W.fnOf "same" "Form.same" (defArgs s_Form_same) (defBody s_Form_same) (defScope s_Form_same) .none kV29 dc29 pm29 an29 cd29 ct29), sl29⟩)
    (c29 : PySem.W.codeIn K cd29 "Form.same" = true)
    (k29 : PySem.W.keepIn K (.ref f29) = true)
    (a30 : PySem.W.nsIn K mainGlobals "law" = some (some (.ref f30)))
    (l30 : K.lookup f30 = some ⟨oc30, od30, .func (PySem.W.fnOf "law" "law" (defArgs s_law) (defBody s_law) (defScope s_law) .none kV30 dc30 pm30 an30 cd30 ct30), sl30⟩)
    (c30 : PySem.W.codeIn K cd30 "law" = true)
    (k30 : PySem.W.keepIn K (.ref f30) = true)
    : ∃ fd : FuncData, (∀ (s : Shared) (v : Value), BindsTo s fd ⟨[v], []⟩ [("_law_script", v)]) ∧ ∀ base : Heap, K.In base → base.Ns mainGlobals mg → FnOk l.prog w K mg base (L2.CX l.prog w) 11 fa fd ["_law_script"] (sp_law K fun _ => 0) := by
  have e := hfa.symm.trans (PySem.W.mg_of X G a30)
  cases e
  have T : Txt K mg (fun n => if n = 0 then C0 else if n = 1 then C1 else if n = 4 then C4 else if n = 5 then C5 else if n = 6 then C6 else if n = 2 then C2 else if n = 3 then C3 else 0) := ⟨PySem.W.mg_none_of X G z_abs, PySem.W.mg_none_of X G z_all, PySem.W.mg_none_of X G z_bool, PySem.W.mg_none_of X G z_dict, PySem.W.mg_none_of X G z_int, PySem.W.mg_none_of X G z_isinstance, PySem.W.mg_none_of X G z_len, PySem.W.mg_none_of X G z_list, PySem.W.mg_none_of X G z_min, PySem.W.mg_none_of X G z_range, PySem.W.mg_none_of X G z_set, PySem.W.mg_none_of X G z_sorted, PySem.W.mg_none_of X G z_str, PySem.W.mg_of X G z_gcd, ⟨_, PySem.W.mg_of X G zc__LONGEST⟩, PySem.W.mg_of X G aC1, fkp_NoRatio, fex_NoRatio, fsb_NoRatio, fty_NoRatio, PySem.W.mg_of X G aC2, ⟨pg2, hd2, po2, sa2⟩, fna_Ratio_top, fna_Ratio_bottom, fic_Ratio, fo5, fo6, fim_Ratio, ⟨fr1_Ratio, fr2_Ratio, fr3_Ratio, ⟨_, fr4_Ratio, fmro_Ratio⟩, ⟨fr_iadd_Ratio, fro_iadd⟩, ⟨fr_isub_Ratio, fro_isub⟩, ⟨fr_imul_Ratio, fro_imul⟩, ⟨_, _, _, _, _, _, fri_add, fri_radd, fri_sub, fri_rsub, fri_mul, fri_rmul⟩, ⟨_, _, _, ⟨frr_radd_Ratio, frs_radd_Ratio⟩, ⟨frr_rsub_Ratio, frs_rsub_Ratio⟩, frr_rmul_Ratio, frs_rmul_Ratio⟩, ⟨_, _, _, frh_add_Ratio, frh_sub_Ratio, frh_mul_Ratio⟩⟩, ⟨pg3, hd3, po3, sa3⟩, fna_Form__shares, ⟨fr1_Form, fr2_Form, fr3_Form, ⟨_, fr4_Form, fmro_Form⟩, ⟨fr_iadd_Form, fro_iadd⟩, ⟨fr_isub_Form, fro_isub⟩, ⟨fr_imul_Form, fro_imul⟩, ⟨_, _, _, _, _, _, fri_add, fri_radd, fri_sub, fri_rsub, fri_mul, fri_rmul⟩, ⟨_, _, _, ⟨frr_radd_Form, frs_radd_Form⟩, ⟨frr_rsub_Form, frs_rsub_Form⟩, frr_rmul_Form, frs_rmul_Form⟩, ⟨_, _, _, frh_add_Form, frh_sub_Form, frh_mul_Form⟩⟩, fki_int_Ratio⟩
  have F0 := fun_mk (st := s_l_bag) l0 c0 k0
  have b0 := F0.binds (ps := ["_law_script"]) fun _ _ _ _ _ _ us hl => match us, hl with | [_], _ => rfl
  have F1 := fun_mk (st := s_l_draw) l1 c1 k1
  have b1 := F1.binds (ps := ["_law_bag_here", "_law_size"]) fun _ _ _ _ _ _ us hl => match us, hl with | [_, _], _ => rfl
  have F2 := fun_mk (st := s_l_names) l2 c2 k2
  have b2 := F2.binds (ps := ["_law_bag_here", "_law_count", "_law_words"]) fun _ _ _ _ _ _ us hl => match us, hl with | [_, _, _], _ => rfl
  have F3 := fun_mk (st := s_l_divisor) l3 c3 k3
  have b3 := F3.binds (ps := ["_law_one", "_law_other"]) fun _ _ _ _ _ _ us hl => match us, hl with | [_, _], _ => rfl
  have F4 := fun_mk (st := s_l_lowest) l4 c4 k4
  have b4 := F4.binds (ps := ["_law_top_here", "_law_bottom"]) fun _ _ _ _ _ _ us hl => match us, hl with | [_, _], _ => rfl
  have F5 := fun_mk (st := s_l_top) l5 c5 k5
  have b5 := F5.binds (ps := ["_law_bag_here"]) fun _ _ _ _ _ _ us hl => match us, hl with | [_], _ => rfl
  have F6 := fun_mk (st := s_l_share) l6 c6 k6
  have b6 := F6.binds (ps := ["_law_bag_here"]) fun _ _ _ _ _ _ us hl => match us, hl with | [_], _ => rfl
  have F7 := fun_mk (st := s_l_shares) l7 c7 k7
  have b7 := F7.binds (ps := ["_law_bag_here", "_law_names_here"]) fun _ _ _ _ _ _ us hl => match us, hl with | [_, _], _ => rfl
  have F8 : FunD K "__init__" "Ratio.__init__" (defArgs s_Ratio_init) (defBody s_Ratio_init) (defScope s_Ratio_init) [.int 1] [] f8 _ := ⟨⟨_, _, _, _, _, _, _, _, _, _, rfl, l8, c8, .inr ⟨by simp, T8, _, [.int 1 tk8_0], nT8, rfl, t8, rfl, (.cons ⟨_, rfl⟩ .nil)⟩, .inl rfl⟩, k8⟩
  have b8_2 := F8.binds1 (ps := ["self", "top", "bottom"]) 3 1 (by simp) (by decide) fun _ _ _ _ _ _ _ us its hl hi => match us, hl, its, hi with | [_, _, _], _, [_], _ => ⟨_, rfl, rfl⟩
  have b8_1 := F8.binds1 (ps := ["self", "top", "bottom"]) 2 0 (by simp) (by decide) fun _ _ _ _ _ _ _ us its hl hi => match us, hl, its, hi with | [_, _], _, [_], _ => ⟨_, rfl, rfl⟩
  have F9 := fun_mk (st := s_l_handed) l9 c9 k9
  have b9 := F9.binds (ps := ["_law_bag_here", "_law_shares_here"]) fun _ _ _ _ _ _ us hl => match us, hl with | [_, _], _ => rfl
  have F10 := fun_mk (st := s_l_sum) l10 c10 k10
  have b10 := F10.binds (ps := ["_law_one", "_law_other", "_law_sign"]) fun _ _ _ _ _ _ us hl => match us, hl with | [_, _, _], _ => rfl
  have F11 := fun_mk (st := s_is_name) l11 c11 k11
  have b11 := F11.binds (ps := ["name"]) fun _ _ _ _ _ _ us hl => match us, hl with | [_], _ => rfl
  have F12 := fun_mk (st := s_check_names) l12 c12 k12
  have b12 := F12.binds (ps := ["names"]) fun _ _ _ _ _ _ us hl => match us, hl with | [_], _ => rfl
  have F13 := fun_mk (st := s_as_ratio) l13 c13 k13
  have b13 := F13.binds (ps := ["number"]) fun _ _ _ _ _ _ us hl => match us, hl with | [_], _ => rfl
  have F14 := fun_mk (st := s_Ratio_same) l14 c14 k14
  have b14 := F14.binds (ps := ["self", "other"]) fun _ _ _ _ _ _ us hl => match us, hl with | [_, _], _ => rfl
  have F15 : FunD K "__init__" "Form.__init__" (defArgs s_Form_init) (defBody s_Form_init) (defScope s_Form_init) [.non] [] f15 _ := ⟨⟨_, _, _, _, _, _, _, _, _, _, rfl, l15, c15, .inr ⟨by simp, T15, _, [.none], nT15, rfl, t15, rfl, (.cons rfl .nil)⟩, .inl rfl⟩, k15⟩
  have b15_1 := F15.binds1 (ps := ["self", "shares"]) 2 1 (by simp) (by decide) fun _ _ _ _ _ _ _ us its hl hi => match us, hl, its, hi with | [_, _], _, [_], _ => ⟨_, rfl, rfl⟩
  have b15_0 := F15.binds1 (ps := ["self", "shares"]) 1 0 (by simp) (by decide) fun _ _ _ _ _ _ _ us its hl hi => match us, hl, its, hi with | [_], _, [_], _ => ⟨_, rfl, rfl⟩
  have F16 := fun_mk (st := s_Form_names) l16 c16 k16
  have b16 := F16.binds (ps := ["self"]) fun _ _ _ _ _ _ us hl => match us, hl with | [_], _ => rfl
  have F17 := fun_mk (st := s_Form_share) l17 c17 k17
  have b17 := F17.binds (ps := ["self", "name"]) fun _ _ _ _ _ _ us hl => match us, hl with | [_, _], _ => rfl
  have F18 := fun_mk (st := s_Ratio_add) l18 c18 k18
  have b18 := F18.binds (ps := ["self", "other"]) fun _ _ _ _ _ _ us hl => match us, hl with | [_, _], _ => rfl
  have F19 := fun_mk (st := s_Form_add) l19 c19 k19
  have b19 := F19.binds (ps := ["self", "other"]) fun _ _ _ _ _ _ us hl => match us, hl with | [_, _], _ => rfl
  have F20 := fun_mk (st := s_Ratio_mul) l20 c20 k20
  have b20 := F20.binds (ps := ["self", "other"]) fun _ _ _ _ _ _ us hl => match us, hl with | [_, _], _ => rfl
  have F21 := fun_mk (st := s_Form_mul) l21 c21 k21
  have b21 := F21.binds (ps := ["self", "other"]) fun _ _ _ _ _ _ us hl => match us, hl with | [_, _], _ => rfl
  have F22 := fun_mk (st := s_Form_neg) l22 c22 k22
  have b22 := F22.binds (ps := ["self"]) fun _ _ _ _ _ _ us hl => match us, hl with | [_], _ => rfl
  have F23 := fun_mk (st := s_Form_sub) l23 c23 k23
  have b23 := F23.binds (ps := ["self", "other"]) fun _ _ _ _ _ _ us hl => match us, hl with | [_, _], _ => rfl
  have F24 := fun_mk (st := s_parting) l24 c24 k24
  have b24 := F24.binds (ps := ["one", "other"]) fun _ _ _ _ _ _ us hl => match us, hl with | [_, _], _ => rfl
  have F25 := fun_mk (st := s_l_pick) l25 c25 k25
  have b25 := F25.binds (ps := ["_law_bag_here", "_law_items"]) fun _ _ _ _ _ _ us hl => match us, hl with | [_, _], _ => rfl
  have F26 := fun_mk (st := s_l_differ) l26 c26 k26
  have b26 := F26.binds (ps := ["_law_one", "_law_other", "_law_prices"]) fun _ _ _ _ _ _ us hl => match us, hl with | [_, _, _], _ => rfl
  have F27 := fun_mk (st := s_l_number) l27 c27 k27
  have b27 := F27.binds (ps := ["_law_value"]) fun _ _ _ _ _ _ us hl => match us, hl with | [_], _ => rfl
  have F28 := fun_mk (st := s_l_told_right) l28 c28 k28
  have b28 := F28.binds (ps := ["_law_told", "_law_one", "_law_other"]) fun _ _ _ _ _ _ us hl => match us, hl with | [_, _, _], _ => rfl
  have F29 := fun_mk (st := s_Form_same) l29 c29 k29
  have b29 := F29.binds (ps := ["self", "other"]) fun _ _ _ _ _ _ us hl => match us, hl with | [_, _], _ => rfl
  have F30 := fun_mk (st := s_law) l30 c30 k30
  have b30 := F30.binds (ps := ["_law_script"]) fun _ _ _ _ _ _ us hl => match us, hl with | [_], _ => rfl
  refine ⟨PySem.W.fnOf "law" "law" (defArgs s_law) (defBody s_law) (defScope s_law) .none kV30 dc30 pm30 an30 cd30 ct30, fun s v => .of_eq rfl, fun base _ _ => ?_⟩
  have O0 : Own l.prog w K mg base 1 "_law_bag" ["_law_script"] (sp_l_bag K (fun n => if n = 0 then C0 else if n = 1 then C1 else if n = 4 then C4 else if n = 5 then C5 else if n = 6 then C6 else if n = 2 then C2 else if n = 3 then C3 else 0)) := ⟨⟨f0, _, ok_l_bag F0 T , PySem.W.mg_of X G a0, k0, b0⟩⟩
  have O1 : Own l.prog w K mg base 1 "_law_draw" ["_law_bag_here", "_law_size"] (sp_l_draw K (fun n => if n = 0 then C0 else if n = 1 then C1 else if n = 4 then C4 else if n = 5 then C5 else if n = 6 then C6 else if n = 2 then C2 else if n = 3 then C3 else 0)) := ⟨⟨f1, _, ok_l_draw F1 T , PySem.W.mg_of X G a1, k1, b1⟩⟩
  have O2 : Own l.prog w K mg base 2 "_law_names" ["_law_bag_here", "_law_count", "_law_words"] (sp_l_names K (fun n => if n = 0 then C0 else if n = 1 then C1 else if n = 4 then C4 else if n = 5 then C5 else if n = 6 then C6 else if n = 2 then C2 else if n = 3 then C3 else 0)) := ⟨⟨f2, _, ok_l_names F2 T O1, PySem.W.mg_of X G a2, k2, b2⟩⟩
  have O3 : Own l.prog w K mg base 1 "_law_divisor" ["_law_one", "_law_other"] (sp_l_divisor K (fun n => if n = 0 then C0 else if n = 1 then C1 else if n = 4 then C4 else if n = 5 then C5 else if n = 6 then C6 else if n = 2 then C2 else if n = 3 then C3 else 0)) := ⟨⟨f3, _, ok_l_divisor F3 T , PySem.W.mg_of X G a3, k3, b3⟩⟩
  have O4 : Own l.prog w K mg base 2 "_law_lowest" ["_law_top_here", "_law_bottom"] (sp_l_lowest K (fun n => if n = 0 then C0 else if n = 1 then C1 else if n = 4 then C4 else if n = 5 then C5 else if n = 6 then C6 else if n = 2 then C2 else if n = 3 then C3 else 0)) := ⟨⟨f4, _, ok_l_lowest F4 T O3, PySem.W.mg_of X G a4, k4, b4⟩⟩
  have O5 : Own l.prog w K mg base 2 "_law_top" ["_law_bag_here"] (sp_l_top K (fun n => if n = 0 then C0 else if n = 1 then C1 else if n = 4 then C4 else if n = 5 then C5 else if n = 6 then C6 else if n = 2 then C2 else if n = 3 then C3 else 0)) := ⟨⟨f5, _, ok_l_top F5 T O1, PySem.W.mg_of X G a5, k5, b5⟩⟩
  have O6 : Own l.prog w K mg base 3 "_law_share" ["_law_bag_here"] (sp_l_share K (fun n => if n = 0 then C0 else if n = 1 then C1 else if n = 4 then C4 else if n = 5 then C5 else if n = 6 then C6 else if n = 2 then C2 else if n = 3 then C3 else 0)) := ⟨⟨f6, _, ok_l_share F6 T O4 O1 O5, PySem.W.mg_of X G a6, k6, b6⟩⟩
  have O7 : Own l.prog w K mg base 4 "_law_shares" ["_law_bag_here", "_law_names_here"] (sp_l_shares K (fun n => if n = 0 then C0 else if n = 1 then C1 else if n = 4 then C4 else if n = 5 then C5 else if n = 6 then C6 else if n = 2 then C2 else if n = 3 then C3 else 0)) := ⟨⟨f7, _, ok_l_shares F7 T O1 O6, PySem.W.mg_of X G a7, k7, b7⟩⟩
  obtain ⟨ds8_2, vd8_2, bd8_2⟩ := b8_2
  have O8_2 : OwnI l.prog w K mg base 1 "Ratio" C2 ["self", "top", "bottom"] [] (sp_Ratio_init K (fun n => if n = 0 then C0 else if n = 1 then C1 else if n = 4 then C4 else if n = 5 then C5 else if n = 6 then C6 else if n = 2 then C2 else if n = 3 then C3 else 0)) := ⟨⟨f8, _, _, ok_Ratio_init F8 T , ⟨mk2, a8, i8, kc2⟩, PySem.W.mg_of X G aC2, bd8_2, vd8_2⟩⟩
  obtain ⟨ds8_1, vd8_1, bd8_1⟩ := b8_1
  have O8_1 : OwnI l.prog w K mg base 1 "Ratio" C2 ["self", "top", "bottom"] [.int 1] (sp_Ratio_init K (fun n => if n = 0 then C0 else if n = 1 then C1 else if n = 4 then C4 else if n = 5 then C5 else if n = 6 then C6 else if n = 2 then C2 else if n = 3 then C3 else 0)) := ⟨⟨f8, _, _, ok_Ratio_init F8 T , ⟨mk2, a8, i8, kc2⟩, PySem.W.mg_of X G aC2, bd8_1, vd8_1⟩⟩
  have O9 : Own l.prog w K mg base 3 "_law_handed" ["_law_bag_here", "_law_shares_here"] (sp_l_handed K (fun n => if n = 0 then C0 else if n = 1 then C1 else if n = 4 then C4 else if n = 5 then C5 else if n = 6 then C6 else if n = 2 then C2 else if n = 3 then C3 else 0)) := ⟨⟨f9, _, ok_l_handed F9 T O1 O8_2 O8_1, PySem.W.mg_of X G a9, k9, b9⟩⟩
  have O10 : Own l.prog w K mg base 3 "_law_sum" ["_law_one", "_law_other", "_law_sign"] (sp_l_sum K (fun n => if n = 0 then C0 else if n = 1 then C1 else if n = 4 then C4 else if n = 5 then C5 else if n = 6 then C6 else if n = 2 then C2 else if n = 3 then C3 else 0)) := ⟨⟨f10, _, ok_l_sum F10 T O4, PySem.W.mg_of X G a10, k10, b10⟩⟩
  have O11 : Own l.prog w K mg base 1 "is_name" ["name"] (sp_is_name K (fun n => if n = 0 then C0 else if n = 1 then C1 else if n = 4 then C4 else if n = 5 then C5 else if n = 6 then C6 else if n = 2 then C2 else if n = 3 then C3 else 0)) := ⟨⟨f11, _, ok_is_name F11 T , PySem.W.mg_of X G a11, k11, b11⟩⟩
  have O12 : Own l.prog w K mg base 2 "check_names" ["names"] (sp_check_names K (fun n => if n = 0 then C0 else if n = 1 then C1 else if n = 4 then C4 else if n = 5 then C5 else if n = 6 then C6 else if n = 2 then C2 else if n = 3 then C3 else 0)) := ⟨⟨f12, _, ok_check_names F12 T O11, PySem.W.mg_of X G a12, k12, b12⟩⟩
  have O13 : Own l.prog w K mg base 3 "as_ratio" ["number"] (sp_as_ratio K (fun n => if n = 0 then C0 else if n = 1 then C1 else if n = 4 then C4 else if n = 5 then C5 else if n = 6 then C6 else if n = 2 then C2 else if n = 3 then C3 else 0)) := ⟨⟨f13, _, ok_as_ratio F13 T O8_2 O8_1, PySem.W.mg_of X G a13, k13, b13⟩⟩
  have O14 : OwnM l.prog w K mg base 4 C2 "same" ["self", "other"] (sp_Ratio_same K (fun n => if n = 0 then C0 else if n = 1 then C1 else if n = 4 then C4 else if n = 5 then C5 else if n = 6 then C6 else if n = 2 then C2 else if n = 3 then C3 else 0)) := ⟨⟨pg2, hd2, po2, sa2⟩, ⟨f14, _, ok_Ratio_same F14 T O13, ⟨a14, i14, k14⟩, b14⟩⟩
  obtain ⟨ds15_1, vd15_1, bd15_1⟩ := b15_1
  have O15_1 : OwnI l.prog w K mg base 5 "Form" C3 ["self", "shares"] [] (sp_Form_init K (fun n => if n = 0 then C0 else if n = 1 then C1 else if n = 4 then C4 else if n = 5 then C5 else if n = 6 then C6 else if n = 2 then C2 else if n = 3 then C3 else 0)) := ⟨⟨f15, _, _, ok_Form_init F15 T O12 O13 O14, ⟨mk3, a15, i15, kc3⟩, PySem.W.mg_of X G aC3, bd15_1, vd15_1⟩⟩
  obtain ⟨ds15_0, vd15_0, bd15_0⟩ := b15_0
  have O15_0 : OwnI l.prog w K mg base 5 "Form" C3 ["self", "shares"] [.non] (sp_Form_init K (fun n => if n = 0 then C0 else if n = 1 then C1 else if n = 4 then C4 else if n = 5 then C5 else if n = 6 then C6 else if n = 2 then C2 else if n = 3 then C3 else 0)) := ⟨⟨f15, _, _, ok_Form_init F15 T O12 O13 O14, ⟨mk3, a15, i15, kc3⟩, PySem.W.mg_of X G aC3, bd15_0, vd15_0⟩⟩
  have O16 : OwnM l.prog w K mg base 1 C3 "names" ["self"] (sp_Form_names K (fun n => if n = 0 then C0 else if n = 1 then C1 else if n = 4 then C4 else if n = 5 then C5 else if n = 6 then C6 else if n = 2 then C2 else if n = 3 then C3 else 0)) := ⟨⟨pg3, hd3, po3, sa3⟩, ⟨f16, _, ok_Form_names F16 T , ⟨a16, i16, k16⟩, b16⟩⟩
  have O17 : OwnM l.prog w K mg base 3 C3 "share" ["self", "name"] (sp_Form_share K (fun n => if n = 0 then C0 else if n = 1 then C1 else if n = 4 then C4 else if n = 5 then C5 else if n = 6 then C6 else if n = 2 then C2 else if n = 3 then C3 else 0)) := ⟨⟨pg3, hd3, po3, sa3⟩, ⟨f17, _, ok_Form_share F17 T O8_2 O8_1, ⟨a17, i17, k17⟩, b17⟩⟩
  have O18 : OwnM l.prog w K mg base 4 C2 "__add__" ["self", "other"] (sp_Ratio_add K (fun n => if n = 0 then C0 else if n = 1 then C1 else if n = 4 then C4 else if n = 5 then C5 else if n = 6 then C6 else if n = 2 then C2 else if n = 3 then C3 else 0)) := ⟨⟨pg2, hd2, po2, sa2⟩, ⟨f18, _, ok_Ratio_add F18 T O13 O8_2 O8_1, ⟨a18, i18, k18⟩, b18⟩⟩
  have O19 : OwnM l.prog w K mg base 7 C3 "__add__" ["self", "other"] (sp_Form_add K (fun n => if n = 0 then C0 else if n = 1 then C1 else if n = 4 then C4 else if n = 5 then C5 else if n = 6 then C6 else if n = 2 then C2 else if n = 3 then C3 else 0)) := ⟨⟨pg3, hd3, po3, sa3⟩, ⟨f19, _, ok_Form_add F19 T O15_1 O15_0 O16 O17 O18, ⟨a19, i19, k19⟩, b19⟩⟩
  have O20 : OwnM l.prog w K mg base 4 C2 "__mul__" ["self", "other"] (sp_Ratio_mul K (fun n => if n = 0 then C0 else if n = 1 then C1 else if n = 4 then C4 else if n = 5 then C5 else if n = 6 then C6 else if n = 2 then C2 else if n = 3 then C3 else 0)) := ⟨⟨pg2, hd2, po2, sa2⟩, ⟨f20, _, ok_Ratio_mul F20 T O13 O8_2 O8_1, ⟨a20, i20, k20⟩, b20⟩⟩
  have O21 : OwnM l.prog w K mg base 7 C3 "__mul__" ["self", "other"] (sp_Form_mul K (fun n => if n = 0 then C0 else if n = 1 then C1 else if n = 4 then C4 else if n = 5 then C5 else if n = 6 then C6 else if n = 2 then C2 else if n = 3 then C3 else 0)) := ⟨⟨pg3, hd3, po3, sa3⟩, ⟨f21, _, ok_Form_mul F21 T O15_1 O15_0 O20, ⟨a21, i21, k21⟩, b21⟩⟩
  have O22 : OwnM l.prog w K mg base 8 C3 "__neg__" ["self"] (sp_Form_neg K (fun n => if n = 0 then C0 else if n = 1 then C1 else if n = 4 then C4 else if n = 5 then C5 else if n = 6 then C6 else if n = 2 then C2 else if n = 3 then C3 else 0)) := ⟨⟨pg3, hd3, po3, sa3⟩, ⟨f22, _, ok_Form_neg F22 T O21, ⟨a22, i22, k22⟩, b22⟩⟩
  have O23 : OwnM l.prog w K mg base 9 C3 "__sub__" ["self", "other"] (sp_Form_sub K (fun n => if n = 0 then C0 else if n = 1 then C1 else if n = 4 then C4 else if n = 5 then C5 else if n = 6 then C6 else if n = 2 then C2 else if n = 3 then C3 else 0)) := ⟨⟨pg3, hd3, po3, sa3⟩, ⟨f23, _, ok_Form_sub F23 T O19 O22, ⟨a23, i23, k23⟩, b23⟩⟩
  have O24 : Own l.prog w K mg base 10 "parting" ["one", "other"] (sp_parting K (fun n => if n = 0 then C0 else if n = 1 then C1 else if n = 4 then C4 else if n = 5 then C5 else if n = 6 then C6 else if n = 2 then C2 else if n = 3 then C3 else 0)) := ⟨⟨f24, _, ok_parting F24 T O23 O16, PySem.W.mg_of X G a24, k24, b24⟩⟩
  have O25 : Own l.prog w K mg base 2 "_law_pick" ["_law_bag_here", "_law_items"] (sp_l_pick K (fun n => if n = 0 then C0 else if n = 1 then C1 else if n = 4 then C4 else if n = 5 then C5 else if n = 6 then C6 else if n = 2 then C2 else if n = 3 then C3 else 0)) := ⟨⟨f25, _, ok_l_pick F25 T O1, PySem.W.mg_of X G a25, k25, b25⟩⟩
  have O26 : Own l.prog w K mg base 4 "_law_differ" ["_law_one", "_law_other", "_law_prices"] (sp_l_differ K (fun n => if n = 0 then C0 else if n = 1 then C1 else if n = 4 then C4 else if n = 5 then C5 else if n = 6 then C6 else if n = 2 then C2 else if n = 3 then C3 else 0)) := ⟨⟨f26, _, ok_l_differ F26 T O10 O4, PySem.W.mg_of X G a26, k26, b26⟩⟩
  have O27 : Own l.prog w K mg base 1 "_law_number" ["_law_value"] (sp_l_number K (fun n => if n = 0 then C0 else if n = 1 then C1 else if n = 4 then C4 else if n = 5 then C5 else if n = 6 then C6 else if n = 2 then C2 else if n = 3 then C3 else 0)) := ⟨⟨f27, _, ok_l_number F27 T , PySem.W.mg_of X G a27, k27, b27⟩⟩
  have O28 : Own l.prog w K mg base 5 "_law_told_right" ["_law_told", "_law_one", "_law_other"] (sp_l_told_right K (fun n => if n = 0 then C0 else if n = 1 then C1 else if n = 4 then C4 else if n = 5 then C5 else if n = 6 then C6 else if n = 2 then C2 else if n = 3 then C3 else 0)) := ⟨⟨f28, _, ok_l_told_right F28 T O26 O27, PySem.W.mg_of X G a28, k28, b28⟩⟩
  have O29 : OwnM l.prog w K mg base 10 C3 "same" ["self", "other"] (sp_Form_same K (fun n => if n = 0 then C0 else if n = 1 then C1 else if n = 4 then C4 else if n = 5 then C5 else if n = 6 then C6 else if n = 2 then C2 else if n = 3 then C3 else 0)) := ⟨⟨pg3, hd3, po3, sa3⟩, ⟨f29, _, ok_Form_same F29 T O23 O16, ⟨a29, i29, k29⟩, b29⟩⟩
  have z : FnOk l.prog w K mg base (L2.CX l.prog w) 11 _ _ ["_law_script"] (sp_law K (fun n => if n = 0 then C0 else if n = 1 then C1 else if n = 4 then C4 else if n = 5 then C5 else if n = 6 then C6 else if n = 2 then C2 else if n = 3 then C3 else 0)) := ok_law F30 T O0 O2 O7 O1 O9 O6 O10 O24 O25 O28 O15_1 O15_0 O29
  exact z
end Lo
open PySem PySem.W PyProof.Rows in
set_option maxRecDepth 100000 in
set_option maxHeartbeats 0 in
theorem PySem.Challenge.cw_lotcosts_k23_prices_that_part_forms_holds : PySem.Challenge.rw_lotcosts_k23_prices_that_part_forms.Holds := by
  w_on; o_law; k_head; (case hw => w_witness2)
  k_fill
  refine Lo.walk (l := PySem.Challenge.rw_lotcosts_k23_prices_that_part_forms) 11 ⟨rfl, by decide, by decide⟩ rfl rfl (fun w h Y => PySem.W.kIn_of Y) ?F
  case F =>
    intro w mg fa h KX G hmg
    refine' Lo.all_mk KX G hmg ?aC0 ?aC1 ?aC4 ?aC5 ?aC6 ?aC2 ?aC3 ?pg2 ?hd2 ?po2 ?sa2 ?mk2 ?kc2 ?pg3 ?hd3 ?po3 ?sa3 ?mk3 ?kc3 ?z_abs ?z_all ?z_bool ?z_dict ?z_int ?z_isinstance ?z_len ?z_list ?z_min ?z_range ?z_set ?z_sorted ?z_str ?z_gcd ?zc__LONGEST ?fkp_NoRatio ?fex_NoRatio ?fsb_NoRatio ?fty_NoRatio ?fna_Ratio_top ?fna_Ratio_bottom ?fic_Ratio ?fo5 ?fo6 ?fim_Ratio ?fr1_Ratio ?fr2_Ratio ?fr3_Ratio ?fr4_Ratio ?fmro_Ratio ?fr_iadd_Ratio ?fro_iadd ?fr_isub_Ratio ?fro_isub ?fr_imul_Ratio ?fro_imul ?fri_add ?fri_radd ?fri_sub ?fri_rsub ?fri_mul ?fri_rmul ?frr_radd_Ratio ?frs_radd_Ratio ?frr_rsub_Ratio ?frs_rsub_Ratio ?frr_rmul_Ratio ?frs_rmul_Ratio ?frh_add_Ratio ?frh_sub_Ratio ?frh_mul_Ratio ?fna_Form__shares ?fr1_Form ?fr2_Form ?fr3_Form ?fr4_Form ?fmro_Form ?fr_iadd_Form ?fr_isub_Form ?fr_imul_Form ?frr_radd_Form ?frs_radd_Form ?frr_rsub_Form ?frs_rsub_Form ?frr_rmul_Form ?frs_rmul_Form ?frh_add_Form ?frh_sub_Form ?frh_mul_Form ?fki_int_Ratio ?a0 ?l0 ?c0 ?k0 ?a1 ?l1 ?c1 ?k1 ?a2 ?l2 ?c2 ?k2 ?a3 ?l3 ?c3 ?k3 ?a4 ?l4 ?c4 ?k4 ?a5 ?l5 ?c5 ?k5 ?a6 ?l6 ?c6 ?k6 ?a7 ?l7 ?c7 ?k7 ?a8 ?i8 ?l8 ?c8 ?k8 ?t8 ?a9 ?l9 ?c9 ?k9 ?a10 ?l10 ?c10 ?k10 ?a11 ?l11 ?c11 ?k11 ?a12 ?l12 ?c12 ?k12 ?a13 ?l13 ?c13 ?k13 ?a14 ?i14 ?l14 ?c14 ?k14 ?a15 ?i15 ?l15 ?c15 ?k15 ?t15 ?a16 ?i16 ?l16 ?c16 ?k16 ?a17 ?i17 ?l17 ?c17 ?k17 ?a18 ?i18 ?l18 ?c18 ?k18 ?a19 ?i19 ?l19 ?c19 ?k19 ?a20 ?i20 ?l20 ?c20 ?k20 ?a21 ?i21 ?l21 ?c21 ?k21 ?a22 ?i22 ?l22 ?c22 ?k22 ?a23 ?i23 ?l23 ?c23 ?k23 ?a24 ?l24 ?c24 ?k24 ?a25 ?l25 ?c25 ?k25 ?a26 ?l26 ?c26 ?k26 ?a27 ?l27 ?c27 ?k27 ?a28 ?l28 ?c28 ?k28 ?a29 ?i29 ?l29 ?c29 ?k29 ?a30 ?l30 ?c30 ?k30
    (case aC0 => k_is)
    (case aC1 => k_is)
    (case aC4 => k_is)
    (case aC5 => k_is)
    (case aC6 => k_is)
    (case aC2 => k_is)
    (case aC3 => k_is)
    (case pg2 => k_is)
    (case hd2 => k_is)
    (case po2 => k_is)
    (case sa2 => k_is)
    (case mk2 => k_is)
    (case kc2 => k_is)
    (case pg3 => k_is)
    (case hd3 => k_is)
    (case po3 => k_is)
    (case sa3 => k_is)
    (case mk3 => k_is)
    (case kc3 => k_is)
    (case z_abs => k_is)
    (case z_all => k_is)
    (case z_bool => k_is)
    (case z_dict => k_is)
    (case z_int => k_is)
    (case z_isinstance => k_is)
    (case z_len => k_is)
    (case z_list => k_is)
    (case z_min => k_is)
    (case z_range => k_is)
    (case z_set => k_is)
    (case z_sorted => k_is)
    (case z_str => k_is)
    (case z_gcd => k_is)
    (case zc__LONGEST => k_is)
    (case fkp_NoRatio => k_is)
    (case fex_NoRatio => k_exc)
    (case fsb_NoRatio => k_is)
    (case fty_NoRatio => k_is)
    (case fna_Ratio_top => k_is)
    (case fna_Ratio_bottom => k_is)
    (case fic_Ratio => k_is)
    (case fo5 => k_is)
    (case fo6 => k_is)
    (case fim_Ratio => k_is)
    (case fr1_Ratio => k_is)
    (case fr2_Ratio => k_is)
    (case fr3_Ratio => k_is)
    (case fr4_Ratio => k_is)
    (case fmro_Ratio => rfl)
    (case fr_iadd_Ratio => k_is)
    (case fro_iadd => k_is)
    (case fr_isub_Ratio => k_is)
    (case fro_isub => k_is)
    (case fr_imul_Ratio => k_is)
    (case fro_imul => k_is)
    (case fri_add => k_is)
    (case fri_radd => k_is)
    (case fri_sub => k_is)
    (case fri_rsub => k_is)
    (case fri_mul => k_is)
    (case fri_rmul => k_is)
    (case frr_radd_Ratio => k_is)
    (case frs_radd_Ratio => rfl)
    (case frr_rsub_Ratio => k_is)
    (case frs_rsub_Ratio => rfl)
    (case frr_rmul_Ratio => k_is)
    (case frs_rmul_Ratio => rfl)
    (case frh_add_Ratio => k_is)
    (case frh_sub_Ratio => k_is)
    (case frh_mul_Ratio => k_is)
    (case fna_Form__shares => k_is)
    (case fr1_Form => k_is)
    (case fr2_Form => k_is)
    (case fr3_Form => k_is)
    (case fr4_Form => k_is)
    (case fmro_Form => rfl)
    (case fr_iadd_Form => k_is)
    (case fr_isub_Form => k_is)
    (case fr_imul_Form => k_is)
    (case frr_radd_Form => k_is)
    (case frs_radd_Form => rfl)
    (case frr_rsub_Form => k_is)
    (case frs_rsub_Form => rfl)
    (case frr_rmul_Form => k_is)
    (case frs_rmul_Form => rfl)
    (case frh_add_Form => k_is)
    (case frh_sub_Form => k_is)
    (case frh_mul_Form => k_is)
    (case fki_int_Ratio => kit_is)
    (case a0 => k_is)
    (case l0 => k_is)
    (case c0 => k_is)
    (case k0 => k_is)
    (case a1 => k_is)
    (case l1 => k_is)
    (case c1 => k_is)
    (case k1 => k_is)
    (case a2 => k_is)
    (case l2 => k_is)
    (case c2 => k_is)
    (case k2 => k_is)
    (case a3 => k_is)
    (case l3 => k_is)
    (case c3 => k_is)
    (case k3 => k_is)
    (case a4 => k_is)
    (case l4 => k_is)
    (case c4 => k_is)
    (case k4 => k_is)
    (case a5 => k_is)
    (case l5 => k_is)
    (case c5 => k_is)
    (case k5 => k_is)
    (case a6 => k_is)
    (case l6 => k_is)
    (case c6 => k_is)
    (case k6 => k_is)
    (case a7 => k_is)
    (case l7 => k_is)
    (case c7 => k_is)
    (case k7 => k_is)
    (case a8 => k_is)
    (case i8 => k_is)
    (case l8 => k_is)
    (case c8 => k_is)
    (case k8 => k_is)
    (case t8 => k_is)
    (case a9 => k_is)
    (case l9 => k_is)
    (case c9 => k_is)
    (case k9 => k_is)
    (case a10 => k_is)
    (case l10 => k_is)
    (case c10 => k_is)
    (case k10 => k_is)
    (case a11 => k_is)
    (case l11 => k_is)
    (case c11 => k_is)
    (case k11 => k_is)
    (case a12 => k_is)
    (case l12 => k_is)
    (case c12 => k_is)
    (case k12 => k_is)
    (case a13 => k_is)
    (case l13 => k_is)
    (case c13 => k_is)
    (case k13 => k_is)
    (case a14 => k_is)
    (case i14 => k_is)
    (case l14 => k_is)
    (case c14 => k_is)
    (case k14 => k_is)
    (case a15 => k_is)
    (case i15 => k_is)
    (case l15 => k_is)
    (case c15 => k_is)
    (case k15 => k_is)
    (case t15 => k_is)
    (case a16 => k_is)
    (case i16 => k_is)
    (case l16 => k_is)
    (case c16 => k_is)
    (case k16 => k_is)
    (case a17 => k_is)
    (case i17 => k_is)
    (case l17 => k_is)
    (case c17 => k_is)
    (case k17 => k_is)
    (case a18 => k_is)
    (case i18 => k_is)
    (case l18 => k_is)
    (case c18 => k_is)
    (case k18 => k_is)
    (case a19 => k_is)
    (case i19 => k_is)
    (case l19 => k_is)
    (case c19 => k_is)
    (case k19 => k_is)
    (case a20 => k_is)
    (case i20 => k_is)
    (case l20 => k_is)
    (case c20 => k_is)
    (case k20 => k_is)
    (case a21 => k_is)
    (case i21 => k_is)
    (case l21 => k_is)
    (case c21 => k_is)
    (case k21 => k_is)
    (case a22 => k_is)
    (case i22 => k_is)
    (case l22 => k_is)
    (case c22 => k_is)
    (case k22 => k_is)
    (case a23 => k_is)
    (case i23 => k_is)
    (case l23 => k_is)
    (case c23 => k_is)
    (case k23 => k_is)
    (case a24 => k_is)
    (case l24 => k_is)
    (case c24 => k_is)
    (case k24 => k_is)
    (case a25 => k_is)
    (case l25 => k_is)
    (case c25 => k_is)
    (case k25 => k_is)
    (case a26 => k_is)
    (case l26 => k_is)
    (case c26 => k_is)
    (case k26 => k_is)
    (case a27 => k_is)
    (case l27 => k_is)
    (case c27 => k_is)
    (case k27 => k_is)
    (case a28 => k_is)
    (case l28 => k_is)
    (case c28 => k_is)
    (case k28 => k_is)
    (case a29 => k_is)
    (case i29 => k_is)
    (case l29 => k_is)
    (case c29 => k_is)
    (case k29 => k_is)
    (case a30 => k_is)
    (case l30 => k_is)
    (case c30 => k_is)
    (case k30 => k_is)
#print axioms PySem.Challenge.cw_lotcosts_k23_prices_that_part_forms_holds
