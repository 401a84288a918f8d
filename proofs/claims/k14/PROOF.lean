import PyProof.Rows.All
import Wide.All
import OpenK.AllK
import Wide.FinOn
import HandS.ForMost
import HandS.ForExc
import HandS.Flow
import HandS.Wide
import HandS.Gcd
import HandS.IsInst
import HandS.EndBits
import HandS.Defaults
import HandS.Style
import HandS.TryMany
import HandS.ExcIs
import HandS.Small
import HandS.ClsMeth
import HandS.Evl
import KE.RegKIsAll
import KE.KOpsOwn
import HandS.OwnEq
import HandS.DictComp
import HandS.Walk
import HandS.StrMore
import HandS.More
import HandS.Finally
import HandS.NoneIn
import HandS.ExcInit
import HandS.ExcField
import HandS.SetKeys
import HandS.TupSets
import HandS.MakeKwOnly
import KE.KExcIs
import HandS.ExcValue
import PyProof.SumWalkG
import PyProof.WalkInts
import PyProof.TwoTypesSub
import PySem.Challenge.RW_lotcosts_k14_classes_of_errors
set_option Elab.async false
set_option linter.all false
set_option maxRecDepth 100000
set_option maxHeartbeats 4000000
namespace Lo
open PySem PySem.Spec PyProof.Rows L2

/-! ### heaps -/
theorem sget {H H' : Hp} {a : Addr} {o : HO} (s : Same H H') (h : H a = some o) : H' a = some o := s a o h
/-- all but what stands at b is as it was -/
def Keep (b : Addr) (H H' : Hp) : Prop := ∀ a o, H a = some o → a ≠ b → H' a = some o
theorem Keep.of {b : Addr} {H H' : Hp} (s : Same H H') : Keep b H H' := fun a o h _ => s a o h
theorem Keep.trans {b : Addr} {H H1 H2 : Hp} (s : Keep b H H1) (t : Keep b H1 H2) : Keep b H H2 := fun a o h n => t a o (s a o h n) n
theorem kget {b : Addr} {H H' : Hp} {a : Addr} {o : HO} (s : Keep b H H') (n : a ≠ b) (h : H a = some o) : H' a = some o := s a o h n
theorem same_upd {H : Hp} {p : Addr} {o : HO} (h : H p = none) : Same H (upd H p o) := fun a u e => by rw [upd_ne (ne_of_none e h)]; exact e
theorem keep_upd {H : Hp} {p : Addr} {o : HO} : Keep p H (upd H p o) := fun a u e n => by rw [upd_ne n]; exact e
theorem same_put {H H' : Hp} {p : Addr} {o : HO} (n : H p = none) (s : Same H H') : Same H (upd H' p o) := fun a u e => by rw [upd_ne (ne_of_none e n)]; exact s a u e
theorem gen_new {H G : Hp} {p : Addr} {o : HO} (n : H p = none) (g : upd H p o = G) : Same H G ∧ G p = some o := by
  subst g
  exact ⟨same_upd n, upd_same⟩
theorem gen_put {H G : Hp} {p : Addr} {o : HO} (g : upd H p o = G) : Keep p H G ∧ G p = some o := by
  subst g
  exact ⟨keep_upd, upd_same⟩
theorem SqL.same {K : PySem.W.Frag} {H H' : Hp} {a : Addr} {xs : List V} (s : Same H H') (h : SqL K H a xs) : SqL K H' a xs := s.seq h

/-! ### a word between an expression and what follows -/
def tMid (t : TE) : TE := fun σ H Q => ∃ M : V → Hp → Prop, t σ H M ∧ ∀ v H', M v H' → Q v H'
theorem pe_mid {X : Cx} {e : Expr} {t : TE} (h : PE X e t) : PE X e (tMid t) := ⟨fun pins s σ H Q I ⟨M, hm, hq⟩ => thn (h.run pins s σ H M I hm) fun u s1 ⟨v, H1, I1, r, m⟩ => ⟨v, H1, I1, r, hq v H1 m⟩⟩
def tMidT (t : TT) : TT := fun σ H Q => ∃ M : Bool → Hp → Prop, t σ H M ∧ ∀ v H', M v H' → Q v H'
theorem pt_mid {X : Cx} {e : Expr} {t : TT} (h : PT X e t) : PT X e (tMidT t) := ⟨fun pins s σ H Q I ⟨M, hm, hq⟩ => thn (h.run pins s σ H M I hm) fun b s1 ⟨H1, I1, m⟩ => ⟨H1, I1, hq b H1 m⟩⟩
/-! ### own defs, as their callers see them -/
structure Own (P : Program) (w : World) (K : PySem.W.Frag) (mg : Str → Option Value) (base : Heap) (k : Nat) (x : Str) (ps : List Str) (sp : Sp) : Prop where
  ex : ∃ f fd, FnOk P w K mg base (L2.CX P w) k f fd ps sp ∧ mg x = some (.ref f) ∧ PySem.W.keepIn K (.ref f) = true ∧ Binds K fd ps []
structure OwnM (P : Program) (w : World) (K : PySem.W.Frag) (mg : Str → Option Value) (base : Heap) (k : Nat) (C : Addr) (m : Str) (ps : List Str) (sp : Sp) : Prop where
  cl : Cls K C
  ex : ∃ f fd, FnOk P w K mg base (L2.CX P w) k f fd ps sp ∧ Meth K C m f ∧ Binds K fd ps []
structure OwnI (P : Program) (w : World) (K : PySem.W.Frag) (mg : Str → Option Value) (base : Heap) (k : Nat) (x : Str) (C : Addr) (ps : List Str) (dvs : List V) (sp : Sp) : Prop where
  ex : ∃ f fd ds, FnOk P w K mg base (L2.CX P w) k f fd ps sp ∧ Mk K C f ∧ mg x = some (.ref C) ∧ Binds K fd ps ds ∧ Vals dvs ds

section
variable {X : Cx} {k : Nat} {C : Addr} {ps : List Str} {sp : Sp} {E : L2.St → XK} {x m : Str} {p pos apos : Pos} {e o : Expr} {es : List Expr} {ta : TE} {t : TA} {dvs : List V}

theorem pas0 {X : Cx} : ∀ σ, PassesAt (L2.CX X.prog X.w) X σ ((fun _ => E0) σ) := fun σ pins H s e s' I h => by
  obtain ⟨_, _, _, _, _, _, _, _, _, _, _, _, z⟩ := h
  exact z.elim
theorem pasE {X : Cx} {E : XK} (tk : Takes X (fun cls d _ H => E cls d H)) : ∀ σ, PassesAt (L2.CX X.prog X.w) X σ ((fun _ => E) σ) := fun σ => passAt (W := fun cls d _ H => E cls d H) tk σ
theorem pe_own (O : Own X.prog X.w X.K X.mg X.base k x ps sp) (hr : Room k X.A) (hg : Gl X x) (hx : ∀ σ, PassesAt (L2.CX X.prog X.w) X σ (E σ)) (ha : PA X (e :: es) t)
    (hdb : (x == ("__debug__" : Str)) = false := by decide) (he : starEach (e :: es) X.env = (false, eval e X.env) :: starEach es X.env := by rfl) (hpl : (backTo pos (starEach es X.env)).any (·.1) = false := by rfl) :
    PE X (.Call (.Name x p) (e :: es) [] pos) (tCallS sp E t) := by
  obtain ⟨f, fd, F, hm, hk, hb⟩ := O.ex
  exact pe_callS F hr hg hm hk hb hx ha hdb he hpl

def tMethS (C : Addr) (m : Str) (sp : Sp) (E : L2.St → XK) (ta : TE) (t : TA) : TE := fun σ H Q => ta σ H fun x H1 => ∃ a dx fs, x = .ref a ∧ H1 a = some (.ins C dx fs) ∧ fs.lookup m = none ∧
  t σ H1 fun vs H2 => sp (x :: vs) H2 Q (E σ)
theorem pe_ownm {pl : Sem Bool} (O : OwnM X.prog X.w X.K X.mg X.base k C m ps sp) (he : PE X o ta) (hr : Room k X.A) (hx : ∀ σ, PassesAt (L2.CX X.prog X.w) X σ (E σ)) (ha : PA X (e :: es) t)
    (hst : starEach (e :: es) X.env = (false, eval e X.env) :: starEach es X.env := by rfl) (hpl : (backTo pos (starEach es X.env)).any (·.1) = false := by rfl)
    (ht : eval (.Call (.Attribute o m apos) (e :: es) [] pos) X.env = (do
      let ov ← eval o X.env
      standAt apos.atName
      let (f, first) ← holding [ov] (getMethod ov m pl)
      callWith pos f first (backTo pos (starEach (e :: es) X.env)) (backToKw pos (keywordEach [] X.env))) := by rfl) :
    PE X (.Call (.Attribute o m apos) (e :: es) [] pos) (tMethS C m sp E ta t) := by
  obtain ⟨f, fd, F, hm, hb⟩ := O.ex
  refine ⟨fun pins s σ H Q I h => ?_⟩
  refine PySem.W.methodCall_KW (pl := pl) (thn (he.run pins s σ H _ I h) fun u s1 ⟨x, H1, I1, rx, a, dx, fs, ex, ea, l, q⟩ => ?_) ht
  subst ex
  obtain rfl : u = Value.ref a := rx
  refine getmeth_ok I1 ea O.cl hm l ?_
  refine PySem.W.callWith_K (first := [.ref a]) (h₀ := X.base) I.ok.mod.kin hm.kp (thn (ha.run pos pins s1 σ H1 _ I1 q) fun us s2 ⟨vs, H2, I2, r, q2⟩ => ⟨I2.kIn, ?_⟩) hst hpl
  exact run_fnS (us := .ref a :: us) (vs := .ref a :: vs) F hr hb (hx σ) I2 (.cons rfl r) q2
theorem pe_ownm0 {pl : Sem Bool} (O : OwnM X.prog X.w X.K X.mg X.base k C m ps sp) (he : PE X o ta) (hr : Room k X.A) (hx : ∀ σ, PassesAt (L2.CX X.prog X.w) X σ (E σ))
    (ht : eval (.Call (.Attribute o m apos) [] [] pos) X.env = (do
      let ov ← eval o X.env
      standAt apos.atName
      let (f, first) ← holding [ov] (getMethod ov m pl)
      callWith pos f first (backTo pos (starEach [] X.env)) (backToKw pos (keywordEach [] X.env))) := by rfl) :
    PE X (.Call (.Attribute o m apos) [] [] pos) (tMethS C m sp E ta tNil) := by
  obtain ⟨f, fd, F, hm, hb⟩ := O.ex
  refine ⟨fun pins s σ H Q I h => ?_⟩
  refine PySem.W.methodCall_KW (pl := pl) (thn (he.run pins s σ H _ I h) fun u s1 ⟨x, H1, I1, rx, a, dx, fs, ex, ea, l, q⟩ => ?_) ht
  subst ex
  obtain rfl : u = Value.ref a := rx
  refine getmeth_ok I1 ea O.cl hm l ?_
  exact PySem.W.callWith_K0 (first := [.ref a]) I1.kIn hm.kp (run_fnS (us := [.ref a]) (vs := [.ref a]) F hr hb (hx σ) I1 (.cons rfl .nil) q)

def tMakeS (C : Addr) (sp : Sp) (dvs : List V) (E : L2.St → XK) (t : TA) : TE := fun σ H Q => t σ H fun vs H1 => ∀ x dx, H1 x = none → H1 dx = none → dx ≠ x →
  sp (.ref x :: (vs ++ dvs)) (upd (upd H1 dx (.own x)) x (.ins C dx [])) (fun v H2 => v = .non ∧ Q (.ref x) H2) (E σ)
theorem run_makeS {f : Addr} {fd : FuncData} {ds : List Value} {pins : List (Addr × Obj)} {σ : L2.St} {H : Hp} {s : Shared} {Q : VK} {us : List Value} {vs : List V} (M : Mk X.K C f) (F : FnOk X.prog X.w X.K X.mg X.base (L2.CX X.prog X.w) k f fd ps sp)
    (hr : Room (k + 1) X.A) (hb : Binds X.K fd ps ds) (hd : Vals dvs ds) (hx : PassesAt (L2.CX X.prog X.w) X σ (E σ)) (I : Inv X pins σ H s) (r : Vals vs us)
    (h : ∀ x dx, H x = none → H dx = none → dx ≠ x → sp (.ref x :: (vs ++ dvs)) (upd (upd H dx (.own x)) x (.ins C dx [])) (fun v H2 => v = .non ∧ Q (.ref x) H2) (E σ)) :
    wpAny (model X.prog X.w) X.A (call (.ref C) us) (EP X pins σ Q) X.xe s := by
  have hq := h (s.heap.objs.size + 1) s.heap.objs.size (I.hok.fresh (Nat.le_succ _)) (I.hok.fresh (Nat.le_refl _)) (Nat.ne_of_lt (Nat.lt_succ_self _))
  have I2 := Inv.made (C := C) I
  have r2 : Vals (V.ref (s.heap.objs.size + 1) :: (vs ++ dvs)) (Value.ref (s.heap.objs.size + 1) :: (us ++ ds)) := .cons rfl (r.append hd)
  have hl : (Value.ref (s.heap.objs.size + 1) :: us ++ ds).length = ps.length := by
    have e := r2.length
    rw [F.len _ _ _ _ hq] at e
    exact e.symm
  refine wpAny_call (make_map (f := f) I.kIn M.makes M.init (beq_iff_eq.mp M.fn) (codeAny_mono (F.run _ X.stack _ _ ⟨Value.ref (s.heap.objs.size + 1) :: us, []⟩ (Value.ref (s.heap.objs.size + 1) :: (us ++ ds)) _ _ (E σ) (hr.make C us [])
    (I2.env0.make C us []) (hb _ (Value.ref (s.heap.objs.size + 1) :: us) I2.kIn hl) r2 hq) fun r s' hq' => ?_))
  cases r with
  | error e => exact hx pins _ _ e s' I2 hq'
  | ok fl =>
    cases fl with
    | ret u =>
      obtain ⟨v, H', I3, rv, ev, q3⟩ := I2.after hq'
      subst ev
      exact ⟨rv, ⟨V.ref (s.heap.objs.size + 1), H', I3, rfl, q3⟩⟩
    | next => exact False.elim hq'
    | brk => exact False.elim hq'
    | cont => exact False.elim hq'
theorem pe_owni (O : OwnI X.prog X.w X.K X.mg X.base k x C ps dvs sp) (hr : Room (k + 1) X.A) (hg : Gl X x) (hx : ∀ σ, PassesAt (L2.CX X.prog X.w) X σ (E σ)) (ha : PA X (e :: es) t)
    (hdb : (x == ("__debug__" : Str)) = false := by decide) (he : starEach (e :: es) X.env = (false, eval e X.env) :: starEach es X.env := by rfl) (hpl : (backTo pos (starEach es X.env)).any (·.1) = false := by rfl) :
    PE X (.Call (.Name x p) (e :: es) [] pos) (tMakeS C sp dvs E t) := by
  obtain ⟨f, fd, ds, F, M, hm, hb, hd⟩ := O.ex
  refine ⟨fun pins s σ H Q I h => ?_⟩
  refine wpAny_Call_Name_kw (ld_glob I hg hm ?_ hdb)
  refine PySem.W.callWith_K (h₀ := X.base) I.ok.mod.kin M.kp (thn (ha.run pos pins s σ H _ I h) fun us s1 ⟨vs, H1, I1, r, q⟩ => ⟨I1.kIn, ?_⟩) he hpl
  exact run_makeS M F hr hb hd (hx σ) I1 r q
end

def rLenSeq (K : PySem.W.Frag) : List V → Hp → VK → Prop := fun xs H Q => ∃ p ys, xs = [V.ref p] ∧ (SqL K H p ys ∨ SqT K H p ys) ∧ Q (.int ys.length) H
/-! ### own operators -/
section
open PySem.W
section
variable {prog : Program} {w : World} {A : Around} {E : Value → Shared → Prop} {s : Shared} {i : Int} {t : Tok} {x C dx f g : Addr} {K : Frag} {ox : Obj} {od : Option Obj} {nm : String} {Q : Option Value → Shared → Prop} {rc fo ro : Option Value}
theorem slot_fills {M : Model} {h : Heap} (X : K.In h) (hc : selfFirst K C = true) (hs : findIn K (.ref C) (PySem.dunder nm) = some (some (.ref f))) : Looks M h (fillsNumberSlot (.ref C) nm) true := by
  obtain ⟨cd, rest, hcd, hm⟩ := ksp_first hc
  exact fills_K X hcd hm hs
/-- what an own method answers is no NotImplemented -/
theorem bin1_same {b : Value} (X : K.In s.heap) (I : InstAt s.heap x ox C od) (hb : Looks (model prog w) s.heap (typeOf b) (.ref C)) (hc : selfFirst K C = true) (hs : findIn K (.ref C) (PySem.dunder nm) = some (some (.ref f))) (hf : isFn K (.ref f) = true)
    (h : wpAny (model prog w) A (call (.ref f) [.ref x, b]) (PySem.W.CmpBack fun v => Q (some v)) E s) : wpAny (model prog w) A (binaryOp1 nm (.ref x) b) Q E s := by
  have one := ksp_try X I hs hf h
  have L3 : Looks (model prog w) s.heap (fillsNumberSlot (.ref C) nm) true := slot_fills X hc hs
  have L1 : Looks (model prog w) s.heap (typeOf (.ref x)) (.ref C) := I.type
  obtain ⟨hh, gg, d, tt, os⟩ := s
  unfold binaryOp1
  refine wpAny_bind (L1.at (wpAny_bind (hb.at (wpAny_bind (L3.at ?_)))))
  simp only [beq_self_eq_true, if_true]
  ksp_lk
  refine wpAny_mono one (fun r s' hr => ?_) fun _ _ e => e
  obtain ⟨v, rfl, hq⟩ := hr
  ksp_lk
  exact hq
theorem bin1_int (X : K.In s.heap) (I : InstAt s.heap x ox C od) (hc : selfFirst K C = true) (hs : findIn K (.ref C) (PySem.dunder nm) = some (some (.ref f))) (hf : isFn K (.ref f) = true) (hr : findIn K (.ref C) (dunderR nm) = some rc) (hp : rc = none ∨ ∃ g : Addr, rc = some (.ref g))
    (h1 : findIn K (.type "int") (PySem.dunder nm) = some fo) (h2 : findIn K (.type "int") (dunderR nm) = some ro) (hsub : subIn K (.type "int") (.ref C) = some false)
    (h : wpAny (model prog w) A (call (.ref f) [.ref x, .int i t]) (PySem.W.CmpBack fun v => Q (some v)) E s) : wpAny (model prog w) A (binaryOp1 nm (.ref x) (.int i t)) Q E s := by
  have one := ksp_try X I hs hf h
  have L3 : Looks (model prog w) s.heap (fillsNumberSlot (.ref C) nm) true := slot_fills X hc hs
  have L1 : Looks (model prog w) s.heap (typeOf (.ref x)) (.ref C) := I.type
  have L2 : Looks (model prog w) s.heap (typeOf (.int i t)) (.type "int") := Looks.of_pure rfl
  have L4 : Looks (model prog w) s.heap (fillsNumberSlot (.type "int") nm) ((fo.isSome && !isSeqSlot fo) || (ro.isSome && !isSeqSlot ro)) := ksp_fillsT X h1 h2
  have L5 : Looks (model prog w) s.heap (isSubtype (.type "int") (.ref C)) false := looks_subIn X hsub
  have L6 : Looks (model prog w) s.heap (numberSlotInPython (.ref C) nm) true := ksp_inPy X hs hr hp
  have L7 : Looks (model prog w) s.heap (numberSlotInPython (.type "int") nm) false := Looks.of_pure rfl
  have L8 : Looks (model prog w) s.heap (typeLookup (.type "int") (dunderR nm)) ro := looks_findIn X h2
  have hne : (Value.ref C == Value.type "int") = false := Bool.eq_false_iff.mpr fun q => by cases beq_iff_eq.mp q
  obtain ⟨hh, gg, d, tt, os⟩ := s
  generalize ((fo.isSome && !isSeqSlot fo) || (ro.isSome && !isSeqSlot ro)) = right at L4
  unfold binaryOp1
  refine wpAny_bind (L1.at (wpAny_bind (L2.at (wpAny_bind (L3.at ?_)))))
  simp only [hne, Bool.false_eq_true, if_false]
  cases right <;>
  · ksp_lk
    refine wpAny_mono one (fun r s' hr => ?_) fun _ _ e => e
    obtain ⟨v, rfl, hq⟩ := hr
    ksp_lk
    exact hq
theorem bin1_refl (X : K.In s.heap) (I : InstAt s.heap x ox C od) (hc : selfFirst K C = true) (hs : findIn K (.ref C) (PySem.dunder nm) = some (some (.ref g))) (hr : findIn K (.ref C) (dunderR nm) = some (some (.ref f))) (hf : isFn K (.ref f) = true)
    (fills : fillsNumberSlot (.type "int") nm = pure true) (hsub : subIn K (.ref C) (.type "int") = some false)
    (decl : ∀ Q : Option Value → Shared → Prop, Q none s → wpAny (model prog w) A (tryMethod (.int i t) (PySem.dunder nm) (.ref x)) Q E s)
    (h : wpAny (model prog w) A (call (.ref f) [.ref x, .int i t]) (PySem.W.CmpBack fun v => Q (some v)) E s) : wpAny (model prog w) A (binaryOp1 nm (.int i t) (.ref x)) Q E s := by
  have one := ksp_try X I hr hf h
  have L3 : Looks (model prog w) s.heap (fillsNumberSlot (.ref C) nm) true := slot_fills X hc hs
  have L1 : Looks (model prog w) s.heap (typeOf (.ref x)) (.ref C) := I.type
  have L2 : Looks (model prog w) s.heap (typeOf (.int i t)) (.type "int") := Looks.of_pure rfl
  have L4 : Looks (model prog w) s.heap (fillsNumberSlot (.type "int") nm) true := Looks.of_pure fills
  have L5 : Looks (model prog w) s.heap (isSubtype (.ref C) (.type "int")) false := looks_subIn X hsub
  have L7 : Looks (model prog w) s.heap (numberSlotInPython (.type "int") nm) false := Looks.of_pure rfl
  have hne : (Value.type "int" == Value.ref C) = false := Bool.eq_false_iff.mpr fun q => by cases beq_iff_eq.mp q
  obtain ⟨hh, gg, d, tt, os⟩ := s
  unfold binaryOp1
  refine wpAny_bind (L2.at (wpAny_bind (L1.at (wpAny_bind (L4.at ?_)))))
  simp only [hne, Bool.false_eq_true, if_false]
  ksp_lk
  refine decl _ ?_
  ksp_lk
  refine wpAny_mono one (fun r s' hr => ?_) fun _ _ e => e
  obtain ⟨v, rfl, hq⟩ := hr
  ksp_lk
  exact hq
end
end

/-! ### own arithmetic -/
section
variable {prog : Program} {w : World} {A : Around} {E : Value → Shared → Prop} {s : Shared} {i : Int} {t : Tok} {x C dx : Addr}
theorem int_declines {id : String} {B : Builtin} {nm : Str} {name : String} {f : Int → Int → Sem Fin} (slot : Slot "int" nm id) (entry : entryFor table id = some B) (args : ∀ a b : Value, argsOk id ⟨[a, b], []⟩) (hB : B = Builtin.Int.intBinary name f) (hx : s.heap.get? x = some (PySem.W.instObj C dx))
    (Q : Option Value → Shared → Prop) (h : Q none s) : wpAny (model prog w) A (tryMethod (.int i t) nm (.ref x)) Q E s := by
  refine wpAny_tryMethod_declines (typeIs_int s i t) slot (wpAny_call_entry slot (typeIs_int s i t) entry ?_ (args _ _))
  rw [hB]
  unfold Builtin.Int.intBinary
  obtain ⟨hp, g, d, tk, os⟩ := s
  wp_walk using wpAny_load' hx
  exact ⟨_, rfl, rfl, h⟩
theorem bin_of1 {op : Operator} {a b : Value} {Q : Value → Shared → Prop} (h : wpAny (model prog w) A (binaryOp1 op.info.2 a b) (fun r s' => ∃ v, r = some v ∧ Q v s') E s) : wpAny (model prog w) A (binaryOp op a b) Q E s := by
  unfold binaryOp
  refine wpAny_holding (wpAny_bind (wpAny_mono h (fun r s' hr => ?_) fun _ _ e => e))
  obtain ⟨v, rfl, hq⟩ := hr
  exact wpAny_pure hq
theorem inp_of1 {op : Operator} {a b ta : Value} {Q : Value → Shared → Prop} (ht : PySem.W.Looks (model prog w) s.heap (typeOf a) ta) (hn : PySem.W.Looks (model prog w) s.heap (fillsInplaceSlot ta op.info.2 (op == .Add)) false)
    (h : wpAny (model prog w) A (binaryOp1 op.info.2 a b) (fun r s' => ∃ v, r = some v ∧ Q v s') E s) : wpAny (model prog w) A (inplaceOp op a b) Q E s := by
  unfold inplaceOp
  refine wpAny_holding (wpAny_bind (ht.here (wpAny_bind (hn.here ?_))))
  simp only [Bool.false_eq_true, if_false]
  refine wpAny_bind (wpAny_mono h (fun r s' hr => ?_) fun _ _ e => e)
  obtain ⟨v, rfl, hq⟩ := hr
  exact wpAny_pure hq
end
section
variable {prog : Program} {w : World} {A : Around} {E : Value → Shared → Prop} {s : Shared} {x C : Addr} {K : PySem.W.Frag} {cd : ClassData}
theorem no_inplace {M : Model} {h : Heap} {nm : String} {add : Bool} (X : K.In h) (hc : PySem.W.clsIn K C = some cd) (hm : cd.mro = [.ref C, .type "object"]) (h1 : PySem.W.findIn K (.ref C) (dunderI nm) = some none) (h2 : PySem.W.findIn K (.type "object") (dunderI nm) = some none) :
    PySem.W.Looks M h (fillsInplaceSlot (.ref C) nm add) false := by
  intro A Q E s k q
  have Lm : PySem.W.Looks M h (mroOf (.ref C)) cd.mro := (PySem.W.looks_clsIn X hc).andThen (f := fun cd => pure cd.mro) .now
  have L1 : PySem.W.Looks M h (typeLookup (.ref C) (dunderI nm)) none := PySem.W.looks_findIn X h1
  have L2 : PySem.W.Looks M h (typeLookup (.type "object") (dunderI nm)) none := PySem.W.looks_findIn X h2
  unfold fillsInplaceSlot
  refine wpAny_bind (Lm.keeps k |>.here ?_)
  rw [hm, List.anyM_cons]
  refine wpAny_bind (wpAny_bind ((L1.keeps k).here ?_))
  refine wpAny_pure ?_
  rw [List.anyM_cons]
  refine wpAny_bind (wpAny_bind ((L2.keeps k).here ?_))
  refine wpAny_pure ?_
  exact wpAny_pure q
end

/-- what the written part says of a class with own + - * -/
def refOr : Option Value → Bool
  | none => true
  | some (.ref _) => true
  | _ => false
theorem refOr_of {r : Option Value} (h : refOr r = true) : r = none ∨ ∃ g : Addr, r = some (.ref g) := by
  unfold refOr at h
  split at h
  · exact .inl rfl
  · exact .inr ⟨_, rfl⟩
  · cases h
structure Arith (K : PySem.W.Frag) (C : Addr) : Prop where
  sf : PySem.W.selfFirst K C = true
  s1 : PySem.W.subIn K (.type "int") (.ref C) = some false
  s2 : PySem.W.subIn K (.ref C) (.type "int") = some false
  mro : ∃ cd, PySem.W.clsIn K C = some cd ∧ cd.mro = [.ref C, .type "object"]
  ia : PySem.W.findIn K (.ref C) "__iadd__" = some none ∧ PySem.W.findIn K (.type "object") "__iadd__" = some none
  isb : PySem.W.findIn K (.ref C) "__isub__" = some none ∧ PySem.W.findIn K (.type "object") "__isub__" = some none
  im : PySem.W.findIn K (.ref C) "__imul__" = some none ∧ PySem.W.findIn K (.type "object") "__imul__" = some none
  ofInt : ∃ a b c d e f, PySem.W.findIn K (.type "int") "__add__" = some a ∧ PySem.W.findIn K (.type "int") "__radd__" = some b ∧ PySem.W.findIn K (.type "int") "__sub__" = some c ∧ PySem.W.findIn K (.type "int") "__rsub__" = some d ∧
    PySem.W.findIn K (.type "int") "__mul__" = some e ∧ PySem.W.findIn K (.type "int") "__rmul__" = some f
  refl : ∃ a b c, (PySem.W.findIn K (.ref C) "__radd__" = some a ∧ refOr a = true) ∧ (PySem.W.findIn K (.ref C) "__rsub__" = some b ∧ refOr b = true) ∧ PySem.W.findIn K (.ref C) "__rmul__" = some c ∧ refOr c = true
  has : ∃ a b c : Addr, PySem.W.findIn K (.ref C) "__add__" = some (some (.ref a)) ∧ PySem.W.findIn K (.ref C) "__sub__" = some (some (.ref b)) ∧ PySem.W.findIn K (.ref C) "__mul__" = some (some (.ref c))
inductive AOp | add | sub | mul
def AOp.op : AOp → Operator | .add => .Add | .sub => .Sub | .mul => .Mult
def AOp.m : AOp → Str | .add => "__add__" | .sub => "__sub__" | .mul => "__mul__"
def AOp.r : AOp → Str | .add => "__radd__" | .sub => "__rsub__" | .mul => "__rmul__"
def AOp.i : AOp → Str | .add => "__iadd__" | .sub => "__isub__" | .mul => "__imul__"
theorem AOp.em (o : AOp) : PySem.dunder o.op.info.2 = o.m := by cases o <;> decide +kernel
theorem AOp.er (o : AOp) : dunderR o.op.info.2 = o.r := by cases o <;> decide +kernel
theorem AOp.ei (o : AOp) : dunderI o.op.info.2 = o.i := by cases o <;> decide +kernel
theorem AOp.fills (o : AOp) : fillsNumberSlot (.type "int") o.op.info.2 = pure true := by
  cases o
  · exact F.fills_int_add
  · exact F.fills_int_sub
  · exact F.fills_int_mul
theorem AOp.decl {prog : Program} {w : World} {A : Around} {E : Value → Shared → Prop} {s : Shared} {i : Int} {t : Tok} {x C dx : Addr} (o : AOp) (hx : s.heap.get? x = some (PySem.W.instObj C dx)) (Q : Option Value → Shared → Prop) (h : Q none s) :
    wpAny (model prog w) A (tryMethod (.int i t) (PySem.dunder o.op.info.2) (.ref x)) Q E s := by
  cases o
  · exact int_declines F.slot_int_add F.entry_int_add F.args_int_add_2 rfl hx Q h
  · exact int_declines F.slot_int_sub F.entry_int_sub F.args_int_sub_2 rfl hx Q h
  · exact int_declines F.slot_int_mul F.entry_int_mul F.args_int_mul_2 rfl hx Q h
section
variable {X : Cx} {k k' : Nat} {C : Addr} {m : Str} {ps ps' : List Str} {sp sp' : Sp} {E : XK}
/-- an instance of C on the left, an int or such an instance on the right -/
def rOwn (C : Addr) (sp : Sp) (E : XK) : R2 := fun x y H Q => ∃ a dx fs, x = .ref a ∧ H a = some (.ins C dx fs) ∧ ((∃ i, y = .int i) ∨ ∃ b dy gs, y = .ref b ∧ H b = some (.ins C dy gs)) ∧ sp [x, y] H Q E
/-- an int on the left -/
def rRefl (C : Addr) (sp : Sp) (E : XK) : R2 := fun x y H Q => ∃ i b dy gs, x = .int i ∧ y = .ref b ∧ H b = some (.ins C dy gs) ∧ sp [y, x] H Q E
def rUna (C : Addr) (sp : Sp) (E : XK) : V → Hp → VK → Prop := fun x H Q => ∃ a dx fs, x = .ref a ∧ H a = some (.ins C dx fs) ∧ sp [x] H Q E
theorem back_of {pins : List (Addr × Obj)} {σ : L2.St} {Q : VK} {u : Value} {s' : Shared} {R : Value → Shared → Prop} (h : EP X pins σ Q u s') (k : ∀ u s', EP X pins σ Q u s' → R u s') : PySem.W.CmpBack R u s' := by
  obtain ⟨v, H', I, r, q⟩ := id h
  cases u with
  | notImplemented =>
    cases v <;> simp [L2.RelV] at r
  | _ => exact k _ _ h
theorem inst_at {pins : List (Addr × Obj)} {σ : L2.St} {H : Hp} {s : Shared} {a dx : Addr} {fs : List (Str × V)} (I : Inv X pins σ H s) (e : H a = some (.ins C dx fs)) : s.heap.get? a = some (PySem.W.instObj C dx) ∧ ∃ od, PySem.W.InstAt s.heap a (PySem.W.instObj C dx) C (some od) := by
  obtain ⟨mA, J, _⟩ := ins_get I.hok e
  obtain ⟨od, J2, _⟩ := J.look
  exact ⟨J.obj, od, J2⟩
theorem bin1_own (o : AOp) (A : Arith X.K C) (O : OwnM X.prog X.w X.K X.mg X.base k C o.m ps sp) (hr : Room k X.A) (hx : Passes (L2.CX X.prog X.w) X E)
    {pins : List (Addr × Obj)} {s : Shared} {σ : L2.St} {H : Hp} {x y : V} {v u : Value} {Q : VK} (I : Inv X pins σ H s) (rx : RelV x v) (ry : RelV y u) (h : rOwn C sp E x y H Q) :
    wpAny (model X.prog X.w) X.A (binaryOp1 o.op.info.2 v u) (fun r s' => ∃ z, r = some z ∧ EP X pins σ Q z s') X.xe s := by
  obtain ⟨a, dx, fs, rfl, ha, hy, hsp⟩ := h
  obtain rfl : v = Value.ref a := rx
  obtain ⟨f, fd, Fo, hm, hb⟩ := O.ex
  obtain ⟨_, od, J⟩ := inst_at I ha
  have h1 : PySem.W.findIn X.K (.ref C) (PySem.dunder o.op.info.2) = some (some (.ref f)) := by rw [o.em]; exact hm.at_
  obtain ⟨rc, h2, hrc⟩ : ∃ rc, PySem.W.findIn X.K (.ref C) (dunderR o.op.info.2) = some rc ∧ refOr rc = true := by
    rw [o.er]
    obtain ⟨a, b, c, q1, q2, q3⟩ := A.refl
    cases o
    · exact ⟨_, q1⟩
    · exact ⟨_, q2⟩
    · exact ⟨_, q3⟩
  have run := run_fn (us := [.ref a, u]) (vs := [.ref a, y]) (dvs := []) Fo hr hb .nil hx I (.cons rfl (.cons ry .nil)) hsp
  have run2 := wpAny_mono run (fun u s' q => back_of (R := fun v s' => ∃ z, some v = some z ∧ EP X pins σ Q z s') q fun v s' q => ⟨v, rfl, q⟩) fun _ _ e => e
  rcases hy with ⟨i, rfl⟩ | ⟨b, dy, gs, rfl, hb'⟩
  · obtain ⟨t, rfl⟩ := ry
    obtain ⟨fo, ro, e1, e2⟩ : ∃ fo ro, PySem.W.findIn X.K (.type "int") (PySem.dunder o.op.info.2) = some fo ∧ PySem.W.findIn X.K (.type "int") (dunderR o.op.info.2) = some ro := by
      rw [o.em, o.er]
      obtain ⟨p1, p2, p3, p4, p5, p6, q1, q2, q3, q4, q5, q6⟩ := A.ofInt
      cases o
      · exact ⟨_, _, q1, q2⟩
      · exact ⟨_, _, q3, q4⟩
      · exact ⟨_, _, q5, q6⟩
    exact bin1_int I.kIn J A.sf h1 hm.fn h2 (refOr_of hrc) e1 e2 A.s1 run2
  · obtain rfl : u = Value.ref b := ry
    obtain ⟨_, od', J'⟩ := inst_at I hb'
    exact bin1_same I.kIn J J'.type A.sf h1 hm.fn run2
theorem op_own (o : AOp) (A : Arith X.K C) (O : OwnM X.prog X.w X.K X.mg X.base k C o.m ps sp) (hr : Room k X.A) (hx : Passes (L2.CX X.prog X.w) X E) : OpR X (binaryOp o.op) (rOwn C sp E) :=
  fun _ _ _ _ _ _ _ _ _ I rx ry h => bin_of1 (bin1_own o A O hr hx I rx ry h)
theorem iop_own (o : AOp) (A : Arith X.K C) (O : OwnM X.prog X.w X.K X.mg X.base k C o.m ps sp) (hr : Room k X.A) (hx : Passes (L2.CX X.prog X.w) X E) : OpR X (inplaceOp o.op) (rOwn C sp E) := by
  intro pins s σ H x y v u Q I rx ry h
  have one := bin1_own o A O hr hx I rx ry h
  obtain ⟨a, dx, fs, rfl, ha, _, _⟩ := h
  obtain rfl : v = Value.ref a := rx
  obtain ⟨_, od, J⟩ := inst_at I ha
  obtain ⟨cd, hcd, hmro⟩ := A.mro
  refine inp_of1 J.type (no_inplace I.kIn hcd hmro ?_ ?_) one
  · rw [o.ei]
    cases o
    · exact A.ia.1
    · exact A.isb.1
    · exact A.im.1
  · rw [o.ei]
    cases o
    · exact A.ia.2
    · exact A.isb.2
    · exact A.im.2
theorem op_refl (o : AOp) (A : Arith X.K C) (R : OwnM X.prog X.w X.K X.mg X.base k C o.r ps sp) (hr : Room k X.A) (hx : Passes (L2.CX X.prog X.w) X E) : OpR X (binaryOp o.op) (rRefl C sp E) := by
  intro pins s σ H x y v u Q I rx ry h
  obtain ⟨i, b, dy, gs, rfl, rfl, hb, hsp⟩ := h
  obtain ⟨t, rfl⟩ := rx
  obtain rfl : u = Value.ref b := ry
  obtain ⟨f, fd, Fo, hm, hbd⟩ := R.ex
  obtain ⟨hobj, od, J⟩ := inst_at I hb
  obtain ⟨g, h1⟩ : ∃ g : Addr, PySem.W.findIn X.K (.ref C) (PySem.dunder o.op.info.2) = some (some (.ref g)) := by
    rw [o.em]
    obtain ⟨a, b, c, q1, q2, q3⟩ := A.has
    cases o
    · exact ⟨_, q1⟩
    · exact ⟨_, q2⟩
    · exact ⟨_, q3⟩
  have h2 : PySem.W.findIn X.K (.ref C) (dunderR o.op.info.2) = some (some (.ref f)) := by rw [o.er]; exact hm.at_
  have run := run_fn (us := [.ref b, .int i t]) (vs := [.ref b, .int i]) (dvs := []) Fo hr hbd .nil hx I (.cons rfl (.cons ⟨t, rfl⟩ .nil)) hsp
  exact bin_of1 (bin1_refl I.kIn J A.sf h1 h2 hm.fn o.fills A.s2 (fun Q h => o.decl hobj Q h) (wpAny_mono run (fun u s' q => back_of (R := fun v s' => ∃ z, some v = some z ∧ EP X pins σ Q z s') q fun v s' q => ⟨v, rfl, q⟩) fun _ _ e => e))
theorem un_negOwn (O : OwnM X.prog X.w X.K X.mg X.base k C "__neg__" ps sp) (hr : Room k X.A) (hx : Passes (L2.CX X.prog X.w) X E) : UnR X (unaryOp .USub) (rUna C sp E) := by
  intro pins s σ H x v Q I rx h
  obtain ⟨a, dx, fs, rfl, ha, hsp⟩ := h
  obtain rfl : v = Value.ref a := rx
  obtain ⟨f, fd, Fo, hm, hb⟩ := O.ex
  obtain ⟨_, od, J⟩ := inst_at I ha
  have run := run_fn (us := [.ref a]) (vs := [.ref a]) (dvs := []) Fo hr hb .nil hx I (.cons rfl .nil) hsp
  unfold unaryOp
  refine wpAny_holding ?_
  exact wpAny_bind (PySem.W.special_fn I.kIn J hm.at_ (beq_iff_eq.mp hm.fn) (wpAny_mono run (fun _ _ z => wpAny_pure z) fun _ _ z => z))
theorem call_absOwn (O : OwnM X.prog X.w X.K X.mg X.base k C "__abs__" ps sp) (hr : Room (k + 1) X.A) (hx : Passes (L2.CX X.prog X.w) X E) : CallR X (.builtin "abs") (fun xs H Q => ∃ a dx fs, xs = [.ref a] ∧ H a = some (.ins C dx fs) ∧ sp [.ref a] H Q E) := by
  intro pins s σ H xs us Q I r h
  obtain ⟨a, dx, fs, rfl, ha, hsp⟩ := h
  obtain ⟨u, rfl, r1⟩ := vals1 r
  obtain rfl : u = Value.ref a := r1
  obtain ⟨f, fd, Fo, hm, hb⟩ := O.ex
  obtain ⟨_, od, J⟩ := inst_at I ha
  refine PySem.Calls.call_function_entry kind_abs plain_abs entry_abs (args_abs _) ?_
  unfold Builtin.«abs»
  refine wpAny_bind (m := oneArg "abs" _) (wpAny_pure ?_)
  refine wpAny_bind (m := callSpecial? (.ref a) (Str.ofString "__abs__")) ?_
  refine PySem.W.special_fn I.kIn J hm.at_ (beq_iff_eq.mp hm.fn) ?_
  have bd := hb s [.ref a] I.kIn (Fo.len _ _ _ _ hsp)
  refine wpAny_call (codeAny_mono (Fo.run X.A.in1 X.stack s H ⟨[.ref a], []⟩ [.ref a] [.ref a] Q E hr.in1 I.env0.in1 bd (.cons rfl .nil) hsp) fun r s' hq => ?_)
  cases r with
  | error e => exact hx pins σ H s e s' I hq
  | ok fl =>
    cases fl with
    | ret u => exact wpAny_pure ⟨_, rfl, I.after hq⟩
    | next => exact False.elim hq
    | brk => exact False.elim hq
    | cont => exact False.elim hq
end
/-! ### operators on ints, further -/
section
variable {X : Cx}
theorem op_mulI : OpR X (binaryOp .Mult) (rI IntMulOk fun i j => .int (i * j)) := opI fun _ _ _ _ _ _ _ hc q => mul_int q hc
def CDivA (_ j : Int) : Prop := j ≠ 0 ∧ j.natAbs.log2 < 9000
theorem op_fdivA : OpR X (binaryOp .FloorDiv) (rI CDivA fun i j => .int (i.fdiv j)) := opI fun i j _ _ _ _ _ hc q => floordiv_int hc.1 q (.inl (PyProof.noPylong_of_log2 hc.2))
end
theorem mok_l {i j : Int} (h : i.natAbs < 2 ^ 64) : IntMulOk i j := by
  have e : (2 : Nat) ^ 64 = 18446744073709551616 := by decide
  rw [e] at h
  exact CMul.ok (.inl ⟨by omega, by omega⟩)
theorem mok_r {i j : Int} (h : j.natAbs < 2 ^ 64) : IntMulOk i j := by
  have e : (2 : Nat) ^ 64 = 18446744073709551616 := by decide
  rw [e] at h
  exact CMul.ok (.inr ⟨by omega, by omega⟩)
theorem mok_w {i j : Int} {a b : Nat} (ha : i.natAbs < 2 ^ a) (hb : j.natAbs < 2 ^ b) (h0 : 0 < a := by decide) (h1 : 0 < b := by decide) (h : a + b ≤ 1000000 := by decide) : IntMulOk i j := CMulW.ok (wide_mul ha hb h0 h1 h)
theorem une {H : Hp} {a p : Addr} {o u : HO} (n : a ≠ p) (h : H a = some o) : upd H p u a = some o := by rw [upd_ne n]; exact h
theorem sqL_of {K : PySem.W.Frag} {H : Hp} {a : Addr} {xs : List V} (h : H a = some (.lst xs)) : SqL K H a xs := SqL.of h
theorem ix_c {xs : List V} {z : Int} {v : V} (h : xs[z.toNat]? = some v) (h0 : 0 ≤ z := by decide) : atI xs z = some v := at_of (Int.toNat_of_nonneg h0).symm h

/-! ### tests whose outcome is open -/
theorem iteI {i j : Int} {A B : Prop} (h1 : i = j → A) (h2 : i ≠ j → B) : if decide (V.int i = V.int j) = true then A else B := by
  by_cases e : i = j
  · rw [decide_eq_true (congrArg V.int e)]
    exact iteT (h1 e)
  · rw [decide_eq_false fun z => e (V.int.inj z)]
    exact iteF (h2 e)
theorem iteIn {i j : Int} {A B : Prop} (h1 : i ≠ j → A) (h2 : i = j → B) : if (!decide (V.int i = V.int j)) = true then A else B := by
  by_cases e : i = j
  · rw [decide_eq_true (congrArg V.int e)]
    exact iteF (h2 e)
  · rw [decide_eq_false fun z => e (V.int.inj z)]
    exact iteT (h1 e)
theorem iteD {p : Prop} [Decidable p] {A B : Prop} (h1 : p → A) (h2 : ¬ p → B) : if decide p = true then A else B := by
  by_cases e : p
  · rw [decide_eq_true e]
    exact iteT (h1 e)
  · rw [decide_eq_false e]
    exact iteF (h2 e)
theorem iteDn {p : Prop} [Decidable p] {A B : Prop} (h1 : ¬ p → A) (h2 : p → B) : if (!decide p) = true then A else B := by
  by_cases e : p
  · rw [decide_eq_true e]
    exact iteF (h2 e)
  · rw [decide_eq_false e]
    exact iteT (h1 e)
theorem iteZ {y : Int} {A B : Prop} (h1 : y ≠ 0 → A) (h2 : y = 0 → B) : if (y != 0) = true then A else B := by
  by_cases e : y = 0
  · subst e
    exact iteF (h2 rfl)
  · rw [bne_iff_ne.mpr e]
    exact iteT (h1 e)
theorem iteDT {p : Prop} [Decidable p] {A B : Prop} (h : p) (a : A) : if decide p = true then A else B := iteD (fun _ => a) fun n => absurd h n
theorem iteDF {p : Prop} [Decidable p] {A B : Prop} (h : ¬ p) (a : B) : if decide p = true then A else B := iteD (fun n => absurd n h) fun _ => a
theorem iteDnT {p : Prop} [Decidable p] {A B : Prop} (h : p) (a : B) : if (!decide p) = true then A else B := iteDn (fun n => absurd h n) fun _ => a
theorem line_le {n : Nat} (h : n ≤ 16777216) : n ≤ sizeLine := by
  rw [sizeLine_eq]
  exact h

/-! ### the law's bag: what is drawn from it is any number below the size -/
/-- a bag stands at b, its script at L -/
def Bag (H : Hp) (L b : Addr) : Prop := ∃ (ns : List Int) (i : Nat) (big mix cnt : Int), H b = some (.lst [.ref L, .int i, .int big, .int mix, .int cnt]) ∧ H L = some (.lst (ns.map V.int)) ∧ L ≠ b
theorem Bag.same {H H' : Hp} {L b : Addr} (s : Same H H') (h : Bag H L b) : Bag H' L b := by
  obtain ⟨ns, i, big, mix, cnt, h1, h2, h3⟩ := h
  exact ⟨ns, i, big, mix, cnt, s _ _ h1, s _ _ h2, h3⟩
theorem Bag.some {H : Hp} {L b : Addr} (h : Bag H L b) : H b ≠ none := by
  obtain ⟨ns, i, big, mix, cnt, h1, h2, h3⟩ := h
  rw [h1]
  exact fun z => nomatch z
theorem Bag.someL {H : Hp} {L b : Addr} (h : Bag H L b) : H L ≠ none := by
  obtain ⟨ns, i, big, mix, cnt, h1, h2, h3⟩ := h
  rw [h2]
  exact fun z => nomatch z
/-- what was made behind the bag stands apart from it -/
theorem Bag.ne {H : Hp} {L b p : Addr} (h : Bag H L b) (n : H p = none) : p ≠ b := fun e => h.some (e ▸ n)
theorem Bag.neL {H : Hp} {L b p : Addr} (h : Bag H L b) (n : H p = none) : p ≠ L := fun e => h.someL (e ▸ n)
/-- another object was changed -/
theorem Bag.keep {H H' : Hp} {L b p : Addr} (h : Bag H L b) (k : Keep p H H') (n : p ≠ b) (n2 : p ≠ L) : Bag H' L b := by
  obtain ⟨ns, i, big, mix, cnt, h1, h2, h3⟩ := h
  exact ⟨ns, i, big, mix, cnt, k _ _ h1 n.symm, k _ _ h2 n2.symm, h3⟩
theorem Bag.mk {H : Hp} {L b : Addr} {ns : List Int} {i : Nat} {big mix cnt : Int} (hb : H b = Option.some (.lst [.ref L, .int i, .int big, .int mix, .int cnt])) (hL : H L = Option.some (.lst (ns.map V.int))) (n : L ≠ b) : Bag H L b :=
  ⟨ns, i, big, mix, cnt, hb, hL, n⟩

/-! ### fields by name -/
theorem lk0 {a : Str} {v : V} {r : List (Str × V)} : ((a, v) :: r).lookup a = some v := by simp [List.lookup]
theorem lk1 {a b : Str} {u : V} {o : Option V} {r : List (Str × V)} (h : (b == a) = false) (k : r.lookup b = o) : ((a, u) :: r).lookup b = o := by
  simp only [List.lookup, h]
  exact k
theorem lkn {b : Str} : ([] : List (Str × V)).lookup b = none := rfl
theorem putF_nil {f : Str} {v : V} : putF f v [] = [(f, v)] := rfl
theorem putF_ne {f g : Str} {u v : V} {r : List (Str × V)} (h : ¬ g = f) : putF f v ((g, u) :: r) = (g, u) :: putF f v r := if_neg h
theorem putF_eq {f : Str} {u v : V} {r : List (Str × V)} : putF f v ((f, u) :: r) = (f, v) :: r := if_pos rfl
theorem same_made {H H2 : Hp} {x dx C : Addr} (nx : H x = none) (nd : H dx = none) (ne : dx ≠ x) (k : Keep x (upd (upd H dx (.own x)) x (.ins C dx [])) H2) : Same H H2 := fun a o e => by
  have n1 := ne_of_none e nx
  have n2 := ne_of_none e nd
  exact k a o (by rw [upd_ne n1, upd_ne n2]; exact e) n1

/-! ### an own exception class, made without arguments -/
theorem pmk_own0 {X : Cx} {C : Addr} {bmB : List Value} {B newId initId : String} {x : Str} {p pos : Pos} (F : ExcBaseFacts B newId initId bmB) (q : PySem.W.excIn X.K C bmB newId = true) (gC : X.mg x = some (.ref C))
    (kC : PySem.W.keepIn X.K (.ref C) = true) (r : Raises X (.ref C)) (hg : Gl X x) (hdb : (x == ("__debug__" : Str)) = false := by decide) : PMk X (.Call (.Name x p) [] [] pos) (fun _ H Q => Q (.ref C) none H) := by
  intro pins s σ H Q I h
  refine wpAny_Call_Name_kw (ld_glob I hg gC ?_ hdb)
  refine PySem.W.callWith_K0 I.kIn kC ?_
  obtain ⟨bm, N, nm, qn, bs, hdct, sn, sub, ab, col, dd, k0, k1, k2, k3, k5, mN, hC, hN, hni, T⟩ := exc_obj I.kIn q
  refine wpAny_call_exc_subT F T hC hN hni (fun h' e hm => ?_) (Nat.zero_le _)
  exact mk_of I hm r h (I.hok.gone hm.new)

theorem erase_perm {α : Type} : ∀ {l : List α} {i : Nat} (h : i < l.length), (l[i] :: l.eraseIdx i).Perm l
  | a :: l, 0, _ => .refl _
  | a :: l, i + 1, h => by
    have ih := erase_perm (l := l) (i := i) (by simpa using h)
    simp only [List.getElem_cons_succ, List.eraseIdx_cons_succ]
    exact (List.Perm.swap _ _ _).trans (.cons _ ih)
/-! ### numbers in lowest terms -/
/-- a / b in lowest terms -/
def nrmC (a b : Int) : Int := if b < 0 then -((Nat.gcd a.natAbs b.natAbs : Nat) : Int) else ((Nat.gcd a.natAbs b.natAbs : Nat) : Int)
def nrm (a b : Int) : Int × Int := (a.fdiv (nrmC a b), b.fdiv (nrmC a b))
theorem nrmC_ne {a b : Int} (h : b ≠ 0) : nrmC a b ≠ 0 := by
  have g : 0 < Nat.gcd a.natAbs b.natAbs := Nat.gcd_pos_of_pos_right _ (by omega)
  unfold nrmC
  split <;> omega
theorem nrmC_abs {a b : Int} : (nrmC a b).natAbs = Nat.gcd a.natAbs b.natAbs := by
  unfold nrmC
  split <;> omega
theorem nrmC_log {a b : Int} (h : b ≠ 0) (hb : b.natAbs.log2 < 9000) : (nrmC a b).natAbs.log2 < 9000 := by
  rw [nrmC_abs]
  have g : Nat.gcd a.natAbs b.natAbs ≤ b.natAbs := Nat.gcd_le_right _ (by omega)
  have hb2 : b.natAbs < 2 ^ 9000 := (Nat.log2_lt (by omega)).mp hb
  exact (Nat.log2_lt (by have := Nat.gcd_pos_of_pos_right a.natAbs (show 0 < b.natAbs by omega); omega)).mpr (Nat.lt_of_le_of_lt g hb2)
theorem nrmC_dvd_a {a b : Int} : nrmC a b ∣ a := by
  have h : ((Nat.gcd a.natAbs b.natAbs : Nat) : Int) ∣ a := Int.ofNat_dvd_left.mpr (Nat.gcd_dvd_left _ _)
  unfold nrmC
  split
  · exact Int.neg_dvd.mpr h
  · exact h
theorem nrmC_dvd_b {a b : Int} : nrmC a b ∣ b := by
  have h : ((Nat.gcd a.natAbs b.natAbs : Nat) : Int) ∣ b := Int.ofNat_dvd_left.mpr (Nat.gcd_dvd_right _ _)
  unfold nrmC
  split
  · exact Int.neg_dvd.mpr h
  · exact h
theorem fdiv_mul {a c : Int} (h : c ∣ a) : a.fdiv c * c = a := Int.fdiv_mul_cancel h
theorem nrm_a {a b : Int} : (nrm a b).1 * nrmC a b = a := fdiv_mul nrmC_dvd_a
theorem nrm_b {a b : Int} : (nrm a b).2 * nrmC a b = b := fdiv_mul nrmC_dvd_b
/-- in lowest terms -/
structure Red (t b : Int) : Prop where
  pos : 0 < b
  cop : Nat.gcd t.natAbs b.natAbs = 1
theorem nrm_red {a b : Int} (h : b ≠ 0) : Red (nrm a b).1 (nrm a b).2 := by
  have e1 := nrm_a (a := a) (b := b)
  have e2 := nrm_b (a := a) (b := b)
  have hc := nrmC_ne (a := a) h
  refine ⟨?_, ?_⟩
  · have s : (0 < b ∧ 0 < nrmC a b) ∨ (b < 0 ∧ nrmC a b < 0) := by
      have g : 0 < Nat.gcd a.natAbs b.natAbs := Nat.gcd_pos_of_pos_right _ (by omega)
      unfold nrmC
      split <;> omega
    rcases s with ⟨s1, s2⟩ | ⟨s1, s2⟩
    · exact Int.pos_of_mul_pos_left (by rw [e2]; exact s1) s2
    · refine Int.pos_of_mul_pos_left (b := -nrmC a b) ?_ (by omega)
      rw [Int.mul_neg, e2]
      omega
  · have g : 0 < Nat.gcd a.natAbs b.natAbs := Nat.gcd_pos_of_pos_right _ (by omega)
    have f1 : (nrm a b).1.natAbs * Nat.gcd a.natAbs b.natAbs = a.natAbs := by
      have := congrArg Int.natAbs e1
      rw [Int.natAbs_mul, nrmC_abs] at this
      exact this
    have f2 : (nrm a b).2.natAbs * Nat.gcd a.natAbs b.natAbs = b.natAbs := by
      have := congrArg Int.natAbs e2
      rw [Int.natAbs_mul, nrmC_abs] at this
      exact this
    have f3 : Nat.gcd ((nrm a b).1.natAbs * Nat.gcd a.natAbs b.natAbs) ((nrm a b).2.natAbs * Nat.gcd a.natAbs b.natAbs) = Nat.gcd a.natAbs b.natAbs := by rw [f1, f2]
    rw [Nat.gcd_mul_right] at f3
    exact Nat.eq_of_mul_eq_mul_right g (by rw [f3, Nat.one_mul])
theorem nrm_cross {a b : Int} : (nrm a b).1 * b = a * (nrm a b).2 := by
  have e1 := nrm_a (a := a) (b := b)
  have e2 := nrm_b (a := a) (b := b)
  have h : (nrm a b).1 * ((nrm a b).2 * nrmC a b) = (nrm a b).1 * nrmC a b * (nrm a b).2 := by
    rw [Int.mul_assoc, Int.mul_comm (nrmC a b)]
  rw [e1, e2] at h
  exact h
theorem Red.uniq {t b t' b' : Int} (h : Red t b) (h' : Red t' b') (e : t * b' = t' * b) : t = t' ∧ b = b' := by
  have hb := h.pos
  have hb' := h'.pos
  have f : t.natAbs * b'.natAbs = t'.natAbs * b.natAbs := by
    have := congrArg Int.natAbs e
    rw [Int.natAbs_mul, Int.natAbs_mul] at this
    exact this
  have c : Nat.Coprime b.natAbs t.natAbs := (Nat.gcd_comm _ _).trans h.cop
  have c' : Nat.Coprime b'.natAbs t'.natAbs := (Nat.gcd_comm _ _).trans h'.cop
  have d1 : b.natAbs ∣ b'.natAbs := c.dvd_of_dvd_mul_left ⟨t'.natAbs, by rw [f, Nat.mul_comm]⟩
  have d2 : b'.natAbs ∣ b.natAbs := c'.dvd_of_dvd_mul_left ⟨t.natAbs, by rw [← f, Nat.mul_comm]⟩
  have eb : b = b' := by
    have := Nat.dvd_antisymm d1 d2
    omega
  subst eb
  exact ⟨Int.eq_of_mul_eq_mul_right (by omega) e, rfl⟩
/-- which fraction stands for the number doesn't matter -/
theorem nrm_same {a b c d : Int} (hb : b ≠ 0) (hd : d ≠ 0) (e : a * d = c * b) : nrm a b = nrm c d := by
  have h1 := nrm_cross (a := a) (b := b)
  have h2 := nrm_cross (a := c) (b := d)
  have k : (nrm a b).1 * (nrm c d).2 = (nrm c d).1 * (nrm a b).2 := by
    refine Int.eq_of_mul_eq_mul_right (a := b * d) (Int.mul_ne_zero hb hd) ?_
    calc (nrm a b).1 * (nrm c d).2 * (b * d) = ((nrm a b).1 * b) * (d * (nrm c d).2) := by ac_rfl
      _ = (a * (nrm a b).2) * (d * (nrm c d).2) := by rw [h1]
      _ = (a * d) * ((nrm a b).2 * (nrm c d).2) := by ac_rfl
      _ = (c * b) * ((nrm a b).2 * (nrm c d).2) := by rw [e]
      _ = (c * (nrm c d).2) * ((nrm a b).2 * b) := by ac_rfl
      _ = ((nrm c d).1 * d) * ((nrm a b).2 * b) := by rw [h2]
      _ = (nrm c d).1 * (nrm a b).2 * (b * d) := by ac_rfl
  obtain ⟨e1, e2⟩ := (nrm_red hb).uniq (nrm_red hd) k
  exact Prod.ext e1 e2
theorem nrm_id {t b : Int} (h : Red t b) : nrm t b = (t, b) := by
  have hb := h.pos
  obtain ⟨e1, e2⟩ := (nrm_red (a := t) (b := b) (by omega)).uniq h nrm_cross
  exact Prod.ext e1 e2
theorem red_one {t : Int} : Red t 1 := ⟨by decide, by simp⟩
theorem nrm_one {t : Int} : nrm t 1 = (t, 1) := nrm_id red_one

theorem nrm_zero {a b : Int} (h : b ≠ 0) : (nrm a b).1 = 0 ↔ a = 0 := by
  have e := nrm_a (a := a) (b := b)
  have c := nrmC_ne (a := a) h
  constructor
  · intro z
    rw [z, Int.zero_mul] at e
    exact e.symm
  · intro z
    rw [z] at e
    rcases Int.mul_eq_zero.mp e with u | u
    · rw [z]
      exact u
    · rw [z] at c
      exact absurd u c
theorem nrm_ne {a b : Int} (h : b ≠ 0) : (nrm a b).2 ≠ 0 := by
  have := (nrm_red (a := a) h).pos
  omega
/-- a quotient of numbers in lowest terms -/
theorem nrm_over {a b c d : Int} (hb : b ≠ 0) (hd : d ≠ 0) (hc : c ≠ 0) : nrm ((nrm a b).1 * (nrm c d).2) ((nrm a b).2 * (nrm c d).1) = nrm (a * d) (b * c) := by
  have h1 := nrm_cross (a := a) (b := b)
  have h2 := nrm_cross (a := c) (b := d)
  have n1 := nrm_ne (a := a) hb
  have n2 : (nrm c d).1 ≠ 0 := fun z => hc ((nrm_zero hd).mp z)
  refine nrm_same (Int.mul_ne_zero n1 n2) (Int.mul_ne_zero hb hc) ?_
  calc (nrm a b).1 * (nrm c d).2 * (b * c) = ((nrm a b).1 * b) * (c * (nrm c d).2) := by ac_rfl
    _ = (a * (nrm a b).2) * ((nrm c d).1 * d) := by rw [h1, h2]
    _ = a * d * ((nrm a b).2 * (nrm c d).1) := by ac_rfl

/-! ### Ratios -/
/-- the ratio t / b stands at p -/
def RatAt (ca : Nat → Addr) (H : Hp) (p : Addr) (t b : Int) : Prop := Red t b ∧ ∃ dx, H p = some (.ins (ca 2) dx [("top", .int t), ("bottom", .int b)])
theorem RatAt.same {ca : Nat → Addr} {H H' : Hp} {p : Addr} {t b : Int} (h : RatAt ca H p t b) (s : Same H H') : RatAt ca H' p t b := ⟨h.1, let ⟨dx, e⟩ := h.2; ⟨dx, s _ _ e⟩⟩
/-- a number: an int, or a ratio -/
def NumV (ca : Nat → Addr) (H : Hp) (x : V) (t b : Int) : Prop := (x = .int t ∧ b = 1) ∨ ∃ p, x = .ref p ∧ RatAt ca H p t b
theorem NumV.same {ca : Nat → Addr} {H H' : Hp} {x : V} {t b : Int} (h : NumV ca H x t b) (s : Same H H') : NumV ca H' x t b :=
  h.imp id fun ⟨p, e, r⟩ => ⟨p, e, r.same s⟩
theorem NumV.red {ca : Nat → Addr} {H : Hp} {x : V} {t b : Int} (h : NumV ca H x t b) : Red t b := by
  rcases h with ⟨_, rfl⟩ | ⟨p, _, r⟩
  · exact red_one
  · exact r.1
theorem kit_self {K : PySem.W.Frag} {v : Value} : PySem.W.kitOne K v v = some true := if_pos (beq_iff_eq.mpr rfl)
theorem put_rat {x y : V} : putF "bottom" y (putF "top" x []) = ([("top", x), ("bottom", y)] : List (Str × V)) := by
  rw [putF_nil, putF_ne (by decide +kernel), putF_nil]
theorem lt164 {z : Int} (h0 : -(10 ^ 49 + 2) < z) (h : z < 10 ^ 49 + 2) : z.natAbs < 2 ^ 164 := by
  have e : (2 : Nat) ^ 164 = 23384026197294446691258957323460528314494920687616 := by decide
  have e2 : (10 : Int) ^ 49 = 10000000000000000000000000000000000000000000000000 := by decide
  rw [e]
  rw [e2] at h0 h
  omega
theorem lg164 {z : Int} (h : z.natAbs < 2 ^ 164) : z.natAbs.log2 < 9000 := Nat.lt_trans (PySem.Flt.log2_lt_of (by decide) h) (by decide)
theorem RatAt.mk {ca : Nat → Addr} {H : Hp} {p dx : Addr} {t b : Int} (h : Red t b) (e : H p = some (.ins (ca 2) dx [("top", .int (nrm t b).1), ("bottom", .int (nrm t b).2)])) : RatAt ca H p t b := by
  rw [nrm_id h] at e
  exact ⟨h, dx, e⟩
theorem RatAt.of {ca : Nat → Addr} {H : Hp} {p dx : Addr} {t b : Int} (h : b ≠ 0) (e : H p = some (.ins (ca 2) dx [("top", .int (nrm t b).1), ("bottom", .int (nrm t b).2)])) : RatAt ca H p (nrm t b).1 (nrm t b).2 := ⟨nrm_red h, dx, e⟩
theorem nrm_le1 {a b : Int} (h : b ≠ 0) : (nrm a b).1.natAbs ≤ a.natAbs := by
  have e := congrArg Int.natAbs (nrm_a (a := a) (b := b))
  rw [Int.natAbs_mul] at e
  have c : 0 < (nrmC a b).natAbs := by have := nrmC_ne (a := a) h; omega
  rw [← e]
  exact Nat.le_mul_of_pos_right _ c
theorem nrm_le2 {a b : Int} (h : b ≠ 0) : (nrm a b).2.natAbs ≤ b.natAbs := by
  have e := congrArg Int.natAbs (nrm_b (a := a) (b := b))
  rw [Int.natAbs_mul] at e
  have c : 0 < (nrmC a b).natAbs := by have := nrmC_ne (a := a) h; omega
  rw [← e]
  exact Nat.le_mul_of_pos_right _ c
/-- a pair of ints in lowest terms, none of them large -/
structure TupR (H : Hp) (p : Addr) (t b : Int) : Prop where
  red : Red t b
  st : t.natAbs < 2 ^ 170
  sb : b.natAbs < 2 ^ 170
  at_ : H p = some (.tup [.int t, .int b])
theorem tup_ne {H : Hp} {L b p : Addr} {xs : List V} (B : Bag H L b) (e : H p = some (.tup xs)) : p ≠ b := by
  obtain ⟨ns, i, big, mix, cnt, h1, _⟩ := B
  exact ne_of e h1 fun z => nomatch z
theorem TupR.keep {H H' : Hp} {L b p : Addr} {t u : Int} (h : TupR H p t u) (B : Bag H L b) (k : Keep b H H') : TupR H' p t u := ⟨h.red, h.st, h.sb, k _ _ h.at_ (tup_ne B h.at_)⟩
theorem TupR.same {H H' : Hp} {p : Addr} {t u : Int} (h : TupR H p t u) (s : Same H H') : TupR H' p t u := ⟨h.red, h.st, h.sb, s _ _ h.at_⟩
theorem TupR.of {H : Hp} {p : Addr} {a b : Int} (hb : b ≠ 0) (sa : a.natAbs < 2 ^ 164) (sb : b.natAbs < 2 ^ 164) (e : H p = some (.tup [.int (nrm a b).1, .int (nrm a b).2])) : TupR H p (nrm a b).1 (nrm a b).2 :=
  ⟨nrm_red hb, Nat.lt_of_le_of_lt (nrm_le1 hb) (Nat.lt_trans sa (by decide)), Nat.lt_of_le_of_lt (nrm_le2 hb) (Nat.lt_trans sb (by decide)), e⟩
theorem lg170 {z : Int} (h : z.natAbs < 2 ^ 170) : z.natAbs.log2 < 9000 := Nat.lt_trans (PySem.Flt.log2_lt_of (by decide) h) (by decide)
theorem m170 {x y : Int} (h : x.natAbs < 2 ^ 170) (h2 : y.natAbs < 2 ^ 170) : IntMulOk x y := mok_w h h2
theorem eqv2 {a b c d : Int} : PyData.eqv (.tuple [.int a, .int b]) (.tuple [.int c, .int d]) = decide (a = c ∧ b = d) := by
  by_cases h1 : a = c <;> by_cases h2 : b = d <;> simp [PyData.eqv, PyData.eqvAll, h1, h2]
/-- two pairs of ints, compared -/
theorem eqT {K : PySem.W.Frag} {H : Hp} {p q : Addr} {a b c d : Int} {Q : VK} (hp : H p = some (.tup [.int a, .int b])) (hq : H q = some (.tup [.int c, .int d])) (k : Q (.bl (decide (a = c ∧ b = d))) H) : rEqD K (.ref p) (.ref q) H Q := by
  refine ⟨.tuple [.int a, .int b], .tuple [.int c, .int d], .tup (SqT.of hp) (.cons (.int _) (.cons (.int _) .nil)), .tup (SqT.of hq) (.cons (.int _) (.cons (.int _) .nil)), rfl, rfl, ?_⟩
  rw [eqv2]
  exact k
theorem neT {K : PySem.W.Frag} {H : Hp} {p q : Addr} {a b c d : Int} {Q : VK} (hp : H p = some (.tup [.int a, .int b])) (hq : H q = some (.tup [.int c, .int d])) (k : Q (.bl (!decide (a = c ∧ b = d))) H) : rNeD K (.ref p) (.ref q) H Q := by
  refine ⟨.tuple [.int a, .int b], .tuple [.int c, .int d], .tup (SqT.of hp) (.cons (.int _) (.cons (.int _) .nil)), .tup (SqT.of hq) (.cons (.int _) (.cons (.int _) .nil)), rfl, rfl, ?_⟩
  rw [eqv2]
  exact k
theorem iteNv {x y : V} {A B : Prop} (h : x = y) (b : B) : if (!decide (x = y)) = true then A else B := by
  rw [decide_eq_true h]
  exact iteF b
def dueN (w a0 a1 b0 b1 : Int) : Int × Int := if w = 0 then (a0, b0) else if w = 1 then (a0 * b1, a1 * b0) else if w = 2 then (a0, a1 * b0) else (a0 * b1, b0)
theorem due_ne {w a0 a1 b0 b1 : Int} (h1 : a1 ≠ 0) (h3 : b1 ≠ 0) (h2 : b0 ≠ 0) : (dueN w a0 a1 b0 b1).2 ≠ 0 := by
  unfold dueN
  split
  · exact h2
  · split
    · exact Int.mul_ne_zero h1 h2
    · split
      · exact Int.mul_ne_zero h1 h2
      · exact h2
theorem due_log {w a0 a1 b0 b1 : Int} (s1 : a1.natAbs < 2 ^ 170) (s2 : b0.natAbs < 2 ^ 170) (_ : b1.natAbs < 2 ^ 170) : (dueN w a0 a1 b0 b1).2.natAbs.log2 < 9000 := by
  have m3 : (a1 * b0).natAbs.log2 < 9000 := Nat.lt_trans (PySem.Flt.log2_lt_of (by decide) (wide_lt s1 s2)) (by decide)
  unfold dueN
  split
  · exact lg170 s2
  · split
    · exact m3
    · split
      · exact m3
      · exact lg170 s2
/-! ### sizes -/
def Sz (n : Nat) (z : Int) : Prop := z.natAbs < 2 ^ n
theorem Sz.mono {n m : Nat} {z : Int} (h : Sz n z) (l : n ≤ m := by decide) : Sz m z := Nat.lt_of_lt_of_le h (Nat.pow_le_pow_right (by decide) l)
theorem Sz.mul {n m : Nat} {x y : Int} (h : Sz n x) (k : Sz m y) : Sz (n + m) (x * y) := by
  unfold Sz
  rw [Int.natAbs_mul, Nat.pow_add]
  exact Nat.mul_lt_mul_of_lt_of_le h (Nat.le_of_lt k) (Nat.two_pow_pos _)
theorem Sz.add {n m : Nat} {x y : Int} (h : Sz n x) (k : Sz m y) : Sz (n + m + 1) (x + y) := by
  unfold Sz at *
  have a : 2 ^ n ≤ 2 ^ (n + m) := Nat.pow_le_pow_right (by decide) (Nat.le_add_right _ _)
  have b : 2 ^ m ≤ 2 ^ (n + m) := Nat.pow_le_pow_right (by decide) (Nat.le_add_left _ _)
  rw [Nat.pow_succ]
  omega
/-- both of the same size -/
theorem Sz.add' {n : Nat} {x y : Int} (h : Sz n x) (k : Sz n y) : Sz (n + 1) (x + y) := by
  unfold Sz at *
  rw [Nat.pow_succ]
  omega
theorem Sz.neg {n : Nat} {x : Int} (h : Sz n x) : Sz n (-x) := by
  unfold Sz at *
  omega
theorem Sz.sub {n m : Nat} {x y : Int} (h : Sz n x) (k : Sz m y) : Sz (n + m + 1) (x - y) := by
  rw [Int.sub_eq_add_neg]
  exact h.add k.neg
theorem Sz.sub' {n : Nat} {x y : Int} (h : Sz n x) (k : Sz n y) : Sz (n + 1) (x - y) := by
  unfold Sz at *
  rw [Nat.pow_succ]
  omega
theorem Sz.lg {n : Nat} {x : Int} (h : Sz n x) (l : n ≤ 8999 := by decide) (l0 : 0 < n := by decide) : x.natAbs.log2 < 9000 :=
  Nat.lt_of_lt_of_le (PySem.Flt.log2_lt_of l0 h) (Nat.le_succ_of_le l)
theorem Sz.mok {n m : Nat} {x y : Int} (h : Sz n x) (k : Sz m y) (h0 : 0 < n := by decide) (h1 : 0 < m := by decide) (l : n + m ≤ 1000000 := by decide) : IntMulOk x y := mok_w h k h0 h1 l
theorem Sz.le {n : Nat} {x y : Int} (h : Sz n x) (l : y.natAbs ≤ x.natAbs) : Sz n y := Nat.lt_of_le_of_lt l h
theorem Sz.one : Sz 1 1 := show (1 : Int).natAbs < 2 ^ 1 by decide
theorem Sz.zero : Sz 1 0 := show (0 : Int).natAbs < 2 ^ 1 by decide

/-! ### fractions, and the ratios that stand for them -/
theorem nrm_add {a b c d : Int} (hb : b ≠ 0) (hd : d ≠ 0) : nrm ((nrm a b).1 * (nrm c d).2 + (nrm c d).1 * (nrm a b).2) ((nrm a b).2 * (nrm c d).2) = nrm (a * d + c * b) (b * d) := by
  have h1 := nrm_cross (a := a) (b := b)
  have h2 := nrm_cross (a := c) (b := d)
  refine nrm_same (Int.mul_ne_zero (nrm_ne hb) (nrm_ne hd)) (Int.mul_ne_zero hb hd) ?_
  rw [Int.add_mul, Int.add_mul]
  congr 1
  · calc (nrm a b).1 * (nrm c d).2 * (b * d) = ((nrm a b).1 * b) * (d * (nrm c d).2) := by ac_rfl
      _ = a * (nrm a b).2 * (d * (nrm c d).2) := by rw [h1]
      _ = a * d * ((nrm a b).2 * (nrm c d).2) := by ac_rfl
  · calc (nrm c d).1 * (nrm a b).2 * (b * d) = ((nrm c d).1 * d) * (b * (nrm a b).2) := by ac_rfl
      _ = c * (nrm c d).2 * (b * (nrm a b).2) := by rw [h2]
      _ = c * b * ((nrm a b).2 * (nrm c d).2) := by ac_rfl
theorem nrm_neg {a b : Int} (hb : b ≠ 0) : nrm (-a) b = (-(nrm a b).1, (nrm a b).2) := by
  have h1 := nrm_cross (a := a) (b := b)
  have r := nrm_red (a := a) hb
  rw [← nrm_id (t := -(nrm a b).1) (b := (nrm a b).2) ⟨r.pos, by rw [Int.natAbs_neg]; exact r.cop⟩]
  refine nrm_same hb (nrm_ne hb) ?_
  rw [Int.neg_mul, Int.neg_mul, h1]
theorem nrm_sub {a b c d : Int} (hb : b ≠ 0) (hd : d ≠ 0) : nrm ((nrm a b).1 * (nrm c d).2 - (nrm c d).1 * (nrm a b).2) ((nrm a b).2 * (nrm c d).2) = nrm (a * d - c * b) (b * d) := by
  have h := nrm_add (a := a) (c := -c) hb hd
  rw [nrm_neg hd] at h
  simp only [Int.neg_mul, ← Int.sub_eq_add_neg] at h
  exact h
theorem nrm_mul {a b c d : Int} (hb : b ≠ 0) (hd : d ≠ 0) : nrm ((nrm a b).1 * (nrm c d).1) ((nrm a b).2 * (nrm c d).2) = nrm (a * c) (b * d) := by
  have h1 := nrm_cross (a := a) (b := b)
  have h2 := nrm_cross (a := c) (b := d)
  refine nrm_same (Int.mul_ne_zero (nrm_ne hb) (nrm_ne hd)) (Int.mul_ne_zero hb hd) ?_
  calc (nrm a b).1 * (nrm c d).1 * (b * d) = ((nrm a b).1 * b) * ((nrm c d).1 * d) := by ac_rfl
    _ = a * (nrm a b).2 * (c * (nrm c d).2) := by rw [h1, h2]
    _ = a * c * ((nrm a b).2 * (nrm c d).2) := by ac_rfl
/-- the amount of a number -/
def iab (a : Int) : Int := if a < 0 then -a else a
theorem iab_nat {a : Int} : iab a = (a.natAbs : Int) := by unfold iab; split <;> omega
theorem Sz.iab {n : Nat} {x : Int} (h : Sz n x) : Sz n (iab x) := h.le (by rw [iab_nat]; exact Nat.le_of_eq (Int.natAbs_natCast _))
theorem nrm_abs {a b : Int} (hb : b ≠ 0) : nrm (iab (nrm a b).1) (nrm a b).2 = nrm (iab a) (iab b) := by
  have h1 := congrArg Int.natAbs (nrm_cross (a := a) (b := b))
  have r := nrm_red (a := a) hb
  rw [Int.natAbs_mul, Int.natAbs_mul] at h1
  have e : ((nrm a b).2.natAbs : Int) = (nrm a b).2 := Int.natAbs_of_nonneg (Int.le_of_lt r.pos)
  refine nrm_same (nrm_ne hb) (by rw [iab_nat]; omega) ?_
  rw [iab_nat, iab_nat, iab_nat, ← e, ← Int.natCast_mul, ← Int.natCast_mul, h1]
/-- the ratio of a / b stands at p -/
structure RatQ (ca : Nat → Addr) (H : Hp) (p : Addr) (a b : Int) : Prop where
  ne : b ≠ 0
  at_ : RatAt ca H p (nrm a b).1 (nrm a b).2
theorem RatQ.same {ca : Nat → Addr} {H H' : Hp} {p : Addr} {a b : Int} (h : RatQ ca H p a b) (s : Same H H') : RatQ ca H' p a b := ⟨h.ne, h.at_.same s⟩
theorem rsame {ca : Nat → Addr} {H H' : Hp} {p : Addr} {a b : Int} (s : Same H H') (h : RatQ ca H p a b) : RatQ ca H' p a b := h.same s
theorem strans {H H1 H2 : Hp} (t : Same H1 H2) (s : Same H H1) : Same H H2 := s.trans t
theorem RatQ.to {ca : Nat → Addr} {H : Hp} {p : Addr} {a b c d : Int} (h : RatQ ca H p a b) (hd : d ≠ 0) (e : a * d = c * b) : RatQ ca H p c d := ⟨hd, by rw [← nrm_same h.ne hd e]; exact h.at_⟩
theorem RatQ.ins {ca : Nat → Addr} {H : Hp} {p : Addr} {a b : Int} (h : RatQ ca H p a b) : ∃ dx, H p = some (.ins (ca 2) dx [("top", .int (nrm a b).1), ("bottom", .int (nrm a b).2)]) := h.at_.2
theorem RatQ.of {ca : Nat → Addr} {H : Hp} {p dx : Addr} {a b a' b' : Int} (hb : b ≠ 0) (e : H p = some (.ins (ca 2) dx [("top", .int (nrm a' b').1), ("bottom", .int (nrm a' b').2)])) (n : nrm a' b' = nrm a b) : RatQ ca H p a b :=
  ⟨hb, by rw [n] at e; exact RatAt.of hb e⟩
/-- a number that is a / b: an int, or a ratio -/
def NumQ (ca : Nat → Addr) (H : Hp) (x : V) (a b : Int) : Prop := (x = .int a ∧ b = 1) ∨ ∃ p, x = .ref p ∧ RatQ ca H p a b
theorem NumQ.same {ca : Nat → Addr} {H H' : Hp} {x : V} {a b : Int} (h : NumQ ca H x a b) (s : Same H H') : NumQ ca H' x a b := h.imp id fun ⟨p, e, r⟩ => ⟨p, e, r.same s⟩
theorem NumQ.ne {ca : Nat → Addr} {H : Hp} {x : V} {a b : Int} (h : NumQ ca H x a b) : b ≠ 0 := by
  rcases h with ⟨_, rfl⟩ | ⟨_, _, r⟩
  · decide
  · exact r.ne
theorem NumQ.num {ca : Nat → Addr} {H : Hp} {x : V} {a b : Int} (h : NumQ ca H x a b) : NumV ca H x (nrm a b).1 (nrm a b).2 := by
  rcases h with ⟨rfl, rfl⟩ | ⟨p, e, r⟩
  · rw [nrm_one]
    exact .inl ⟨rfl, rfl⟩
  · exact .inr ⟨p, e, r.at_⟩
theorem RatQ.num {ca : Nat → Addr} {H : Hp} {p : Addr} {a b : Int} (h : RatQ ca H p a b) : NumQ ca H (.ref p) a b := .inr ⟨p, rfl, h⟩
theorem NumQ.int {ca : Nat → Addr} {H : Hp} {a : Int} : NumQ ca H (.int a) a 1 := .inl ⟨rfl, rfl⟩
theorem rOwn_of {ca : Nat → Addr} {H : Hp} {p : Addr} {x : V} {a b a' b' : Int} {sp : Sp} {E : XK} {Q : VK} (h : RatQ ca H p a b) (n : NumQ ca H x a' b') (k : sp [.ref p, x] H Q E) : rOwn (ca 2) sp E (.ref p) x H Q := by
  obtain ⟨dx, e⟩ := h.ins
  refine ⟨p, dx, _, rfl, e, ?_, k⟩
  rcases n with ⟨rfl, rfl⟩ | ⟨q, rfl, r⟩
  · exact .inl ⟨_, rfl⟩
  · obtain ⟨dy, e2⟩ := r.ins
    exact .inr ⟨q, dy, _, rfl, e2⟩
theorem rRefl_of {ca : Nat → Addr} {H : Hp} {p : Addr} {i a b : Int} {sp : Sp} {E : XK} {Q : VK} (h : RatQ ca H p a b) (k : sp [.ref p, .int i] H Q E) : rRefl (ca 2) sp E (.int i) (.ref p) H Q := by
  obtain ⟨dx, e⟩ := h.ins
  exact ⟨i, p, dx, _, rfl, rfl, e, k⟩
theorem rUna_of {ca : Nat → Addr} {H : Hp} {p : Addr} {a b : Int} {sp : Sp} {E : XK} {Q : VK} (h : RatQ ca H p a b) (k : sp [.ref p] H Q E) : rUna (ca 2) sp E (.ref p) H Q := by
  obtain ⟨dx, e⟩ := h.ins
  exact ⟨p, dx, _, rfl, e, k⟩
/-- sums of fractions, from the left -/
def sumQ : Int × Int → List (Int × Int) → Int × Int := List.foldl fun x y => (x.1 * y.2 + y.1 * x.2, x.2 * y.2)
theorem sumQ_size : ∀ (fs : List (Int × Int)) (z : Int × Int) (n : Nat), (∀ f ∈ fs, Sz 200 f.1 ∧ Sz 200 f.2) → Sz n z.1 → Sz n z.2 → Sz (n + 201 * fs.length) (sumQ z fs).1 ∧ Sz (n + 201 * fs.length) (sumQ z fs).2
  | [], z, n, _, h1, h2 => ⟨h1, h2⟩
  | f :: fs, z, n, hf, h1, h2 => by
    obtain ⟨f1, f2⟩ := hf f List.mem_cons_self
    have g1 : Sz (n + 201) (z.1 * f.2 + f.1 * z.2) := ((h1.mul f2).add' ((f1.mul h2).mono (by omega))).mono (by omega)
    have g2 : Sz (n + 201) (z.2 * f.2) := (h2.mul f2).mono (by omega)
    obtain ⟨r1, r2⟩ := sumQ_size fs (z.1 * f.2 + f.1 * z.2, z.2 * f.2) (n + 201) (fun g hg => hf g (List.mem_cons_of_mem _ hg)) g1 g2
    rw [List.length_cons]
    exact ⟨r1.mono (by omega), r2.mono (by omega)⟩
theorem sumQ_ne : ∀ (fs : List (Int × Int)) (z : Int × Int), (∀ f ∈ fs, f.2 ≠ 0) → z.2 ≠ 0 → (sumQ z fs).2 ≠ 0
  | [], _, _, h => h
  | f :: fs, z, hf, h => sumQ_ne fs (z.1 * f.2 + f.1 * z.2, z.2 * f.2) (fun g hg => hf g (List.mem_cons_of_mem _ hg)) (Int.mul_ne_zero h (hf f List.mem_cons_self))
theorem sumQ_app {fs : List (Int × Int)} {z f : Int × Int} : sumQ z (fs ++ [f]) = ((sumQ z fs).1 * f.2 + f.1 * (sumQ z fs).2, (sumQ z fs).2 * f.2) := by
  unfold sumQ
  rw [List.foldl_append]
  rfl
/-- a sum whose first part alone is in lowest terms -/
theorem nrm_addL {a b c d : Int} (hb : b ≠ 0) (hd : d ≠ 0) : nrm ((nrm a b).1 * d + c * (nrm a b).2) ((nrm a b).2 * d) = nrm (a * d + c * b) (b * d) := by
  have h1 := nrm_cross (a := a) (b := b)
  refine nrm_same (Int.mul_ne_zero (nrm_ne hb) hd) (Int.mul_ne_zero hb hd) ?_
  rw [Int.add_mul, Int.add_mul]
  congr 1
  · calc (nrm a b).1 * d * (b * d) = ((nrm a b).1 * b) * (d * d) := by ac_rfl
      _ = a * (nrm a b).2 * (d * d) := by rw [h1]
      _ = a * d * ((nrm a b).2 * d) := by ac_rfl
  · ac_rfl
theorem RatQ.low {ca : Nat → Addr} {H : Hp} {p : Addr} {a b : Int} (h : RatQ ca H p a b) : RatQ ca H p (nrm a b).1 (nrm a b).2 := h.to (nrm_ne h.ne) nrm_cross.symm
/-! ### what another object's change leaves -/
theorem Bag.lst {H : Hp} {L b : Addr} (h : Bag H L b) : ∃ xs, H b = Option.some (.lst xs) := by
  obtain ⟨ns, i, big, mix, cnt, h1, _⟩ := h
  exact ⟨_, h1⟩
theorem RatQ.put {ca : Nat → Addr} {H H' : Hp} {p c : Addr} {a b : Int} {xs : List V} (h : RatQ ca H p a b) (e : H c = some (.lst xs)) (k : Keep c H H') : RatQ ca H' p a b :=
  ⟨h.ne, h.at_.1, let ⟨dx, q⟩ := h.at_.2; ⟨dx, k _ _ q (ne_of q e fun z => nomatch z)⟩⟩
theorem NumQ.put {ca : Nat → Addr} {H H' : Hp} {c : Addr} {x : V} {a b : Int} {xs : List V} (h : NumQ ca H x a b) (e : H c = some (.lst xs)) (k : Keep c H H') : NumQ ca H' x a b := h.imp id fun ⟨p, q, r⟩ => ⟨p, q, r.put e k⟩
theorem tput {H H' : Hp} {p c : Addr} {ys xs : List V} (h : H p = some (.tup ys)) (e : H c = some (.lst xs)) (k : Keep c H H') : H' p = some (.tup ys) := k _ _ h (ne_of h e fun z => nomatch z)
/-- a number with its fraction -/
def Item (ca : Nat → Addr) (H : Hp) (z : V) : Prop := ∃ t x v a b, z = .ref t ∧ H t = some (.tup [x, .ref v]) ∧ H v = some (.tup [.int a, .int b]) ∧ NumQ ca H x a b ∧ Sz 200 a ∧ Sz 200 b
theorem Item.put {ca : Nat → Addr} {H H' : Hp} {c : Addr} {z : V} {xs : List V} (h : Item ca H z) (e : H c = some (.lst xs)) (k : Keep c H H') : Item ca H' z := by
  obtain ⟨t, x, v, a, b, rfl, h1, h2, n, s⟩ := h
  exact ⟨t, x, v, a, b, rfl, tput h1 e k, tput h2 e k, n.put e k, s⟩
theorem Item.same {ca : Nat → Addr} {H H' : Hp} {z : V} (h : Item ca H z) (s : Same H H') : Item ca H' z := by
  obtain ⟨t, x, v, a, b, rfl, h1, h2, n, z⟩ := h
  exact ⟨t, x, v, a, b, rfl, s _ _ h1, s _ _ h2, n.same s, z⟩
/-- the numbers of a list and their fractions, beside each other -/
def Nums (ca : Nat → Addr) (H : Hp) : List V → List (Int × Int) → Prop := Paired fun x f => NumQ ca H x f.1 f.2 ∧ Sz 200 f.1 ∧ Sz 200 f.2
theorem paired_get {α β : Type} {F : α → β → Prop} : ∀ {xs : List α} {fs : List β} {i : Nat} {x : α} {f : β}, Paired F xs fs → xs[i]? = some x → fs[i]? = some f → F x f
  | _, _, 0, _, _, .cons r _, h1, h2 => by
    simp at h1 h2
    subst h1; subst h2
    exact r
  | _, _, i + 1, _, _, .cons _ t, h1, h2 => paired_get (i := i) t (by simpa using h1) (by simpa using h2)
theorem paired_mem {α β : Type} {F : α → β → Prop} : ∀ {xs : List α} {fs : List β}, Paired F xs fs → ∀ f ∈ fs, ∃ x, F x f
  | _, _, .cons r t, f, h => by
    rcases List.mem_cons.mp h with rfl | h
    · exact ⟨_, r⟩
    · exact paired_mem t f h
theorem Nums.same {ca : Nat → Addr} {H H' : Hp} {xs : List V} {fs : List (Int × Int)} (h : Nums ca H xs fs) (s : Same H H') : Nums ca H' xs fs := Paired.mapP h fun _ _ n => ⟨n.1.same s, n.2⟩
theorem Nums.put {ca : Nat → Addr} {H H' : Hp} {c : Addr} {xs ys : List V} {fs : List (Int × Int)} (h : Nums ca H xs fs) (e : H c = some (.lst ys)) (k : Keep c H H') : Nums ca H' xs fs := Paired.mapP h fun _ _ n => ⟨n.1.put e k, n.2⟩
theorem Nums.ne {ca : Nat → Addr} {H : Hp} {xs : List V} {fs : List (Int × Int)} (h : Nums ca H xs fs) : ∀ f ∈ fs, f.2 ≠ 0 := fun f m => let ⟨_, n⟩ := paired_mem h f m; n.1.ne
theorem Nums.sz {ca : Nat → Addr} {H : Hp} {xs : List V} {fs : List (Int × Int)} (h : Nums ca H xs fs) : ∀ f ∈ fs, Sz 200 f.1 ∧ Sz 200 f.2 := fun f m => let ⟨_, n⟩ := paired_mem h f m; n.2
/-! ### lists of the same things -/
def DId : Eqv := fun x y H => DFlat x y H ∨ ∃ a, x = .ref a ∧ y = .ref a
theorem mon_id : Mon DId := fun _ _ _ _ _ d => d
theorem eqG_id {X : Cx} : EqG X 0 DId := EqG.or eqG_flat fun A pins s σ H x y u v sb I rx ry d => by
  obtain ⟨a, rfl, rfl⟩ := d
  cases rx
  cases ry
  exact SeqAt.EqAt.same (A := A) (s := s) (.ref a) X.prog X.w X.xe _ ⟨rfl, H, I, Ext.rfl'⟩
theorem op_eqId {X : Cx} (hr : Room 1 X.A) : OpR X (compareOp .Eq) (rEqG (DList DId)) := op_eqG (rcG_list mon_id eqG_id) hr
/-! ### a static method, called on its class -/
structure OwnS (P : Program) (w : World) (K : PySem.W.Frag) (mg : Str → Option Value) (base : Heap) (k : Nat) (C : Addr) (m : Str) (ps : List Str) (sp : Sp) : Prop where
  ex : ∃ f fd p mc, FnOk P w K mg base (L2.CX P w) k f fd ps sp ∧ ClX.CRead K C mc ∧ PySem.W.findCls K (.ref C) mc m = some (.get (.builtin "staticmethod.__get__") (.ref p) .none (.ref C)) ∧ (∃ rest, PySem.W.recIn K p "staticmethod" = some (.ref f :: rest)) ∧
    PySem.W.keepIn K (.ref f) = true ∧ Binds K fd ps []
def tStatS (C : Addr) (sp : Sp) (E : L2.St → XK) (ta : TE) (t : TA) : TE := fun σ H Q => ta σ H fun x H1 => x = .ref C ∧ t σ H1 fun vs H2 => sp vs H2 Q (E σ)
theorem pe_owns {X : Cx} {k : Nat} {C : Addr} {m : Str} {ps : List Str} {sp : Sp} {E : L2.St → XK} {pos apos : Pos} {e o : Expr} {es : List Expr} {ta : TE} {t : TA} {pl : Sem Bool} (O : OwnS X.prog X.w X.K X.mg X.base k C m ps sp) (he : PE X o ta) (hr : Room k X.A)
    (hx : ∀ σ, PassesAt (L2.CX X.prog X.w) X σ (E σ)) (ha : PA X (e :: es) t)
    (hst : starEach (e :: es) X.env = (false, eval e X.env) :: starEach es X.env := by rfl) (hpl : (backTo pos (starEach es X.env)).any (·.1) = false := by rfl)
    (ht : eval (.Call (.Attribute o m apos) (e :: es) [] pos) X.env = (do
      let ov ← eval o X.env
      standAt apos.atName
      let (f, first) ← holding [ov] (getMethod ov m pl)
      callWith pos f first (backTo pos (starEach (e :: es) X.env)) (backToKw pos (keywordEach [] X.env))) := by rfl) :
    PE X (.Call (.Attribute o m apos) (e :: es) [] pos) (tStatS C sp E ta t) := by
  obtain ⟨f, fd, q, mc, F, r, hc, ⟨rest, hp⟩, hk, hb⟩ := O.ex
  refine ⟨fun pins s σ H Q I h => ?_⟩
  refine PySem.W.methodCall_KW (pl := pl) (thn (he.run pins s σ H _ I h) fun u s1 ⟨x, H1, I1, rx, ex, q1⟩ => ?_) ht
  subst ex
  obtain rfl : u = Value.ref C := rx
  refine PySem.W.method_cls I1.kIn r.ga (PySem.W.cls_bind I1.kIn r.rd hc ?_)
  refine wpAny_call (PySem.W.sm_get (s := { s1 with toks := s1.toks + 1 }) I1.kIn hp (PySem.W.handed_on rfl ?_))
  have I2 := I1.tok (s1.toks + 1)
  refine PySem.W.callWith_K (first := []) (h₀ := X.base) I.ok.mod.kin hk (thn (ha.run pos pins _ σ H1 _ I2 q1) fun us s2 ⟨vs, H2, I3, rv, q2⟩ => ⟨I3.kIn, ?_⟩) hst hpl
  exact run_fnS F hr hb (hx σ) I3 rv q2
/-! ### an own error that is caught -/
theorem exm1 {K : PySem.W.Frag} {C : Addr} (h1 : PySem.W.subIn K (.ref C) (.type "BaseException") = some true) (h2 : PySem.W.isClsIn K C = true) (h3 : PySem.W.typeIn K (.ref C) = some (.type "type")) (h4 : PySem.W.subIn K (.ref C) (.ref C) = some true) :
    PySem.W.exmOne K (.ref C) (.ref C) = some true := by
  have h2' : (PySem.W.clsIn K C).isSome = true := h2
  unfold PySem.W.exmOne PySem.W.kitCls
  rw [if_pos (by rw [h1]; rfl)]
  simp only [h2', h3, h4]
  rfl
def tGuard (p : Prop) (t : TS) : TS := fun D σ H => p ∧ t D σ H
theorem pss_err {X : Cx} {st : List Stmt} {t : TS} {cls : Value} {d : Option Addr} {oe : Obj} {C : Addr} (hz : Zc cls d oe) (h : Zc (.ref C) none oe → PSs X st t) : PSs X st (tGuard (cls = .ref C ∧ d = none) t) :=
  ⟨fun pins s σ H D I q => (h (q.1.1 ▸ q.1.2 ▸ hz)).run pins s σ H D I q.2⟩
/-! ### the law's own promise, and the end -/
def sp_law (K : PySem.W.Frag) (_ : Nat → Addr) : Sp := fun vs H Q _ => ∃ (a : Addr) (ns : List Int), vs = [.ref a] ∧ SqL K H a (ns.map V.int) ∧ ∀ H' : Hp, Q (.bl true) H'
theorem walk {l : PySem.W.OpenLaw} {q : Program} {loose : List Str} {XP : (Str → Option Value) → Heap → Prop} {YP : World → Heap → Prop} {d : DefRec} {K : Params → PySem.W.Frag} (k : Nat) (hk : Room k callerA) (hn : l.most = some 63) (hdf : d.params.defaults = [])
    (hY : ∀ (w : World) (h : Heap), YP w h → (K w.params).In h)
    (F : ∀ (w : World) (mg : Str → Option Value) (fa : Addr) (h : Heap), (K w.params).In h → h.Ns mainGlobals mg → mg d.name = some (.ref fa) →
      ∃ fd : FuncData, (∀ (s : Shared) (u : Value), BindsTo s fd ⟨[u], []⟩ [("_law_script", u)]) ∧ ∀ base : Heap, (K w.params).In base → base.Ns mainGlobals mg → FnOk l.prog w (K w.params) mg base (L2.CX l.prog w) k fa fd ["_law_script"] (sp_law (K w.params) fun _ => 0)) :
    PySem.W.WalkO q loose XP YP l.row.toRowW d [] (fun f vs => PySem.call f vs) :=
  L2.walk_of (n := 63) (k := k) (x := "_law_script") (CX := fun w => L2.CX l.prog w) (sp := fun w => sp_law (K w.params) fun _ => 0) hn (by decide) hdf hk hY F (fun _ _ a ns _ _ hS => ⟨a, ns, rfl, hS, fun _ => rfl⟩)
    fun _ _ _ _ _ h => by
      obtain ⟨_, _, _, _, _, _, _, _, _, _, _, _, z⟩ := h
      exact z
theorem binds_all {K : PySem.W.Frag} {fd : FuncData} {ps : List Str} {ds : List Value} (v : Vals [] ds) (b : L2.Binds K fd ps ds) : L2.Binds K fd ps [] := by
  cases v
  exact b
end Lo

set_option Elab.async false
set_option linter.all false
set_option maxRecDepth 100000
set_option maxHeartbeats 4000000
namespace Lo
open PySem PySem.Spec PyProof.Rows L2
open TL (tl tl_append)
/-! ### further rules -/
/-- a statement that is never reached -/
def tDead : TS := fun _ _ _ => False
theorem ps_dead {X : Cx} {st : Stmt} : PS X st tDead := ⟨fun _ _ _ _ _ _ h => h.elim⟩
theorem pe_const {X : Cx} {x : Str} {i : Int} {p : Pos} (hm : ∃ t, X.mg x = some (.int i t)) (hg : Gl X x) (hdb : (x == ("__debug__" : Str)) = false := by decide) : PE X (.Name x p) (tC (.int i)) := by
  obtain ⟨t, h⟩ := hm
  exact pe_glob hg h ⟨t, rfl⟩ hdb
theorem op_mulS {X : Cx} : OpR X (binaryOp .Mult) (fun x y H Q => ∃ z n, x = .str z ∧ y = .int n ∧ MulOk z n ∧ Q (.str (Txt.mul z n)) H) := by
  intro pins s σ H x y v u Q I rx ry h
  obtain ⟨z, n, rfl, rfl, hok, q⟩ := h
  obtain ⟨t, rfl⟩ := rx
  obtain ⟨t2, rfl⟩ := ry
  exact SB.mul hok fun t' k => ⟨.str (Txt.mul z n), H, I.tok _, ⟨t', rfl⟩, q⟩
section
variable {X : Cx} {k i : Nat} {C : Addr} {ps : List Str} {sp : Sp} {E : L2.St → XK} {x m y : Str} {p pos apos : Pos} {e o : Expr} {es : List Expr} {ta : TE} {t : TA} {dvs : List V}
/-- C() -/
theorem pe_owni0 (O : OwnI X.prog X.w X.K X.mg X.base k x C ps dvs sp) (hr : Room (k + 1) X.A) (hg : Gl X x) (hx : ∀ σ, PassesAt (L2.CX X.prog X.w) X σ (E σ)) (hdb : (x == ("__debug__" : Str)) = false := by decide) :
    PE X (.Call (.Name x p) [] [] pos) (tMakeS C sp dvs E tNil) := by
  obtain ⟨f, fd, ds, F, M, hm, hb, hd⟩ := O.ex
  refine ⟨fun pins s σ H Q I h => ?_⟩
  refine wpAny_Call_Name_kw (ld_glob I hg hm ?_ hdb)
  exact PySem.W.callWith_K0 I.kIn M.kp (run_makeS (us := []) (vs := []) M F hr hb hd (hx σ) I .nil h)
/-- cls(..), cls a name of the def that holds the class -/
def tMakeL (i : Nat) (C : Addr) (sp : Sp) (dvs : List V) (E : L2.St → XK) (t : TA) : TE := fun σ H Q => σ[i]? = some (some (.ref C)) ∧ tMakeS C sp dvs E t σ H Q
theorem pe_ownl (O : OwnI X.prog X.w X.K X.mg X.base k x C ps dvs sp) (hr : Room (k + 1) X.A) (hN : X.N[i]? = some y) (hv : Vis X.env.scope y) (hx : ∀ σ, PassesAt (L2.CX X.prog X.w) X σ (E σ)) (ha : PA X (e :: es) t)
    (hdb : (y == ("__debug__" : Str)) = false := by decide) (hcd : (y == ("__classdict__" : Str)) = false := by decide)
    (he : starEach (e :: es) X.env = (false, eval e X.env) :: starEach es X.env := by rfl) (hpl : (backTo pos (starEach es X.env)).any (·.1) = false := by rfl) :
    PE X (.Call (.Name y p) (e :: es) [] pos) (tMakeL i C sp dvs E t) := by
  obtain ⟨f, fd, ds, F, M, hm, hb, hd⟩ := O.ex
  refine ⟨fun pins s σ H Q I h => ?_⟩
  obtain ⟨hs, ht⟩ := h
  refine wpAny_Call_Name_kw (thn ((pe_var (pos := p) hN hv hdb hcd).run pins s σ H (fun v H1 => v = .ref C ∧ H1 = H) I ⟨.ref C, hs, rfl, rfl⟩) fun u s1 ⟨v, H1, I1, r1, q1⟩ => ?_)
  obtain ⟨rfl, rfl⟩ := q1
  cases r1
  refine PySem.W.callWith_K (h₀ := X.base) I.ok.mod.kin M.kp (thn (ha.run pos pins s1 σ _ _ I1 ht) fun us s2 ⟨vs, H2, I2, r, q⟩ => ⟨I2.kIn, ?_⟩) he hpl
  exact run_makeS M F hr hb hd (hx σ) I2 r q
end
/-- a field, the written part by its own name (within a comprehension) -/
theorem pe_fldK {X : Cx} {K : PySem.W.Frag} {e : Expr} {ta : TE} {f : Str} {pos : Pos} (he : PE X e ta) (hb : attributeBase e f X.env (eval e X.env) = eval e X.env) (hK : X.K = K) : PE X (.Attribute e f pos) (tFld K ta f) := by
  subst hK
  exact pe_fld he hb
/-- a class method, called on its class -/
structure OwnC (P : Program) (w : World) (K : PySem.W.Frag) (mg : Str → Option Value) (base : Heap) (k : Nat) (C : Addr) (m : Str) (ps : List Str) (sp : Sp) : Prop where
  ex : ∃ f fd p mc, FnOk P w K mg base (L2.CX P w) k f fd ps sp ∧ ClX.CRead K C mc ∧ ClX.CMet K C mc m p f ∧ Binds K fd ps []
theorem pe_ownc {X : Cx} {k : Nat} {C : Addr} {m : Str} {ps : List Str} {sp : Sp} {E : XK} {pos apos : Pos} {e o : Expr} {es : List Expr} {ta : TE} {t : TA} {pl : Sem Bool} (O : OwnC X.prog X.w X.K X.mg X.base k C m ps sp) (he : PE X o ta) (hr : Room k X.A)
    (hx : Passes (L2.CX X.prog X.w) X E) (ha : PA X (e :: es) t)
    (hst : starEach (e :: es) X.env = (false, eval e X.env) :: starEach es X.env := by rfl) (hpl : (backTo pos (starEach es X.env)).any (·.1) = false := by rfl)
    (ht : eval (.Call (.Attribute o m apos) (e :: es) [] pos) X.env = (do
      let ov ← eval o X.env
      standAt apos.atName
      let (f, first) ← holding [ov] (getMethod ov m pl)
      callWith pos f first (backTo pos (starEach (e :: es) X.env)) (backToKw pos (keywordEach [] X.env))) := by rfl) :
    PE X (.Call (.Attribute o m apos) (e :: es) [] pos) (ClX.tCMeth C sp E ta t) := by
  obtain ⟨f, fd, q, mc, F, r, c, hb⟩ := O.ex
  exact ClX.pe_cmeth he r c ((F.raw hb .nil).imp fun vs H Q E h => by rw [List.append_nil]; exact h) hr hx ha hst hpl ht
/-! ### an instance of another class on the right -/
section
open PySem.W
variable {prog : Program} {w : World} {A : Around} {E : Value → Shared → Prop} {s : Shared} {x y C D f g : Addr} {K : Frag} {ox oy : Obj} {od od' : Option Obj} {nm : String} {Q : Option Value → Shared → Prop} {rc ro : Option Value}
theorem bin1_other (X : K.In s.heap) (I : InstAt s.heap x ox C od) (J : InstAt s.heap y oy D od') (hc : selfFirst K C = true) (hs : findIn K (.ref C) (PySem.dunder nm) = some (some (.ref f))) (hf : isFn K (.ref f) = true) (hr : findIn K (.ref C) (dunderR nm) = some rc) (hp : rc = none ∨ ∃ g : Addr, rc = some (.ref g))
    (hcD : selfFirst K D = true) (hsD : findIn K (.ref D) (PySem.dunder nm) = some (some (.ref g))) (hrD : findIn K (.ref D) (dunderR nm) = some ro) (hpD : ro = none ∨ ∃ g : Addr, ro = some (.ref g)) (hne : C ≠ D) (hsub : subIn K (.ref D) (.ref C) = some false)
    (h : wpAny (model prog w) A (call (.ref f) [.ref x, .ref y]) (PySem.W.CmpBack fun v => Q (some v)) E s) : wpAny (model prog w) A (binaryOp1 nm (.ref x) (.ref y)) Q E s := by
  have one := ksp_try X I hs hf h
  have L3 : Looks (model prog w) s.heap (fillsNumberSlot (.ref C) nm) true := slot_fills X hc hs
  have L4 : Looks (model prog w) s.heap (fillsNumberSlot (.ref D) nm) true := slot_fills X hcD hsD
  have L1 : Looks (model prog w) s.heap (typeOf (.ref x)) (.ref C) := I.type
  have L2 : Looks (model prog w) s.heap (typeOf (.ref y)) (.ref D) := J.type
  have L5 : Looks (model prog w) s.heap (isSubtype (.ref D) (.ref C)) false := looks_subIn X hsub
  have L6 : Looks (model prog w) s.heap (numberSlotInPython (.ref C) nm) true := ksp_inPy X hs hr hp
  have L7 : Looks (model prog w) s.heap (numberSlotInPython (.ref D) nm) true := ksp_inPy X hsD hrD hpD
  have hne : (Value.ref C == Value.ref D) = false := Bool.eq_false_iff.mpr fun q => hne (Value.ref.inj (beq_iff_eq.mp q))
  obtain ⟨hh, gg, d, tt, os⟩ := s
  unfold binaryOp1
  refine wpAny_bind (L1.at (wpAny_bind (L2.at (wpAny_bind (L3.at ?_)))))
  simp only [hne, Bool.false_eq_true, if_false]
  ksp_lk
  refine wpAny_mono one (fun r s' hr => ?_) fun _ _ e => e
  obtain ⟨v, rfl, hq⟩ := hr
  ksp_lk
  exact hq
end
section
variable {X : Cx} {k : Nat} {C D : Addr} {ps : List Str} {sp : Sp} {E : XK}
/-- an instance of C on the left; an int, or an instance of C or of D on the right -/
def rOwnN (C D : Addr) (sp : Sp) (E : XK) : R2 := fun x y H Q => ∃ a dx fs, x = .ref a ∧ H a = some (.ins C dx fs) ∧ ((∃ i, y = .int i) ∨ (∃ b dy gs, y = .ref b ∧ H b = some (.ins C dy gs)) ∨ ∃ b dy gs, y = .ref b ∧ H b = some (.ins D dy gs)) ∧ sp [x, y] H Q E
theorem op_ownN (o : AOp) (A : Arith X.K C) (B : Arith X.K D) (hne : C ≠ D) (hsub : PySem.W.subIn X.K (.ref D) (.ref C) = some false) (O : OwnM X.prog X.w X.K X.mg X.base k C o.m ps sp) (hr : Room k X.A) (hx : Passes (L2.CX X.prog X.w) X E) :
    OpR X (binaryOp o.op) (rOwnN C D sp E) := by
  intro pins s σ H x y v u Q I rx ry h
  obtain ⟨a, dx, fs, ex, ha, hy, hsp⟩ := h
  rcases hy with h1 | h1 | ⟨b, dy, gs, ey, hb'⟩
  · exact op_own o A O hr hx pins s σ H x y v u Q I rx ry ⟨a, dx, fs, ex, ha, .inl h1, hsp⟩
  · exact op_own o A O hr hx pins s σ H x y v u Q I rx ry ⟨a, dx, fs, ex, ha, .inr h1, hsp⟩
  · subst ex
    subst ey
    obtain rfl : v = Value.ref a := rx
    obtain rfl : u = Value.ref b := ry
    obtain ⟨f, fd, Fo, hm, hb⟩ := O.ex
    obtain ⟨_, od, J⟩ := inst_at I ha
    obtain ⟨_, od2, J2⟩ := inst_at I hb'
    have h1 : PySem.W.findIn X.K (.ref C) (PySem.dunder o.op.info.2) = some (some (.ref f)) := by rw [o.em]; exact hm.at_
    have refl_of : ∀ {c : Addr}, Arith X.K c → ∃ rc, PySem.W.findIn X.K (.ref c) (dunderR o.op.info.2) = some rc ∧ refOr rc = true := by
      intro c A
      rw [o.er]
      obtain ⟨a, b, c, q1, q2, q3⟩ := A.refl
      cases o
      · exact ⟨_, q1⟩
      · exact ⟨_, q2⟩
      · exact ⟨_, q3⟩
    obtain ⟨rc, h2, hrc⟩ := refl_of A
    obtain ⟨rd, h3, hrd⟩ := refl_of B
    obtain ⟨g, h4⟩ : ∃ g : Addr, PySem.W.findIn X.K (.ref D) (PySem.dunder o.op.info.2) = some (some (.ref g)) := by
      rw [o.em]
      obtain ⟨a, b, c, q1, q2, q3⟩ := B.has
      cases o
      · exact ⟨_, q1⟩
      · exact ⟨_, q2⟩
      · exact ⟨_, q3⟩
    have run := run_fn (us := [.ref a, .ref b]) (vs := [.ref a, .ref b]) (dvs := []) Fo hr hb .nil hx I (.cons rfl (.cons rfl .nil)) hsp
    have run2 := wpAny_mono run (fun u s' q => back_of (R := fun v s' => ∃ z, some v = some z ∧ EP X pins σ Q z s') q fun v s' q => ⟨v, rfl, q⟩) fun _ _ e => e
    exact bin_of1 (bin1_other I.kIn J J2 A.sf h1 hm.fn h2 (refOr_of hrc) B.sf h4 h3 (refOr_of hrd) hne hsub run2)
end
/-! ### name = {..} of a comprehension, the name a local -/
theorem ps_setDc {X : Cx} {slot : Nat} {nm : Str} {np : Pos} {ke ve target src : Expr} {tests : List Expr} {sc : Scope} {mine : List (Str × Nat)} {pc ps : Pos} {ti : TI} {tg : TG} {tt : TT} {tk tv : TE} (calm : X.calm = true) (nodup : X.N.Nodup) (at_ : X.N[slot]? = some nm)
    (loc : X.env.scope.names.lookup nm = some .local) (sw : swapsWith (.DictComp ke ve [⟨target, src, tests, 0⟩] sc pc) (some (.Name nm np)) ps.line X.env = pure true) (over : PI X target src ti) (blk : BlkOk X.N X.env.scope sc mine)
    (pg : ∀ (s1 : Shared) (H1 : Hp) (c1 : Addr) (l1 : List (Str × Addr)) (f1 : List Addr), PG (X.blk s1 H1 sc (compEnvC sc l1 c1 X.env) f1) target tg)
    (pt : ∀ (s1 : Shared) (H1 : Hp) (c1 : Addr) (l1 : List (Str × Addr)) (f1 : List Addr), PTs (X.blk s1 H1 sc (compEnvC sc l1 c1 X.env) f1) tests tt)
    (pk : ∀ (s1 : Shared) (H1 : Hp) (c1 : Addr) (l1 : List (Str × Addr)) (f1 : List Addr), PE (X.blk s1 H1 sc (compEnvC sc l1 c1 X.env) f1) ke tk)
    (pv : ∀ (s1 : Shared) (H1 : Hp) (c1 : Addr) (l1 : List (Str × Addr)) (f1 : List Addr), PE (X.blk s1 H1 sc (compEnvC sc l1 c1 X.env) f1) ve tv) (fold : ∀ x, foldedSetIterable src X.env x = pure x := by intro _; rfl) :
    PS X (.Assign [.Name nm np] (.DictComp ke ve [⟨target, src, tests, 0⟩] sc pc) ps) (tAsg (tDc ti tg tt tk tv (mine.map (·.2))) (gName slot)) := by
  refine ⟨fun pins s σ H D I want => ?_⟩
  rw [exec_Assign_Name_used _ _ _ _ sw]
  refine wpAny_bind (wpAny_standAt (wpAny_bind ?_))
  show wpAny _ X.A (do let _ ← comprehension (.DictComp ke ve [⟨target, src, tests, 0⟩] sc pc) sc X.env (firstIterPos [⟨target, src, tests, 0⟩] pc) newDict false (eval src X.env) (some (assign (.Name nm np) X.env))) _ _ s
  have want : tDc ti tg tt tk tv (mine.map (·.2)) σ H (fun x H1 => gName slot x σ H1 D.nx) := want
  refine wpAny_bind (thn (dc_core (Qf := fun _ s' => SP X pins D .next s') calm nodup I over blk pg pt pk pv fold want fun new C s' m H' I' q ns fp => ?_) fun _ s' hq => wpAny_pure (wpAny_pure hq))
  show wpAny _ _ (assign (.Name nm np) X.env (.ref new)) _ _ _
  refine wpAny_assign_Name (store_ok2 (v := V.ref new) I' nodup at_ (.inl loc) rfl (fun s2 I2 ⟨a, sb, ha⟩ => ?_) (.inr loc))
  obtain ⟨g0, g1, g2, g3, g4, g5⟩ := fp
  have apart : C ≠ a := ha.elim (fun z => z ▸ g1) fun z e => g4 nm a z e.symm
  exact ⟨m, ns.sameBut sb apart, fun h3 sb3 => ⟨_, H', I2.turned (t' := s2.toks) (fun b o hb e => (sb3.2 b hb).trans e) g0 g1 g3 g4 g5, q⟩⟩
theorem sw_trueD {ke ve : Expr} {gs : List Comprehension} {sc : Scope} {pc np : Pos} {nm : Str} {l : Nat} {env : Env} (kind : env.scope.kind = .function) (loc : env.scope.names.lookup nm = some .local) (line : (np.line == pc.line) = true)
    (other : (sc.names.any fun (n, k) => n == nm && (k == .local || k == .cell)) = false) : swapsWith (.DictComp ke ve gs sc pc) (some (.Name nm np)) l env = pure true := by
  have one : env.kindOf nm = some .local := loc
  have two : env.blockKind = .function := by unfold Env.blockKind; rw [kind]; rfl
  unfold swapsWith
  simp only [two, one, other, Expr.pos, line]
  rfl
/-! ### words of letters -/
def Lets (z : Str) : Prop := ∀ c ∈ tl z, 97 ≤ c ∧ c ≤ 122
structure NameOk (z : Str) : Prop where
  le : z.length ≤ 12
  ne : 0 < z.length
  ls : Lets z
theorem lets_app {x y : Str} (h : Lets x) (k : Lets y) : Lets (x ++ y) := fun c m => by
  rw [tl_append] at m
  rcases List.mem_append.mp m with m | m
  · exact h c m
  · exact k c m
theorem len_app {x y : Str} : (x ++ y).length = x.length + y.length := by
  show (x.cps ++ y.cps).size = _
  rw [Array.size_append]
  rfl
theorem lets_cut {z : Str} {lo hi : Option Int} (h : Lets z) : Lets (cutS z lo hi) := fun c m => h c (by
  have m : c ∈ (z.cps.toList.drop (HT.sIx z.length 0 lo)).take (HT.sIx z.length z.length hi - HT.sIx z.length 0 lo) := by
    have e : tl (cutS z lo hi) = (z.cps.toList.drop (HT.sIx z.length 0 lo)).take (HT.sIx z.length z.length hi - HT.sIx z.length 0 lo) := by
      unfold cutS tl
      rfl
    rw [e] at m
    exact m
  exact List.mem_of_mem_drop (List.mem_of_mem_take m))
theorem len_cuts {z : Str} {w : Int} : (cutS z none (some w)).length + (cutS z (some w) none).length = z.length := by
  unfold cutS Str.length
  have e1 : HT.sIx z.cps.size 0 none = 0 := rfl
  have e2 : HT.sIx z.cps.size z.cps.size none = z.cps.size := rfl
  have e3 : HT.sIx z.cps.size z.cps.size (some w) = HT.sIx z.cps.size 0 (some w) := rfl
  have e4 := HT.sIx_le z.cps.size 0 (Nat.zero_le _) (some w)
  simp only [Str.length, e1, e2, e3, List.size_toArray, List.length_take, List.length_drop, Array.length_toList]
  omega
theorem lets_one {c : Nat} (h : 97 ≤ c ∧ c ≤ 122) : Lets ⟨#[c]⟩ := fun d m => by
  have e : d = c := by simpa [tl] using m
  subst e
  exact h
theorem len_one {c : Nat} : (⟨#[c]⟩ : Str).length = 1 := rfl
theorem lets_nil : Lets Str.empty := fun c m => by simp [tl, Str.empty] at m
theorem mul_01 {z : Str} {n : Int} (h : n = 0 ∨ n = 1) : MulOk z n ∧ (Txt.mul z n = Str.empty ∨ Txt.mul z n = z) := by
  rcases h with rfl | rfl
  · exact ⟨⟨by decide, fun z => absurd (by decide) z, fun z => absurd (by decide) z⟩, .inl rfl⟩
  · exact ⟨⟨by decide, fun _ z => by simp at z, fun _ z => by simp at z⟩, .inr rfl⟩
theorem uni_alpha : ∀ c : Fin 26, Unicode.isAlpha (97 + c) = true ∧ Unicode.isLower (97 + c) = true ∧ Unicode.isUpper (97 + c) = false ∧ Unicode.isTitle (97 + c) = false := by decide +kernel
theorem uni_of {c : Nat} (h : 97 ≤ c ∧ c ≤ 122) : Unicode.isAlpha c = true ∧ Unicode.isLower c = true ∧ Unicode.isUpper c = false ∧ Unicode.isTitle c = false := by
  have := uni_alpha ⟨c - 97, by omega⟩
  have e : 97 + (c - 97) = c := by omega
  simp only [e] at this
  exact this
def nmB (z : Str) : Bool := decide (z.length ≤ 12) && (Txt.isascii z && (Txt.isalpha z && Txt.islower z))
theorem NameOk.asc {z : Str} (h : NameOk z) : Txt.isascii z = true := by
  unfold Txt.isascii
  rw [← Array.all_toList, List.all_eq_true]
  intro c m
  have := h.ls c m
  exact decide_eq_true (by omega)
theorem NameOk.alp {z : Str} (h : NameOk z) : Txt.isalpha z = true := by
  unfold Txt.isalpha
  rw [Bool.and_eq_true]
  refine ⟨decide_eq_true h.ne, ?_⟩
  rw [← Array.all_toList, List.all_eq_true]
  exact fun c m => (uni_of (h.ls c m)).1
theorem NameOk.low {z : Str} (h : NameOk z) : Txt.islower z = true := by
  unfold Txt.islower
  rw [Bool.and_eq_true, ← Array.any_toList, List.any_eq_true, Bool.not_eq_true', ← Array.any_toList, List.any_eq_false]
  have n := h.ne
  refine ⟨?_, fun c m => ?_⟩
  · have m : z.cps[0]'n ∈ z.cps.toList := by simpa using Array.getElem_mem n
    exact ⟨z.cps[0]'n, m, (uni_of (h.ls _ m)).2.1⟩
  · have u := uni_of (h.ls c m)
    rw [u.2.2.1, u.2.2.2]
    decide
theorem NameOk.nm {z : Str} (h : NameOk z) : nmB z = true := by
  unfold nmB
  rw [h.asc, h.alp, h.low, decide_eq_true h.le]
  rfl
/-! ### sorted lists of words -/
theorem tl_inj {x y : Str} (h : tl x = tl y) : x = y := by
  obtain ⟨⟨a⟩⟩ := x
  obtain ⟨⟨b⟩⟩ := y
  cases (show a = b from h)
  rfl
theorem rising_pw : ∀ (p : Str) (l : List Str), risingS p l = true → (p :: l).Pairwise fun a b => ¬ tl b < tl a
  | p, [], _ => by simp
  | p, x :: r, h => by
    have h : (!ltCps x.cps.toList p.cps.toList && risingS x r) = true := h
    rw [Bool.and_eq_true, Bool.not_eq_true', ltCps_eq] at h
    have h1 : ¬ tl x < tl p := of_decide_eq_false h.1
    have ih := rising_pw x r h.2
    refine List.pairwise_cons.mpr ⟨fun y m => ?_, ih⟩
    rcases List.mem_cons.mp m with rfl | m
    · exact h1
    · have h2 := (List.pairwise_cons.mp ih).1 y m
      exact List.not_lt.mpr (List.le_trans (List.not_lt.mp h1) (List.not_lt.mp h2))
theorem sorted_pw {l : List Str} (h : sortedS l = true) : l.Pairwise fun a b => ¬ tl b < tl a := by
  cases l with
  | nil => exact .nil
  | cons x r => exact rising_pw x r h
theorem sorted_uniq {l m : List Str} (h : sortedS l = true) (k : sortedS m = true) (p : l.Perm m) : l = m :=
  List.Perm.eq_of_pairwise (fun a b _ _ h1 h2 => tl_inj (List.le_antisymm (List.not_lt.mp h1) (List.not_lt.mp h2))) (sorted_pw h) (sorted_pw k) p
theorem nodup_len {α : Type} [DecidableEq α] : ∀ {l m : List α}, l.Nodup → (∀ x ∈ l, x ∈ m) → l.length ≤ m.length
  | [], m, _, _ => Nat.zero_le _
  | x :: l, m, h, s => by
    obtain ⟨h1, h2⟩ := List.nodup_cons.mp h
    have hx := s x List.mem_cons_self
    have ih := nodup_len (l := l) (m := m.erase x) h2 fun y hy => (List.mem_erase_of_ne (fun e => h1 (by rw [← e]; exact hy))).mpr (s y (List.mem_cons_of_mem _ hy))
    rw [List.length_erase_of_mem hx] at ih
    have : 0 < m.length := List.length_pos_of_mem hx
    rw [List.length_cons]
    omega
theorem nodup_perm {α : Type} [DecidableEq α] {l m : List α} (h : l.Nodup) (k : m.Nodup) (s : ∀ x, x ∈ l ↔ x ∈ m) : l.Perm m := by
  rw [List.perm_iff_count]
  intro a
  rw [h.count, k.count]
  simp only [s a]
/-! ### tables by names -/
/-- the names that may stand in tables -/
structure Uni (N : List Str) : Prop where
  len : N.length ≤ 60
  ok : ∀ z ∈ N, NameOk z
structure KOk (N : List Str) (kvs : List (Key × V)) : Prop where
  nd : (kvs.map (·.1)).Nodup
  mem : ∀ kv ∈ kvs, ∃ z ∈ N, kv.1 = .inr z
theorem KOk.nil {N : List Str} : KOk N [] := ⟨.nil, fun _ h => nomatch h⟩
theorem KOk.len {N : List Str} {kvs : List (Key × V)} (h : KOk N kvs) : kvs.length ≤ N.length := by
  have e := nodup_len (m := N.map (Sum.inr : Str → Key)) h.nd fun k hk => by
    obtain ⟨kv, m, rfl⟩ := List.mem_map.mp hk
    obtain ⟨z, hz, e⟩ := h.mem kv m
    rw [e]
    exact List.mem_map.mpr ⟨z, hz, rfl⟩
  rw [List.length_map, List.length_map] at e
  exact e
theorem valV_mem {kvs : List (Key × V)} {k : Key} {v : V} (h : valV kvs k = some v) : (k, v) ∈ kvs := by
  unfold valV at h
  obtain ⟨p, h1, rfl⟩ := Option.map_eq_some_iff.mp h
  have e : decide (p.1 = k) = true := List.find?_some (p := fun kv : Key × V => decide (kv.1 = k)) h1
  have e := of_decide_eq_true e
  have m := List.mem_of_find?_eq_some h1
  obtain ⟨a, b⟩ := p
  cases e
  exact m
theorem valV_none {kvs : List (Key × V)} {k : Key} : valV kvs k = none ↔ k ∉ kvs.map (·.1) := by
  unfold valV
  rw [Option.map_eq_none_iff, List.find?_eq_none]
  constructor
  · intro h m
    obtain ⟨p, hp, e⟩ := List.mem_map.mp m
    exact h p hp (decide_eq_true e)
  · intro h p hp e
    exact h (List.mem_map.mpr ⟨p, hp, of_decide_eq_true e⟩)
theorem valV_of : ∀ {kvs : List (Key × V)} {k : Key} {v : V}, (kvs.map (·.1)).Nodup → (k, v) ∈ kvs → valV kvs k = some v
  | p :: r, k, v, h, m => by
    rw [List.map_cons] at h
    obtain ⟨h1, h2⟩ := List.nodup_cons.mp h
    rcases List.mem_cons.mp m with e | m
    · subst e
      exact valV_pos rfl
    · rw [valV_neg fun e => h1 (by rw [e]; exact List.mem_map.mpr ⟨_, m, rfl⟩)]
      exact valV_of h2 m
theorem KOk.put {N : List Str} {kvs : List (Key × V)} {z : Str} (h : KOk N kvs) (hz : z ∈ N) (v : V) : KOk N (putK kvs (.inr z) v) := by
  cases e : valV kvs (.inr z) with
  | none =>
    rw [putK_new v e]
    refine ⟨?_, fun kv m => ?_⟩
    · rw [List.map_append, List.nodup_append]
      refine ⟨h.nd, by simp, fun a ha b hb => ?_⟩
      have eb : b = .inr z := by simpa using hb
      rintro rfl
      rw [eb] at ha
      exact valV_none.mp e ha
    · rcases List.mem_append.mp m with m | m
      · exact h.mem kv m
      · cases List.mem_singleton.mp m
        exact ⟨z, hz, rfl⟩
  | some u =>
    have a : (kvs.any fun kv => decide (kv.1 = .inr z)) = true := by rw [valV_any, e]; rfl
    unfold putK
    rw [if_pos a]
    have hk : (kvs.map fun kv => if kv.1 = .inr z then (kv.1, v) else kv).map (·.1) = kvs.map (·.1) := by
      rw [List.map_map]
      refine List.map_congr_left fun kv _ => ?_
      show (if kv.1 = .inr z then (kv.1, v) else kv).1 = kv.1
      split <;> rfl
    refine ⟨by rw [hk]; exact h.nd, fun kv m => ?_⟩
    obtain ⟨kv', m', rfl⟩ := List.mem_map.mp m
    obtain ⟨y, hy, e'⟩ := h.mem kv' m'
    refine ⟨y, hy, ?_⟩
    split
    · exact e'
    · exact e'
theorem KOk.at_ {N : List Str} {kvs : List (Key × V)} {k : Key} {v : V} {i : Nat} (h : KOk N kvs) (e : kvs[i]? = some (k, v)) : ∃ z ∈ N, k = .inr z ∧ valV kvs (.inr z) = some v := by
  have m := List.mem_of_getElem? e
  obtain ⟨z, hz, ez⟩ := h.mem _ m
  have ez : k = .inr z := ez
  subst ez
  exact ⟨z, hz, rfl, valV_of h.nd m⟩
/-- what stands at the names -/
structure Tab (N : List Str) (R : Str → V → Prop) (Z : Str → Prop) (kvs : List (Key × V)) : Prop where
  k : KOk N kvs
  r : ∀ z v, valV kvs (.inr z) = some v → R z v
  z : ∀ z, valV kvs (.inr z) = none → Z z
theorem Tab.mono {N : List Str} {R R' : Str → V → Prop} {Z Z' : Str → Prop} {kvs : List (Key × V)} (h : Tab N R Z kvs) (a : ∀ z v, R z v → R' z v) (b : ∀ z, Z z → Z' z) : Tab N R' Z' kvs := ⟨h.k, fun z v e => a z v (h.r z v e), fun z e => b z (h.z z e)⟩
theorem Tab.off {N : List Str} {R : Str → V → Prop} {Z : Str → Prop} {kvs : List (Key × V)} (h : Tab N R Z kvs) {z : Str} (n : z ∉ N) : Z z := h.z z (by
  rw [valV_none]
  intro m
  obtain ⟨kv, m, e⟩ := List.mem_map.mp m
  obtain ⟨y, hy, e'⟩ := h.k.mem kv m
  rw [e] at e'
  cases e'
  exact n hy)
/-- the first i names of kvs are done: the new table holds what R says, or nothing where Z holds; the others are not in it -/
structure Part (N : List Str) (R : Str → V → Prop) (Z : Str → Prop) (kvs : List (Key × V)) (i : Nat) (new : List (Key × V)) : Prop where
  k : KOk N new
  r : ∀ z v, valV new (.inr z) = some v → R z v ∧ (.inr z : Key) ∈ (kvs.take i).map (·.1)
  z : ∀ z, valV new (.inr z) = none → (.inr z : Key) ∈ (kvs.take i).map (·.1) → Z z
theorem Part.start {N : List Str} {R : Str → V → Prop} {Z : Str → Prop} {kvs : List (Key × V)} : Part N R Z kvs 0 [] := ⟨.nil, fun z v e => (by rw [valV_nil] at e; cases e), fun z _ m => (by simp at m)⟩
theorem take_mem {kvs : List (Key × V)} {k y : Key} {v : V} {i : Nat} (e : kvs[i]? = some (k, v)) : y ∈ (kvs.take (i + 1)).map (·.1) ↔ y ∈ (kvs.take i).map (·.1) ∨ y = k := by
  rw [List.take_add_one, e, List.map_append, List.mem_append]
  simp
theorem Part.mono {N : List Str} {R R' : Str → V → Prop} {Z Z' : Str → Prop} {kvs new : List (Key × V)} {i : Nat} (h : Part N R Z kvs i new) (a : ∀ z v, R z v → R' z v) (b : ∀ z, Z z → Z' z) : Part N R' Z' kvs i new :=
  ⟨h.k, fun z v e => ⟨a z v (h.r z v e).1, (h.r z v e).2⟩, fun z e m => b z (h.z z e m)⟩
theorem Part.put {N : List Str} {R : Str → V → Prop} {Z : Str → Prop} {kvs new : List (Key × V)} {i : Nat} {z : Str} {v u : V} (h : Part N R Z kvs i new) (e : kvs[i]? = some (.inr z, u)) (hz : z ∈ N) (r : R z v) : Part N R Z kvs (i + 1) (putK new (.inr z) v) := by
  refine ⟨h.k.put hz v, fun y w q => ?_, fun y q m => ?_⟩
  · rw [valV_put] at q
    rw [take_mem e]
    by_cases c : (Sum.inr y : Key) = Sum.inr z
    · rw [if_pos c] at q
      cases q
      cases c
      exact ⟨r, .inr rfl⟩
    · rw [if_neg c] at q
      obtain ⟨a, b⟩ := h.r y w q
      exact ⟨a, .inl b⟩
  · rw [valV_put] at q
    by_cases c : (Sum.inr y : Key) = Sum.inr z
    · rw [if_pos c] at q
      cases q
    · rw [if_neg c] at q
      rcases (take_mem e).mp m with m | m
      · exact h.z y q m
      · exact absurd m c
theorem Part.skip {N : List Str} {R : Str → V → Prop} {Z : Str → Prop} {kvs new : List (Key × V)} {i : Nat} {z : Str} {u : V} (h : Part N R Z kvs i new) (e : kvs[i]? = some (.inr z, u)) (n : Z z) : Part N R Z kvs (i + 1) new := by
  refine ⟨h.k, fun y w q => ?_, fun y q m => ?_⟩
  · obtain ⟨a, b⟩ := h.r y w q
    exact ⟨a, (take_mem e).mpr (.inl b)⟩
  · rcases (take_mem e).mp m with m | m
    · exact h.z y q m
    · cases m
      exact n
theorem Part.done {N : List Str} {R : Str → V → Prop} {Z : Str → Prop} {kvs new : List (Key × V)} (h : Part N R Z kvs kvs.length new) (o : ∀ z, valV kvs (.inr z) = none → Z z) : Tab N R Z new := by
  refine ⟨h.k, fun z v e => (h.r z v e).1, fun z e => ?_⟩
  cases q : valV kvs (.inr z) with
  | none => exact o z q
  | some u =>
    refine h.z z e ?_
    rw [List.take_length]
    exact List.mem_map.mpr ⟨_, valV_mem q, rfl⟩
/-! ### locks -/
theorem same_lock {H H2 : Hp} {d : Addr} {od : Obj} {u : HO} (h : H d = some u) (s : Same (upd H d (.frz od u)) H2) : Same H (upd H2 d u) := fun a o e => by
  by_cases c : a = d
  · subst c
    rw [h] at e
    cases e
    exact upd_same
  · rw [upd_ne c]
    exact s a o (by rw [upd_ne c]; exact e)
/-- over what is locked already, or with a lock of its own -/
structure LkW (p q : Prop) : Prop where
  h : p ∨ q
def tLk (t : TS) : TS := fun D σ H => LkW (tLock t D σ H) (t D σ H)
def tLkE (t : TE) : TE := fun σ H Q => LkW (tLockE t σ H Q) (t σ H Q)
theorem ps_lk {X : Cx} {st : Stmt} {t : TS} (h : PS X st t) : PS X st (tLk t) := ⟨fun pins s σ H D I q => q.h.elim (fun q => (ps_lock h).run pins s σ H D I q) fun q => h.run pins s σ H D I q⟩
theorem pe_lk {X : Cx} {e : Expr} {t : TE} (h : PE X e t) : PE X e (tLkE t) := ⟨fun pins s σ H Q I q => q.h.elim (fun q => (pe_lock h).run pins s σ H Q I q) fun q => h.run pins s σ H Q I q⟩
/-- a dict comprehension over what Walk tells of -/
theorem dc_it {J : It} {n : Nat} {G : Hp → Prop} {Y : Nat → Hp → V → Hp → Prop} (w : Walk J n G Y) {g : TG} {tt : TT} {tk tv : TE} {vs : List Nat} {σ : L2.St} {H1 : Hp} {D : Addr} {Qd : Hp → Prop} (Pv : Nat → Hp → Prop) (h0 : Pv 0 (upd H1 D (.dK []))) (hG : ∀ i H, i ≤ n → Pv i H → G H)
    (hs : ∀ i x H H', i < n → Pv i H → Y i H x H' → g x (wipe σ vs) H' fun σ2 H2 => wipe σ2 vs = wipe σ vs ∧ tt σ2 H2 fun b H3 =>
      if b = true then tk σ2 H3 fun y H4 => tv σ2 H4 fun z H5 => ∃ kvs k, y = kV k ∧ H5 D = some (.dK kvs) ∧ kvs.length < sizeLine ∧ Pv (i + 1) (upd H5 D (.dK (putK kvs k z))) else Pv (i + 1) H3) (hd : ∀ H, Pv n H → Qd H) :
    ∃ W : Nat → Nat → Hp → Prop, (∃ m, W 0 m (upd H1 D (.dK []))) ∧ ∀ i m H, W i m H →
      (J.stop i H ∧ Qd H) ∨ (J.go i H ∧ ∃ Nx : Hp → Prop, (∀ H', Nx H' → ∃ m', m' < m ∧ W (i + 1) m' H') ∧ ∀ x H', J.yld i H x H' → g x (wipe σ vs) H' fun σ2 H2 => wipe σ2 vs = wipe σ vs ∧ tt σ2 H2 fun b H3 =>
        if b = true then tk σ2 H3 fun y H4 => tv σ2 H4 fun z H5 => ∃ kvs k, y = kV k ∧ H5 D = some (.dK kvs) ∧ kvs.length < sizeLine ∧ Nx (upd H5 D (.dK (putK kvs k z))) else Nx H3) := by
  refine ⟨fun i m H => m = n - i ∧ i ≤ n ∧ Pv i H, ⟨n, by simp, Nat.zero_le _, h0⟩, ?_⟩
  rintro i m H ⟨rfl, hi, p⟩
  have q := hG i H hi p
  by_cases hlt : i < n
  · refine .inr ⟨w.goes i H hlt q, Pv (i + 1), fun H' p' => ⟨n - (i + 1), by omega, rfl, hlt, p'⟩, fun x H' y => hs i x H H' hlt p (w.yields i H x H' hlt q y)⟩
  · have e : i = n := by omega
    subst e
    exact .inl ⟨w.stops H q, hd H p⟩
/-- the same over the keys of a locked dict with names -/
theorem dc_names {d : Addr} {od : Obj} {N : List Str} {kvs : List (Key × V)} (hk : KOk N kvs) {g : TG} {tt : TT} {tk tv : TE} {vs : List Nat} {σ : L2.St} {H1 : Hp} {D : Addr} {Qd : Hp → Prop} (Pv : Nat → Hp → Prop) (h0 : Pv 0 (upd H1 D (.dK [])))
    (hG : ∀ i H, i ≤ kvs.length → Pv i H → H d = some (.frz od (.dK kvs)))
    (hs : ∀ i z v H, kvs[i]? = some (.inr z, v) → z ∈ N → valV kvs (.inr z) = some v → Pv i H → g (.str z) (wipe σ vs) H fun σ2 H2 => wipe σ2 vs = wipe σ vs ∧ tt σ2 H2 fun b H3 =>
      if b = true then tk σ2 H3 fun y H4 => tv σ2 H4 fun z H5 => ∃ kvs k, y = kV k ∧ H5 D = some (.dK kvs) ∧ kvs.length < sizeLine ∧ Pv (i + 1) (upd H5 D (.dK (putK kvs k z))) else Pv (i + 1) H3) (hd : ∀ H, Pv kvs.length H → Qd H) :
    ∃ W : Nat → Nat → Hp → Prop, (∃ m, W 0 m (upd H1 D (.dK []))) ∧ ∀ i m H, W i m H →
      ((Itk d od kvs).stop i H ∧ Qd H) ∨ ((Itk d od kvs).go i H ∧ ∃ Nx : Hp → Prop, (∀ H', Nx H' → ∃ m', m' < m ∧ W (i + 1) m' H') ∧ ∀ x H', (Itk d od kvs).yld i H x H' → g x (wipe σ vs) H' fun σ2 H2 => wipe σ2 vs = wipe σ vs ∧ tt σ2 H2 fun b H3 =>
        if b = true then tk σ2 H3 fun y H4 => tv σ2 H4 fun z H5 => ∃ kvs k, y = kV k ∧ H5 D = some (.dK kvs) ∧ kvs.length < sizeLine ∧ Nx (upd H5 D (.dK (putK kvs k z))) else Nx H3) :=
  dc_it walk_keys Pv h0 hG (fun i x H H' hi p y => by
    obtain ⟨e, k, v, hkv, ex⟩ := y
    obtain ⟨z, hz, ek, hv⟩ := hk.at_ hkv
    subst e; subst ex; subst ek
    exact hs i z v _ hkv hz hv p) hd
/-- a list comprehension over the keys of a locked dict with names -/
theorem lc_names {d : Addr} {od : Obj} {N : List Str} {kvs : List (Key × V)} (hk : KOk N kvs) {g : TG} {tt : TT} {te : TE} {vs : List Nat} {σ : L2.St} {H1 : Hp} {D : Addr} {Qd : Hp → Prop} (Pv : Nat → Hp → Prop) (h0 : Pv 0 (upd H1 D (.lst [])))
    (hG : ∀ i H, i ≤ kvs.length → Pv i H → H d = some (.frz od (.dK kvs)))
    (hs : ∀ i z v H, kvs[i]? = some (.inr z, v) → z ∈ N → valV kvs (.inr z) = some v → Pv i H → g (.str z) (wipe σ vs) H fun σ2 H2 => wipe σ2 vs = wipe σ vs ∧ tt σ2 H2 fun b H3 =>
      if b = true then te σ2 H3 fun y H4 => ∃ acc, H4 D = some (.lst acc) ∧ acc.length < sizeLine ∧ Pv (i + 1) (upd H4 D (.lst (acc ++ [y]))) else Pv (i + 1) H3) (hd : ∀ H, Pv kvs.length H → Qd H) :
    ∃ W : Nat → Nat → Hp → Prop, (∃ m, W 0 m (upd H1 D (.lst []))) ∧ ∀ i m H, W i m H →
      ((Itk d od kvs).stop i H ∧ Qd H) ∨ ((Itk d od kvs).go i H ∧ ∃ Nx : Hp → Prop, (∀ H', Nx H' → ∃ m', m' < m ∧ W (i + 1) m' H') ∧ ∀ x H', (Itk d od kvs).yld i H x H' → g x (wipe σ vs) H' fun σ2 H2 => wipe σ2 vs = wipe σ vs ∧ tt σ2 H2 fun b H3 =>
        if b = true then te σ2 H3 fun y H4 => ∃ acc, H4 D = some (.lst acc) ∧ acc.length < sizeLine ∧ Nx (upd H4 D (.lst (acc ++ [y]))) else Nx H3) :=
  lc_it walk_keys Pv h0 hG (fun i x H H' hi p y => by
    obtain ⟨e, k, v, hkv, ex⟩ := y
    obtain ⟨z, hz, ek, hv⟩ := hk.at_ hkv
    subst e; subst ex; subst ek
    exact hs i z v _ hkv hz hv p) hd
/-- a for over the keys of a locked dict with names -/
theorem for_names {d : Addr} {od : Obj} {N : List Str} {kvs : List (Key × V)} (hk : KOk N kvs) {g : TG} {tb : TS} {D : Ends} {σ : L2.St} {H : Hp} (Pv : Nat → L2.St → Hp → Prop) (h0 : Pv 0 σ H) (hG : ∀ i σ H, i ≤ kvs.length → Pv i σ H → H d = some (.frz od (.dK kvs)))
    (hs : ∀ i z v σ H, kvs[i]? = some (.inr z, v) → z ∈ N → valV kvs (.inr z) = some v → Pv i σ H → g (.str z) σ H fun σ2 H2 => tb { D with nx := Pv (i + 1), ct := Pv (i + 1), bk := D.nx } σ2 H2) (hd : ∀ σ H, Pv kvs.length σ H → D.nx σ H) :
    ∃ W : Nat → Nat → L2.St → Hp → Prop, (∃ m, W 0 m σ H) ∧ ∀ i m σ H, W i m σ H →
      ((Itk d od kvs).stop i H ∧ D.nx σ H) ∨ ((Itk d od kvs).go i H ∧ ∃ N : L2.St → Hp → Prop, (∀ σ' H', N σ' H' → ∃ m', m' < m ∧ W (i + 1) m' σ' H') ∧ ∀ x H', (Itk d od kvs).yld i H x H' → g x σ H' fun σ2 H2 => tb { D with nx := N, ct := N, bk := D.nx } σ2 H2) :=
  for_it walk_keys Pv h0 hG (fun i x σ H H' hi p y => by
    obtain ⟨e, k, v, hkv, ex⟩ := y
    obtain ⟨z, hz, ek, hv⟩ := hk.at_ hkv
    subst e; subst ex; subst ek
    exact hs i z v σ _ hkv hz hv p) hd
/-! ### forms -/
abbrev Fm := Str → Int × Int
def RedF (f : Fm) : Prop := ∀ z, Red (f z).1 (f z).2
def SzF (n : Nat) (f : Fm) : Prop := ∀ z, Sz n (f z).1 ∧ Sz n (f z).2
theorem SzF.mono {n m : Nat} {f : Fm} (h : SzF n f) (l : n ≤ m := by decide) : SzF m f := fun z => ⟨(h z).1.mono l, (h z).2.mono l⟩
def ShR (ca : Nat → Addr) (f : Fm) (H : Hp) : Str → V → Prop := fun z v => ∃ q, v = .ref q ∧ RatAt ca H q (f z).1 (f z).2 ∧ (f z).1 ≠ 0
def ShZ (f : Fm) : Str → Prop := fun z => f z = (0, 1)
/-- the dict of a form's shares -/
def FormSh (ca : Nat → Addr) (H : Hp) (d : Addr) (N : List Str) (f : Fm) : Prop := ∃ kvs, H d = some (.dK kvs) ∧ Tab N (ShR ca f H) (ShZ f) kvs
def FormAt (ca : Nat → Addr) (H : Hp) (p : Addr) (N : List Str) (f : Fm) : Prop := ∃ dx d, H p = some (.ins (ca 3) dx [("_shares", .ref d)]) ∧ FormSh ca H d N f
theorem ShR.same {ca : Nat → Addr} {f : Fm} {H H' : Hp} (s : Same H H') {z : Str} {v : V} (h : ShR ca f H z v) : ShR ca f H' z v := by
  obtain ⟨q, e, r, n⟩ := h
  exact ⟨q, e, r.same s, n⟩
theorem RatAt.keep {ca : Nat → Addr} {H H' : Hp} {p c : Addr} {a b : Int} {u : HO} (h : RatAt ca H p a b) (e : H c = some u) (n : ∀ C dx fs, u ≠ .ins C dx fs) (k : Keep c H H') : RatAt ca H' p a b :=
  ⟨h.1, let ⟨dx, q⟩ := h.2; ⟨dx, k _ _ q (ne_of q e fun z => n _ _ _ z.symm)⟩⟩
theorem ShR.keep {ca : Nat → Addr} {f : Fm} {H H' : Hp} {c : Addr} {u : HO} (e : H c = some u) (n : ∀ C dx fs, u ≠ .ins C dx fs) (k : Keep c H H') {z : Str} {v : V} (h : ShR ca f H z v) : ShR ca f H' z v := by
  obtain ⟨q, e1, r, m⟩ := h
  exact ⟨q, e1, r.keep e n k, m⟩
theorem FormSh.same {ca : Nat → Addr} {H H' : Hp} {d : Addr} {N : List Str} {f : Fm} (h : FormSh ca H d N f) (s : Same H H') : FormSh ca H' d N f := by
  obtain ⟨kvs, e, t⟩ := h
  exact ⟨kvs, s _ _ e, t.mono (fun _ _ => ShR.same s) fun _ z => z⟩
theorem FormAt.same {ca : Nat → Addr} {H H' : Hp} {p : Addr} {N : List Str} {f : Fm} (h : FormAt ca H p N f) (s : Same H H') : FormAt ca H' p N f := by
  obtain ⟨dx, d, e, t⟩ := h
  exact ⟨dx, d, s _ _ e, t.same s⟩
theorem FormAt.put {ca : Nat → Addr} {H H' : Hp} {p c : Addr} {N : List Str} {f : Fm} {xs : List V} (h : FormAt ca H p N f) (e : H c = some (.lst xs)) (k : Keep c H H') : FormAt ca H' p N f := by
  obtain ⟨dx, d, e1, kvs, e2, t⟩ := h
  exact ⟨dx, d, k _ _ e1 (ne_of e1 e fun z => nomatch z), kvs, k _ _ e2 (ne_of e2 e fun z => nomatch z), t.mono (fun _ _ => ShR.keep e (fun _ _ _ z => nomatch z) k) fun _ z => z⟩
theorem red01 : Red 0 1 := ⟨by decide, by decide⟩
theorem FormSh.red {ca : Nat → Addr} {H : Hp} {d : Addr} {N : List Str} {f : Fm} (h : FormSh ca H d N f) : RedF f := fun z => by
  obtain ⟨kvs, _, t⟩ := h
  cases e : valV kvs (.inr z) with
  | none =>
    rw [show f z = (0, 1) from t.z z e]
    exact red01
  | some v =>
    obtain ⟨q, _, r, _⟩ := t.r z v e
    exact r.1
theorem FormAt.red {ca : Nat → Addr} {H : Hp} {p : Addr} {N : List Str} {f : Fm} (h : FormAt ca H p N f) : RedF f := by
  obtain ⟨_, _, _, t⟩ := h
  exact t.red
theorem FormAt.off {ca : Nat → Addr} {H : Hp} {p : Addr} {N : List Str} {f : Fm} (h : FormAt ca H p N f) {z : Str} (n : z ∉ N) : f z = (0, 1) := by
  obtain ⟨_, _, _, kvs, _, t⟩ := h
  exact t.off n
theorem RatAt.q {ca : Nat → Addr} {H : Hp} {p : Addr} {a b : Int} (h : RatAt ca H p a b) : RatQ ca H p a b := ⟨by have := h.1.pos; omega, by rw [nrm_id h.1]; exact h⟩
/-- sums, and products with c / d -/
def addP (x y : Int × Int) : Int × Int := nrm (x.1 * y.2 + y.1 * x.2) (x.2 * y.2)
def mulP (x y : Int × Int) : Int × Int := nrm (x.1 * y.1) (x.2 * y.2)
/-- numbers handed to a form -/
def NumR (ca : Nat → Addr) (f : Fm) (H : Hp) : Str → V → Prop := fun z v => NumV ca H v (f z).1 (f z).2
theorem NumR.same {ca : Nat → Addr} {f : Fm} {H H' : Hp} (s : Same H H') {z : Str} {v : V} (h : NumR ca f H z v) : NumR ca f H' z v := NumV.same h s
theorem dget {H : Hp} {d : Addr} {kvs : List (Key × V)} {z : Str} {v : V} (e : Rd H d (.dK kvs)) (h : valV kvs (.inr z) = some v) : DGet H d (.str z) (some v) := .inl ⟨kvs, .inr z, e, rfl, h.symm⟩
/-- what a form's dict is, while it is built over the keys of kvs -/
def Build (ca : Nat → Addr) (N : List Str) (f : Fm) (Z : Str → Prop) (R : Str → V → Hp → Prop) (H0 : Hp) (D : Addr) (kvs : List (Key × V)) (i : Nat) (H : Hp) : Prop :=
  Same H0 H ∧ ∃ new, H D = some (.dK new) ∧ Part N (fun z v => R z v H) Z kvs i new
theorem NumV.keep {ca : Nat → Addr} {H H' : Hp} {x : V} {c : Addr} {a b : Int} {u : HO} (h : NumV ca H x a b) (e : H c = some u) (n : ∀ C dx fs, u ≠ .ins C dx fs) (k : Keep c H H') : NumV ca H' x a b := h.imp id fun ⟨p, q, r⟩ => ⟨p, q, r.keep e n k⟩
theorem nd {kvs : List (Key × V)} : ∀ C dx fs, HO.dK kvs ≠ .ins C dx fs := fun _ _ _ z => nomatch z
theorem nf {o : Obj} {u : HO} : ∀ C dx fs, HO.frz o u ≠ .ins C dx fs := fun _ _ _ z => nomatch z
theorem KOk.line {N : List Str} {kvs : List (Key × V)} (h : KOk N kvs) (u : Uni N) : kvs.length < sizeLine := by
  have := h.len
  have := u.len
  rw [sizeLine_eq]
  omega
theorem Red.zero {t b : Int} (h : Red t b) (e : t = 0) : b = 1 := by
  subst e
  have c := h.cop
  have p := h.pos
  simp only [Int.natAbs_zero, Nat.gcd_zero_left] at c
  omega
theorem RatAt.keepN {ca : Nat → Addr} {H H' : Hp} {p c C dx : Addr} {a b : Int} (h : RatAt ca H p a b) (e : H c = some (.ins C dx [])) (k : Keep c H H') : RatAt ca H' p a b :=
  ⟨h.1, let ⟨dy, q⟩ := h.2; ⟨dy, k _ _ q (ne_of q e fun z => by injection z with _ _ h; cases h)⟩⟩
theorem ShR.keepN {ca : Nat → Addr} {f : Fm} {H H' : Hp} {c C dx : Addr} (e : H c = some (.ins C dx [])) (k : Keep c H H') {z : Str} {v : V} (h : ShR ca f H z v) : ShR ca f H' z v := by
  obtain ⟨q, e1, r, m⟩ := h
  exact ⟨q, e1, r.keepN e k, m⟩
theorem KOk.names {N : List Str} {kvs : List (Key × V)} (h : KOk N kvs) : ∃ ks : List Str, kvs.map (·.1) = ks.map Sum.inr ∧ ks.Nodup ∧ (∀ z, z ∈ ks ↔ ∃ v, valV kvs (.inr z) = some v) ∧ ks.length = kvs.length := by
  have all : ∀ l : List (Key × V), (∀ kv ∈ l, ∃ z ∈ N, kv.1 = .inr z) → ∃ ks : List Str, l.map (·.1) = ks.map Sum.inr := by
    intro l
    induction l with
    | nil => exact fun _ => ⟨[], rfl⟩
    | cons a l ih =>
      intro hm
      obtain ⟨z, _, e⟩ := hm a List.mem_cons_self
      obtain ⟨ks, e2⟩ := ih fun kv m => hm kv (List.mem_cons_of_mem _ m)
      exact ⟨z :: ks, by rw [List.map_cons, List.map_cons, e, e2]⟩
  obtain ⟨ks, e⟩ := all kvs h.mem
  have n := h.nd
  rw [e] at n
  refine ⟨ks, e, ?_, fun z => ?_, by have := congrArg List.length e; rw [List.length_map, List.length_map] at this; exact this.symm⟩
  · exact List.Pairwise.of_map Sum.inr (fun a b hab e => hab (by rw [e])) n
  · have m : z ∈ ks ↔ (Sum.inr z : Key) ∈ kvs.map (·.1) := by
      rw [e, List.mem_map]
      exact ⟨fun m => ⟨z, m, rfl⟩, fun ⟨y, m, q⟩ => by cases q; exact m⟩
    rw [m]
    cases q : valV kvs (.inr z) with
    | none => exact ⟨fun m => absurd m (valV_none.mp q), fun ⟨v, r⟩ => nomatch r⟩
    | some v => exact ⟨fun _ => ⟨v, rfl⟩, fun _ => List.mem_map.mpr ⟨_, valV_mem q, rfl⟩⟩
theorem Tab.put {N : List Str} {R : Str → V → Prop} {Z : Str → Prop} {kvs : List (Key × V)} {z : Str} {v : V} (h : Tab N R Z kvs) (hz : z ∈ N) (r : R z v) : Tab N R Z (putK kvs (.inr z) v) := by
  refine ⟨h.k.put hz v, fun y w q => ?_, fun y q => ?_⟩
  · rw [valV_put] at q
    by_cases c : (Sum.inr y : Key) = Sum.inr z
    · rw [if_pos c] at q
      cases q
      cases c
      exact r
    · rw [if_neg c] at q
      exact h.r y w q
  · rw [valV_put] at q
    by_cases c : (Sum.inr y : Key) = Sum.inr z
    · rw [if_pos c] at q
      cases q
    · rw [if_neg c] at q
      exact h.z y q
/-- .. where at z something else is told from then on -/
theorem Tab.set {N : List Str} {R R' : Str → V → Prop} {Z Z' : Str → Prop} {kvs : List (Key × V)} {z : Str} {v : V} (h : Tab N R Z kvs) (hz : z ∈ N) (r : R' z v) (a : ∀ y u, y ≠ z → R y u → R' y u) (b : ∀ y, y ≠ z → Z y → Z' y) : Tab N R' Z' (putK kvs (.inr z) v) := by
  refine ⟨h.k.put hz v, fun y w q => ?_, fun y q => ?_⟩
  · rw [valV_put] at q
    by_cases c : (Sum.inr y : Key) = Sum.inr z
    · rw [if_pos c] at q
      cases q
      cases c
      exact r
    · rw [if_neg c] at q
      exact a y w (fun e => c (by rw [e])) (h.r y w q)
  · rw [valV_put] at q
    by_cases c : (Sum.inr y : Key) = Sum.inr z
    · rw [if_pos c] at q
      cases q
    · rw [if_neg c] at q
      exact b y (fun e => c (by rw [e])) (h.z y q)
theorem Tab.nil {N : List Str} {R : Str → V → Prop} {Z : Str → Prop} (h : ∀ z, Z z) : Tab N R Z [] := ⟨.nil, fun z v e => (by rw [valV_nil] at e; cases e), fun z _ => h z⟩
theorem FormSh.mem {ca : Nat → Addr} {H : Hp} {N : List Str} {f : Fm} {kvs : List (Key × V)} (t : Tab N (ShR ca f H) (ShZ f) kvs) (z : Str) : (∃ v, valV kvs (.inr z) = some v) ↔ (f z).1 ≠ 0 := by
  cases q : valV kvs (.inr z) with
  | none => exact ⟨fun ⟨v, r⟩ => (nomatch r), fun n => absurd (by rw [show f z = (0, 1) from t.z z q]) n⟩
  | some v =>
    obtain ⟨_, _, _, n⟩ := t.r z v q
    exact ⟨fun _ => n, fun _ => ⟨v, rfl⟩⟩
/-- the form of one name -/
def oneF (z : Str) : Fm := fun y => if y = z then (1, 1) else (0, 1)
theorem addP_zero {x : Int × Int} (h : Red x.1 x.2) : addP x (0, 1) = x := by
  unfold addP
  rw [Int.mul_one, Int.zero_mul, Int.add_zero, Int.mul_one, nrm_id h]
theorem oneF_self {z : Str} : oneF z z = (1, 1) := if_pos rfl
theorem oneF_ne {z y : Str} (h : y ≠ z) : oneF z y = (0, 1) := if_neg h
theorem FormAt.ins {ca : Nat → Addr} {H : Hp} {p : Addr} {N : List Str} {f : Fm} (h : FormAt ca H p N f) : ∃ dx d, H p = some (.ins (ca 3) dx [("_shares", .ref d)]) := let ⟨dx, d, e, _⟩ := h; ⟨dx, d, e⟩
/-- a form and a form beside an operator of theirs -/
theorem fOwn2_of {ca : Nat → Addr} {H : Hp} {p q : Addr} {N N' : List Str} {f g : Fm} {sp : Sp} {E : XK} {Q : VK} (h : FormAt ca H p N f) (h2 : FormAt ca H q N' g) (k : sp [.ref p, .ref q] H Q E) : rOwn (ca 3) sp E (.ref p) (.ref q) H Q := by
  obtain ⟨dx, d, e⟩ := h.ins
  obtain ⟨dy, d2, e2⟩ := h2.ins
  exact ⟨p, dx, _, rfl, e, .inr ⟨q, dy, _, rfl, e2⟩, k⟩
/-- a form and an int -/
theorem fOwn_of {ca : Nat → Addr} {H : Hp} {p : Addr} {x : V} {N : List Str} {f : Fm} {sp : Sp} {E : XK} {Q : VK} (h : FormAt ca H p N f) (hx : ∃ i, x = .int i) (k : sp [.ref p, x] H Q E) : rOwn (ca 3) sp E (.ref p) x H Q := by
  obtain ⟨dx, d, e⟩ := h.ins
  exact ⟨p, dx, _, rfl, e, .inl hx, k⟩
theorem fRefl_of {ca : Nat → Addr} {H : Hp} {p : Addr} {i : Int} {N : List Str} {f : Fm} {sp : Sp} {E : XK} {Q : VK} (h : FormAt ca H p N f) (k : sp [.ref p, .int i] H Q E) : rRefl (ca 3) sp E (.int i) (.ref p) H Q := by
  obtain ⟨dx, d, e⟩ := h.ins
  exact ⟨i, p, dx, _, rfl, rfl, e, k⟩
theorem fUna_of {ca : Nat → Addr} {H : Hp} {p : Addr} {N : List Str} {f : Fm} {sp : Sp} {E : XK} {Q : VK} (h : FormAt ca H p N f) (k : sp [.ref p] H Q E) : rUna (ca 3) sp E (.ref p) H Q := by
  obtain ⟨dx, d, e⟩ := h.ins
  exact ⟨p, dx, _, rfl, e, k⟩
theorem nrm_0 {d : Int} (h : d ≠ 0) : nrm 0 d = (0, 1) := by
  rw [nrm_same h (show (1 : Int) ≠ 0 by decide) (show (0 : Int) * 1 = 0 * d by rw [Int.zero_mul, Int.zero_mul]), nrm_id red01]
theorem mulP_0 {c d : Int} (h : d ≠ 0) : mulP (0, 1) (c, d) = (0, 1) := by
  unfold mulP
  rw [Int.zero_mul, Int.one_mul, nrm_0 h]
theorem RatQ.keep {ca : Nat → Addr} {H H' : Hp} {p c : Addr} {a b : Int} {u : HO} (h : RatQ ca H p a b) (e : H c = some u) (n : ∀ C dx fs, u ≠ .ins C dx fs) (k : Keep c H H') : RatQ ca H' p a b := ⟨h.ne, h.at_.keep e n k⟩
theorem NumQ.keep {ca : Nat → Addr} {H H' : Hp} {x : V} {c : Addr} {a b : Int} {u : HO} (h : NumQ ca H x a b) (e : H c = some u) (n : ∀ C dx fs, u ≠ .ins C dx fs) (k : Keep c H H') : NumQ ca H' x a b := h.imp id fun ⟨p, q, r⟩ => ⟨p, q, r.keep e n k⟩
theorem NumQ.own {ca : Nat → Addr} {H : Hp} {x : V} {a b : Int} (h : NumQ ca H x a b) : (∃ i, x = .int i) ∨ (∃ b dy gs, x = .ref b ∧ H b = some (.ins (ca 3) dy gs)) ∨ ∃ b dy gs, x = .ref b ∧ H b = some (.ins (ca 2) dy gs) := by
  rcases h with ⟨e, _⟩ | ⟨p, e, r⟩
  · exact .inl ⟨_, e⟩
  · obtain ⟨dx, q⟩ := r.ins
    exact .inr (.inr ⟨p, dx, _, e, q⟩)
theorem fOwnN_of {ca : Nat → Addr} {H : Hp} {p : Addr} {x : V} {N : List Str} {f : Fm} {a b : Int} {sp : Sp} {E : XK} {Q : VK} (h : FormAt ca H p N f) (hx : NumQ ca H x a b) (k : sp [.ref p, x] H Q E) : rOwnN (ca 3) (ca 2) sp E (.ref p) x H Q := by
  obtain ⟨dx, d, e⟩ := h.ins
  exact ⟨p, dx, _, rfl, e, hx.own, k⟩
theorem mulP_neg {y : Int × Int} (h : Red y.1 y.2) : mulP y (-1, 1) = (-y.1, y.2) := by
  have n : y.2 ≠ 0 := by have := h.pos; omega
  unfold mulP
  show nrm (y.1 * -1) (y.2 * 1) = _
  rw [Int.mul_one, Int.mul_neg, Int.mul_one, nrm_neg n, nrm_id h]
theorem sub_0 {x y : Int × Int} (h : Red x.1 x.2) (k : Red y.1 y.2) : (addP x (mulP y (-1, 1))).1 = 0 ↔ x = y := by
  have n1 : x.2 ≠ 0 := by have := h.pos; omega
  have n2 : y.2 ≠ 0 := by have := k.pos; omega
  rw [mulP_neg k]
  unfold addP
  rw [nrm_zero (Int.mul_ne_zero n1 n2)]
  show x.1 * y.2 + -y.1 * x.2 = 0 ↔ x = y
  rw [Int.neg_mul]
  constructor
  · intro e
    obtain ⟨a, b⟩ := h.uniq k (show x.1 * y.2 = y.1 * x.2 by omega)
    exact Prod.ext a b
  · rintro rfl
    omega
/-! ### drawn words -/
theorem joinL_nil : ∀ ps : List (List Nat), TL.joinL [] ps = ps.flatten
  | [] => rfl
  | [p] => by simp [TL.joinL]
  | p :: q :: r => by
    show p ++ ([] ++ TL.joinL [] (q :: r)) = _
    rw [List.nil_append, joinL_nil (q :: r), List.flatten_cons (l := p)]
def Sign (z : Str) : Prop := ∃ c, (97 ≤ c ∧ c ≤ 122) ∧ z = ⟨#[c]⟩
theorem Sign.lets {z : Str} (h : Sign z) : Lets z := by
  obtain ⟨c, hc, rfl⟩ := h
  exact lets_one hc
theorem Sign.len {z : Str} (h : Sign z) : z.length = 1 := by
  obtain ⟨c, hc, rfl⟩ := h
  rfl
theorem tl_len {z : Str} : (tl z).length = z.length := by
  unfold tl Str.length
  rw [Array.length_toList]
theorem join_signs {zs : List Str} (h : ∀ z ∈ zs, Sign z) : Lets (Txt.join Str.empty zs) ∧ (Txt.join Str.empty zs).length = zs.length := by
  have e : tl (Txt.join Str.empty zs) = (zs.map tl).flatten := by
    rw [TL.join_eq, TL.tl_join]
    exact joinL_nil _
  constructor
  · intro c m
    rw [e] at m
    obtain ⟨l, hl, hc⟩ := List.mem_flatten.mp m
    obtain ⟨z, hz, rfl⟩ := List.mem_map.mp hl
    exact (h z hz).lets c hc
  · rw [← tl_len, e]
    clear e
    induction zs with
    | nil => rfl
    | cons z zs ih =>
      rw [List.map_cons, List.flatten_cons, List.length_append, ih fun y m => h y (List.mem_cons_of_mem _ m), tl_len, (h z List.mem_cons_self).len, List.length_cons]
      omega
theorem abc_all : (Str.ofString "abcdefghijklmnopqrstuvwxyz").length = 26 ∧ ∀ d : Fin 26, (Str.ofString "abcdefghijklmnopqrstuvwxyz").cps[d.val]? = some (97 + d.val) := by decide +kernel
/-- one of the letters -/
theorem abc_at {d : Int} (h0 : 0 ≤ d) (h1 : d < 26) : (Str.ofString "abcdefghijklmnopqrstuvwxyz").cps[d.toNat]? = some (97 + d.toNat) := abc_all.2 ⟨d.toNat, by omega⟩
theorem sign_abc {d : Int} (h1 : d < 26) : Sign ⟨#[97 + d.toNat]⟩ := ⟨_, by omega, rfl⟩
theorem rIxS_abc {d : Int} {H : Hp} {Q : VK} (h0 : 0 ≤ d) (h1 : d < 26) (k : Q (.str ⟨#[97 + d.toNat]⟩) H) : rIxS (.str (Str.ofString "abcdefghijklmnopqrstuvwxyz")) (.int d) H Q := by
  obtain ⟨n, rfl⟩ := Int.eq_ofNat_of_zero_le h0
  have e : (Str.ofString "abcdefghijklmnopqrstuvwxyz").cps.toList[n]? = some (97 + n) := by
    rw [Array.getElem?_toList]
    exact abc_at h0 h1
  exact ⟨_, _, _, rfl, rfl, line_le (by rw [abc_all.1]; decide), atI_nat e, k⟩
theorem keep_new {b D : Addr} {H H' : Hp} {o : HO} (k : Keep b H H') (n : H D = none) : Keep b H (upd H' D o) := fun a u e m => by
  rw [upd_ne (ne_of_none e n)]
  exact k a u e m
theorem size_line {n : Nat} (h : n < 10000) : n < sizeLine := Nat.lt_of_lt_of_le h (line_le (by decide))
theorem size_le {n : Nat} (h : n < 10000) : n ≤ sizeLine := Nat.le_of_lt (size_line h)
theorem strs_snoc {acc : List Str} {z : Str} : acc.map V.str ++ [V.str z] = (acc ++ [z]).map V.str := by simp
theorem keep_free {b p : Addr} {H H' : Hp} (k : Keep b H H') (n : H' p = none) (m : p ≠ b) : H p = none := by
  cases e : H p with
  | none => rfl
  | some o =>
    rw [k p o e m] at n
    cases n
theorem keep_put {b p : Addr} {H H1 H2 : Hp} (k : Keep b H H1) (k2 : Keep p H1 H2) (n : H p = none) : Keep b H H2 := fun a o e m => k2 a o (k a o e m) (ne_of_none e n)
/-- a text once or not at all -/
theorem op_mulS1 {X : Cx} : OpR X (binaryOp .Mult) (fun x y H Q => ∃ z n, x = .str z ∧ y = .int n ∧ (n = 0 ∨ n = 1) ∧ ∀ w, (w = Str.empty ∨ w = z) → Q (.str w) H) := by
  intro pins s σ H x y v u Q I rx ry h
  obtain ⟨z, n, rfl, rfl, hn, q⟩ := h
  obtain ⟨m1, m2⟩ := mul_01 (z := z) hn
  exact op_mulS pins s σ H _ _ v u Q I rx ry ⟨z, n, rfl, rfl, m1, q _ m2⟩
/-! ### the law's tables -/
def TupF (f : Fm) (H : Hp) : Str → V → Prop := fun z v => ∃ t, v = .ref t ∧ H t = some (.tup [.int (f z).1, .int (f z).2])
/-- a dict with a pair for each name -/
def TabAt (H : Hp) (d : Addr) (N : List Str) (f : Fm) : Prop := ∃ kvs, H d = some (.dK kvs) ∧ Tab N (TupF f H) (ShZ f) kvs
theorem TupF.same {f : Fm} {H H' : Hp} (s : Same H H') {z : Str} {v : V} (h : TupF f H z v) : TupF f H' z v := let ⟨t, e, q⟩ := h; ⟨t, e, s _ _ q⟩
theorem TupF.keep {f : Fm} {H H' : Hp} {c : Addr} {u : HO} (e : H c = some u) (n : ∀ xs, u ≠ .tup xs) (k : Keep c H H') {z : Str} {v : V} (h : TupF f H z v) : TupF f H' z v := let ⟨t, e1, q⟩ := h; ⟨t, e1, k _ _ q (ne_of q e fun z => n _ z.symm)⟩
theorem TabAt.same {H H' : Hp} {d : Addr} {N : List Str} {f : Fm} (h : TabAt H d N f) (s : Same H H') : TabAt H' d N f := let ⟨kvs, e, t⟩ := h; ⟨kvs, s _ _ e, t.mono (fun _ _ => TupF.same s) fun _ z => z⟩
theorem TabAt.put {H H' : Hp} {d c : Addr} {N : List Str} {f : Fm} {xs : List V} (h : TabAt H d N f) (e : H c = some (.lst xs)) (k : Keep c H H') : TabAt H' d N f :=
  let ⟨kvs, e1, t⟩ := h; ⟨kvs, k _ _ e1 (ne_of e1 e fun z => nomatch z), t.mono (fun _ _ => TupF.keep e (fun _ z => nomatch z) k) fun _ z => z⟩
theorem TabAt.off {H : Hp} {d : Addr} {N : List Str} {f : Fm} (h : TabAt H d N f) {z : Str} (n : z ∉ N) : f z = (0, 1) := let ⟨_, _, t⟩ := h; t.off n
theorem ndt {kvs : List (Key × V)} : ∀ xs, HO.dK kvs ≠ .tup xs := fun _ z => nomatch z
theorem nft {o : Obj} {u : HO} : ∀ xs, HO.frz o u ≠ .tup xs := fun _ z => nomatch z
def setF (f : Fm) (z : Str) (x : Int × Int) : Fm := fun y => if y = z then x else f y
theorem setF_self {f : Fm} {z : Str} {x : Int × Int} : setF f z x z = x := if_pos rfl
theorem setF_ne {f : Fm} {z y : Str} {x : Int × Int} (h : y ≠ z) : setF f z x y = f y := if_neg h
theorem setF_red {f : Fm} {z : Str} {x : Int × Int} (h : RedF f) (k : Red x.1 x.2) : RedF (setF f z x) := fun y => by
  unfold setF
  split
  · exact k
  · exact h y
theorem setF_sz {n : Nat} {f : Fm} {z : Str} {x : Int × Int} (h : SzF n f) (k : Sz n x.1 ∧ Sz n x.2) : SzF n (setF f z x) := fun y => by
  unfold setF
  split
  · exact k
  · exact h y
theorem zeroF_sz {n : Nat} (l : 1 ≤ n := by decide) : SzF n fun _ => (0, 1) := fun _ => ⟨Sz.zero.mono l, Sz.one.mono l⟩
theorem Tab.setT {N : List Str} {f : Fm} {H : Hp} {d p : Addr} {kvs : List (Key × V)} {y : Str} {x : Int × Int} (t : Tab N (TupF f H) (ShZ f) kvs) (hd : H d = some (.dK kvs)) (hy : y ∈ N) (hp : H p = some (.tup [.int x.1, .int x.2])) :
    TabAt (upd H d (.dK (putK kvs (.inr y) (.ref p)))) d N (setF f y x) := by
  refine ⟨_, upd_same, t.set hy ?_ (fun z u c r => ?_) fun z c n => ?_⟩
  · refine ⟨p, rfl, ?_⟩
    rw [setF_self, upd_ne (ne_of hp hd fun z => nomatch z)]
    exact hp
  · obtain ⟨q, e, h⟩ := TupF.keep hd ndt keep_upd r
    exact ⟨q, e, by rw [setF_ne c]; exact h⟩
  · show setF f y x z = (0, 1)
    rw [setF_ne c]
    exact n
theorem Part.again {N : List Str} {R : Str → V → Prop} {Z : Str → Prop} {kvs new : List (Key × V)} {i : Nat} {z : Str} {v : V} (h : Part N R Z kvs i new) (m : (Sum.inr z : Key) ∈ (kvs.take i).map (·.1)) (hz : z ∈ N) (r : R z v) : Part N R Z kvs i (putK new (.inr z) v) := by
  refine ⟨h.k.put hz v, fun y w q => ?_, fun y q m => ?_⟩
  · rw [valV_put] at q
    by_cases c : (Sum.inr y : Key) = Sum.inr z
    · rw [if_pos c] at q
      cases q
      cases c
      exact ⟨r, m⟩
    · rw [if_neg c] at q
      exact h.r y w q
  · rw [valV_put] at q
    by_cases c : (Sum.inr y : Key) = Sum.inr z
    · rw [if_pos c] at q
      cases q
    · rw [if_neg c] at q
      exact h.z y q m
theorem keep_lock {H H2 : Hp} {b d : Addr} {od : Obj} {u : HO} (h : H d = some u) (s : Keep b (upd H d (.frz od u)) H2) : Keep b H (upd H2 d u) := fun a o e n => by
  by_cases c : a = d
  · subst c
    rw [h] at e
    cases e
    exact upd_same
  · rw [upd_ne c]
    exact s a o (by rw [upd_ne c]; exact e) n
theorem same_updL {H H1 : Hp} {d : Addr} {o : HO} (s : Same H H1) : Same (upd H d o) (upd H1 d o) := fun a u e => by
  by_cases c : a = d
  · subst c
    rw [upd_same] at e ⊢
    exact e
  · rw [upd_ne c] at e ⊢
    exact s a u e
theorem Bag.ned {H : Hp} {L b d : Addr} {kvs : List (Key × V)} (h : Bag H L b) (e : H d = Option.some (.dK kvs)) : d ≠ b ∧ d ≠ L := by
  obtain ⟨ns, i, big, mix, cnt, h1, h2, h3⟩ := h
  exact ⟨ne_of e h1 fun z => (nomatch z), ne_of e h2 fun z => nomatch z⟩
/-! ### lists of words compared -/
theorem strs_lay : ∀ {zs : List Str}, (∀ z ∈ zs, Lets z) → PyData.canLayAll0 (zs.map PyData.str) = true ∧ PyData.depthAll (zs.map PyData.str) = 0
  | [], _ => ⟨rfl, rfl⟩
  | z :: zs, h => by
    obtain ⟨a, b⟩ := strs_lay (zs := zs) fun y m => h y (List.mem_cons_of_mem _ m)
    have hz := h z List.mem_cons_self
    constructor
    · show (PyData.strOk z && PyData.canLayAll0 (zs.map PyData.str)) = true
      rw [a, Bool.and_true]
      show z.cps.all (· < 0x110000) = true
      rw [← Array.all_toList, List.all_eq_true]
      intro c m
      have := hz c m
      exact decide_eq_true (by omega)
    · show max 0 (PyData.depthAll (zs.map PyData.str)) = 0
      rw [b]
      rfl
theorem strs_dp {K : PySem.W.Frag} {H : Hp} : ∀ {zs : List Str}, DpAll K H (zs.map V.str) (zs.map PyData.str)
  | [] => .nil
  | z :: zs => .cons (.str z) strs_dp
theorem neS {K : PySem.W.Frag} {H : Hp} {p q : Addr} {zs : List Str} {Q : VK} (hp : H p = some (.lst (zs.map V.str))) (hq : H q = some (.lst (zs.map V.str))) (h : ∀ z ∈ zs, Lets z) (k : Q (.bl false) H) : rNeD K (.ref p) (.ref q) H Q := by
  obtain ⟨a, b⟩ := strs_lay h
  have c : (PyData.list (zs.map .str)).canLay0 = true := a
  have s : SeqAt.shaped (PyData.list (zs.map .str)) = true := by
    unfold SeqAt.shaped
    rw [c, Bool.true_and]
    refine decide_eq_true ?_
    show PyData.depthAll (zs.map .str) + 1 ≤ 64
    rw [b]
    decide
  refine ⟨_, _, .lst (SqL.of hp) strs_dp, .lst (SqL.of hq) strs_dp, s, s, ?_⟩
  rw [SeqAt.eqv_refl _ c]
  exact k
theorem eqS {K : PySem.W.Frag} {H : Hp} {p q : Addr} {zs : List Str} {Q : VK} (hp : H p = some (.lst (zs.map V.str))) (hq : H q = some (.lst (zs.map V.str))) (h : ∀ z ∈ zs, Lets z) (k : Q (.bl true) H) : rEqD K (.ref p) (.ref q) H Q := by
  obtain ⟨a, b⟩ := strs_lay h
  have c : (PyData.list (zs.map .str)).canLay0 = true := a
  have s : SeqAt.shaped (PyData.list (zs.map .str)) = true := by
    unfold SeqAt.shaped
    rw [c, Bool.true_and]
    refine decide_eq_true ?_
    show PyData.depthAll (zs.map .str) + 1 ≤ 64
    rw [b]
    decide
  refine ⟨_, _, .lst (SqL.of hp) strs_dp, .lst (SqL.of hq) strs_dp, s, s, ?_⟩
  rw [SeqAt.eqv_refl _ c]
  exact k
theorem pw_uniq {l m : List Str} (h : l.Pairwise fun a b => ¬ tl b < tl a) (k : m.Pairwise fun a b => ¬ tl b < tl a) (a : l.Nodup) (b : m.Nodup) (s : ∀ z, z ∈ l ↔ z ∈ m) : l = m :=
  List.Perm.eq_of_pairwise (fun a b _ _ h1 h2 => tl_inj (List.le_antisymm (List.not_lt.mp h1) (List.not_lt.mp h2))) h k (nodup_perm a b s)
/-! ### tables added and multiplied -/
def sumF (s : Int) (f g : Fm) : Fm := fun z => nrm ((f z).1 * (g z).2 + s * (g z).1 * (f z).2) ((f z).2 * (g z).2)
def timesF (f : Fm) (c d : Int) : Fm := fun z => mulP (f z) (c, d)
theorem keys_str {kvs : List (Key × V)} {ks : List Str} (e : kvs.map (·.1) = ks.map Sum.inr) : (kvs.map fun kv => kV kv.1) = ks.map V.str := by
  have := congrArg (List.map kV) e
  rw [List.map_map, List.map_map] at this
  exact this
def doneF (L : List Str) (h : Fm) : Fm := fun z => if z ∈ L then h z else (0, 1)
theorem doneF_red {L : List Str} {h : Fm} (r : RedF h) : RedF (doneF L h) := fun z => by
  unfold doneF
  split
  · exact r z
  · exact red01
theorem doneF_snoc {L : List Str} {h : Fm} {y : Str} : doneF (L ++ [y]) h = setF (doneF L h) y (h y) := by
  funext z
  unfold doneF setF
  by_cases c : z = y
  · subst c
    simp
  · simp [c]
theorem sumF_red {s : Int} {f g : Fm} (rf : RedF f) (rg : RedF g) : RedF (sumF s f g) := fun z => nrm_red (Int.mul_ne_zero (by have := (rf z).pos; omega) (by have := (rg z).pos; omega))
theorem sumF_add {f g : Fm} : sumF 1 f g = fun z => addP (f z) (g z) := by
  funext z
  unfold sumF addP
  rw [Int.one_mul]
theorem sumF_sub {f g : Fm} (r : RedF g) : sumF (-1) f g = fun z => addP (f z) (mulP (g z) (-1, 1)) := by
  funext z
  rw [mulP_neg (r z)]
  unfold sumF addP
  show nrm ((f z).1 * (g z).2 + -1 * (g z).1 * (f z).2) _ = nrm ((f z).1 * (g z).2 + -(g z).1 * (f z).2) _
  rw [Int.neg_mul 1, Int.one_mul]
theorem sumF_off {s : Int} {f g : Fm} {z : Str} (a : f z = (0, 1)) (b : g z = (0, 1)) : sumF s f g z = (0, 1) := by
  unfold sumF
  rw [a, b]
  show nrm (0 * 1 + s * 0 * 1) (1 * 1) = (0, 1)
  rw [Int.mul_zero]
  exact nrm_0 (by decide)
theorem rd_lock {H : Hp} {a b : Addr} {u v : HO} {od : Obj} (h1 : H a = some u) (h2 : H b = some v) : Rd (upd H b (.frz od v)) a u := by
  by_cases c : a = b
  · subst c
    rw [h1] at h2
    cases h2
    exact .inr ⟨od, upd_same⟩
  · exact .inl (by rw [upd_ne c]; exact h1)
theorem rd_same {H H' : Hp} {a : Addr} {u : HO} (s : Same H H') (h : Rd H a u) : Rd H' a u := h.imp (fun e => s _ _ e) fun ⟨o, e⟩ => ⟨o, s _ _ e⟩
theorem dget_at {H : Hp} {d : Addr} {kvs : List (Key × V)} {z : Str} (e : Rd H d (.dK kvs)) : DGet H d (.str z) (valV kvs (.inr z)) := .inl ⟨kvs, .inr z, e, rfl, rfl⟩
theorem get_tup {H : Hp} {N : List Str} {f : Fm} {kvs : List (Key × V)} {z : Str} {p : Addr} (t : Tab N (TupF f H) (ShZ f) kvs) (hp : H p = some (.tup [.int 0, .int 1])) : ∃ u, (valV kvs (.inr z)).getD (.ref p) = .ref u ∧ H u = some (.tup [.int (f z).1, .int (f z).2]) := by
  cases q : valV kvs (.inr z) with
  | none => exact ⟨p, rfl, by rw [show f z = (0, 1) from t.z z q]; exact hp⟩
  | some v =>
    obtain ⟨u, rfl, h⟩ := t.r z v q
    exact ⟨u, rfl, h⟩
theorem fsame {ca : Nat → Addr} {H H' : Hp} {p : Addr} {N : List Str} {f : Fm} (s : Same H H') (h : FormAt ca H p N f) : FormAt ca H' p N f := h.same s
theorem tsame {H H' : Hp} {d : Addr} {N : List Str} {f : Fm} (s : Same H H') (h : TabAt H d N f) : TabAt H' d N f := h.same s
theorem addP_sz {n m : Nat} {x y : Int × Int} (hx : Sz n x.1 ∧ Sz n x.2) (hy : Sz m y.1 ∧ Sz m y.2) (nx : x.2 ≠ 0) (ny : y.2 ≠ 0) : Sz (n + m + 1) (addP x y).1 ∧ Sz (n + m + 1) (addP x y).2 := by
  have n0 := Int.mul_ne_zero nx ny
  unfold addP
  exact ⟨((hx.1.mul hy.2).add' ((hy.1.mul hx.2).mono (by omega))).le (nrm_le1 n0), ((hx.2.mul hy.2).mono (by omega)).le (nrm_le2 n0)⟩
theorem mulP_sz {n m : Nat} {x y : Int × Int} (hx : Sz n x.1 ∧ Sz n x.2) (hy : Sz m y.1 ∧ Sz m y.2) (nx : x.2 ≠ 0) (ny : y.2 ≠ 0) : Sz (n + m) (mulP x y).1 ∧ Sz (n + m) (mulP x y).2 := by
  have n0 := Int.mul_ne_zero nx ny
  unfold mulP
  exact ⟨(hx.1.mul hy.1).le (nrm_le1 n0), (hx.2.mul hy.2).le (nrm_le2 n0)⟩
theorem RedF.ne {f : Fm} (h : RedF f) (z : Str) : (f z).2 ≠ 0 := by have := (h z).pos; omega
theorem addF_sz {n m k : Nat} {f g : Fm} (hf : SzF n f) (hg : SzF m g) (rf : RedF f) (rg : RedF g) (l : n + m + 1 ≤ k := by decide) : SzF k fun z => addP (f z) (g z) := fun z =>
  let ⟨a, b⟩ := addP_sz (hf z) (hg z) (rf.ne z) (rg.ne z); ⟨a.mono l, b.mono l⟩
theorem mulF_sz {n m k : Nat} {f : Fm} {c d : Int} (hf : SzF n f) (rf : RedF f) (hc : Sz m c) (hd : Sz m d) (nd : d ≠ 0) (l : n + m ≤ k := by decide) : SzF k fun z => mulP (f z) (c, d) := fun z =>
  let ⟨a, b⟩ := mulP_sz (y := (c, d)) (hf z) ⟨hc, hd⟩ (rf.ne z) nd; ⟨a.mono l, b.mono l⟩
theorem neg_sub {x y : Int × Int} (h : Red x.1 x.2) (k : Red y.1 y.2) : mulP (addP x (mulP y (-1, 1))) (-1, 1) = addP y (mulP x (-1, 1)) := by
  have n1 : x.2 ≠ 0 := by have := h.pos; omega
  have n2 : y.2 ≠ 0 := by have := k.pos; omega
  rw [mulP_neg k, mulP_neg h]
  have r : Red (addP x (-y.1, y.2)).1 (addP x (-y.1, y.2)).2 := nrm_red (Int.mul_ne_zero n1 n2)
  rw [mulP_neg r]
  unfold addP
  show (-(nrm (x.1 * y.2 + -y.1 * x.2) (x.2 * y.2)).1, (nrm (x.1 * y.2 + -y.1 * x.2) (x.2 * y.2)).2) = nrm (y.1 * x.2 + -x.1 * y.2) (y.2 * x.2)
  rw [← nrm_neg (Int.mul_ne_zero n1 n2), Int.mul_comm y.2 x.2]
  congr 1
  rw [Int.neg_mul, Int.neg_mul]
  omega
/-! ### a dict and its copy -/
def Plain1 (v : V) : Prop := flatB v = true ∨ ∃ a, v = .ref a
theorem hits_copy {A : Around} {s : Shared} {all : List (Key × V)} {other : List (Key × Value)} (r : KV all other) : ∀ {part : List (Key × V)} {mine : List (Key × Value)}, KV part mine → (∀ e ∈ part, valV all e.1 = some e.2) → (∀ e ∈ part, Plain1 e.2) → PySem.W.KeqHits A s other mine true
  | _, _, .nil, _, _ => .nil
  | e :: part, (k, v) :: mine, .cons ⟨same, rv⟩ rest, hall, hplain => by
    obtain ⟨y, hy, ry⟩ := RelO.some_of (v := e.2) (o := valueAt other e.1) (by rw [← hall e List.mem_cons_self]; exact r.val e.1)
    have same : e.1 = k := same
    rw [same] at hy
    have tail := hits_copy (A := A) (s := s) r rest (fun x m => hall x (List.mem_cons_of_mem _ m)) fun x m => hplain x (List.mem_cons_of_mem _ m)
    have both : PySem.W.KeqHits A s other ((k, v) :: mine) (true && true) := by
      refine .hit hy ?_ tail
      rcases hplain e List.mem_cons_self with h | ⟨a, h⟩
      · exact eqAt_same rv ry h
      · rw [h] at rv ry
        cases rv
        cases ry
        exact SeqAt.EqAt.same (.ref a)
    exact both
def rNeCopy : R2 := fun x y H Q => ∃ (a b : Addr) (kvs : List (Key × V)), x = .ref a ∧ y = .ref b ∧ H a = some (.dK kvs) ∧ H b = some (.dK kvs) ∧ (kvs.map (·.1)).Nodup ∧ (∀ e ∈ kvs, Plain1 e.2) ∧ Q (.bl false) H
theorem op_ne_copy {X : Cx} (hu : X.A.units < cLine) : OpR X (compareOp .NotEq) rNeCopy := by
  intro pins s σ H x y v u Q I rx ry ⟨a, b, kvs, ex, ey, ea, eb, hnd, hpl, q⟩
  subst ex ey
  cases (show v = Value.ref a from rx)
  cases (show u = Value.ref b from ry)
  obtain ⟨_, la, va, ka, da⟩ := (show ObjOk X.prog X.w H s.heap a (.dK kvs) from I.hok a _ ea)
  obtain ⟨_, lb, vb, kb, db⟩ := (show ObjOk X.prog X.w H s.heap b (.dK kvs) from I.hok b _ eb)
  have len : va.length = vb.length := by rw [← ka.length, ← kb.length]
  refine PySem.W.keq_ne (knd := mixKind X.prog X.w) (r := true) la lb da db hu (fun _ => hits_copy kb ka (fun e m => valV_of hnd m) hpl) (fin_bl I q (by simp [len]))
def nameB (z : Str) : Bool := decide (z.length ≤ 12) && (decide (0 < z.length) && z.cps.toList.all fun c => decide (97 ≤ c) && decide (c ≤ 122))
theorem nameB_ok {z : Str} (h : nameB z = true) : NameOk z := by
  obtain ⟨h1, h⟩ := Bool.and_eq_true_iff.mp h
  obtain ⟨h2, h3⟩ := Bool.and_eq_true_iff.mp h
  refine ⟨of_decide_eq_true h1, of_decide_eq_true h2, fun c m => ?_⟩
  obtain ⟨a, b⟩ := Bool.and_eq_true_iff.mp (List.all_eq_true.mp h3 c m)
  exact ⟨of_decide_eq_true a, of_decide_eq_true b⟩
theorem namesB_ok {ws : List Str} (h : ws.all nameB = true) : ∀ z ∈ ws, NameOk z := fun z m => nameB_ok (List.all_eq_true.mp h z m)
theorem FormSh.putD {ca : Nat → Addr} {H H' : Hp} {d c : Addr} {N : List Str} {f : Fm} {kvs : List (Key × V)} (h : FormSh ca H d N f) (e : H c = some (.dK kvs)) (n : d ≠ c) (k : Keep c H H') : FormSh ca H' d N f :=
  let ⟨ks, e1, t⟩ := h; ⟨ks, k _ _ e1 n, t.mono (fun _ _ => ShR.keep e nd k) fun _ z => z⟩
theorem TabAt.putD {H H' : Hp} {d c : Addr} {N : List Str} {f : Fm} {kvs : List (Key × V)} (h : TabAt H d N f) (e : H c = some (.dK kvs)) (n : d ≠ c) (k : Keep c H H') : TabAt H' d N f :=
  let ⟨ks, e1, t⟩ := h; ⟨ks, k _ _ e1 n, t.mono (fun _ _ => TupF.keep e ndt k) fun _ z => z⟩
theorem TabAt.ne {H : Hp} {d c : Addr} {N : List Str} {f : Fm} (h : TabAt H d N f) (n : H c = none) : d ≠ c := let ⟨_, e, _⟩ := h; ne_of_none e n
theorem numR_plain {ca : Nat → Addr} {H : Hp} {N : List Str} {f : Fm} {kvs : List (Key × V)} (t : Tab N (NumR ca f H) (ShZ f) kvs) : ∀ e ∈ kvs, Plain1 e.2 := fun e m => by
  obtain ⟨k, v⟩ := e
  obtain ⟨z, _, ek⟩ := t.k.mem _ m
  have ek : k = .inr z := ek
  subst ek
  rcases t.r z v (valV_of t.k.nd m) with ⟨h, _⟩ | ⟨p, h, _⟩
  · exact .inl (by show flatB v = true; rw [h]; rfl)
  · exact .inr ⟨p, h⟩
theorem FormSh.putL {ca : Nat → Addr} {H H' : Hp} {d c : Addr} {N : List Str} {f : Fm} {xs : List V} (h : FormSh ca H d N f) (e : H c = some (.lst xs)) (k : Keep c H H') : FormSh ca H' d N f :=
  let ⟨ks, e1, t⟩ := h; ⟨ks, k _ _ e1 (ne_of e1 e fun z => nomatch z), t.mono (fun _ _ => ShR.keep e (fun _ _ _ z => nomatch z) k) fun _ z => z⟩
theorem oneT {H : Hp} {d t : Addr} {N : List Str} {z : Str} (hz : z ∈ N) (ht : H t = some (.tup [.int 1, .int 1])) (n : t ≠ d) : TabAt (upd H d (.dK (mergeK [] [(.inr z, .ref t)]))) d N (oneF z) := by
  refine ⟨_, upd_same, Tab.set (R := fun _ _ => False) (Z := fun _ => True) (.nil fun _ => True.intro) hz ?_ (fun _ _ _ h => h.elim) fun y c _ => oneF_ne c⟩
  refine ⟨t, rfl, ?_⟩
  rw [oneF_self, upd_ne n]
  exact ht
end Lo

set_option Elab.async false
set_option linter.all false
set_option maxRecDepth 100000
set_option maxHeartbeats 4000000
namespace Lo
open PySem PySem.Spec PyProof.Rows L2
/-! ### own errors with fields -/
/-- __init__ of an error stores its parameters under the names fs -/
def spErr (C : Addr) (fs : List Str) : Sp := fun vs H Q _ => ∃ (a : Addr) (us : List V), vs = .ref a :: us ∧ us.length = fs.length ∧ H a = some (exo a C none) ∧
  ∀ (dx : Addr) (H2 : Hp), H dx = none → dx ≠ a → H2 a = some (exo a C (some dx)) → H2 dx = some (exd dx (fs.zip us).reverse) → (∀ b o, H b = some o → b ≠ a → H2 b = some o) → Q .non H2
structure OwnE (P : Program) (w : World) (K : PySem.W.Frag) (mg : Str → Option Value) (base : Heap) (x : Str) (C : Addr) (fs : List Str) : Prop where
  cl : OexC K C
  ex : ∃ f fd ps, FnOk P w K mg base (L2.CX P w) 1 f fd ps (spErr C fs) ∧ PySem.W.findIn K (.ref C) "__init__" = some (some (.ref f)) ∧ PySem.W.typeIn K (.ref f) = some (.type "function") ∧ mg x = some (.ref C) ∧ Binds K fd ps []
theorem pmk_err {X : Cx} {x : Str} {C : Addr} {fs : List Str} {e : Expr} {es : List Expr} {ta : TA} {p pos : Pos} (O : OwnE X.prog X.w X.K X.mg X.base x C fs) (hr : Room 2 X.A) (hg : Gl X x) (ha : PA X (e :: es) ta)
    (hdb : (x == ("__debug__" : Str)) = false := by decide) (he : starEach (e :: es) X.env = (false, eval e X.env) :: starEach es X.env := by rfl) (hpl : (backTo pos (starEach es X.env)).any (·.1) = false := by rfl) :
    PMk X (.Call (.Name x p) (e :: es) [] pos) (tMkO C (spErr C fs) [] ta) := by
  obtain ⟨f, fd, ps, F, hi, ht, hm, hb⟩ := O.ex
  exact pmk_oex O.cl hi ht F hr hb .nil passL hg hm ha hdb he hpl
/-- raise X(e, ..) -/
def tRaiseE (C : Addr) (fs : List Str) (W : WX) (ta : TA) : TS := fun _ σ H => tMkO C (spErr C fs) [] ta σ H fun cls d H' => W cls d σ H'
theorem ps_raiseE {X : Cx} {x : Str} {C : Addr} {fs : List Str} {e : Expr} {es : List Expr} {ta : TA} {W : WX} {p pos pos2 : Pos} (hc : X.calm = true) (O : OwnE X.prog X.w X.K X.mg X.base x C fs) (hr : Room 2 X.A) (tk : Takes X W) (hg : Gl X x) (ha : PA X (e :: es) ta)
    (hdb : (x == ("__debug__" : Str)) = false := by decide) (he : starEach (e :: es) X.env = (false, eval e X.env) :: starEach es X.env := by rfl) (hpl : (backTo pos (starEach es X.env)).any (·.1) = false := by rfl) :
    PS X (.Raise (some (.Call (.Name x p) (e :: es) [] pos)) none pos2) (tRaiseE C fs W ta) := ps_raise hc tk (pmk_err O hr hg ha hdb he hpl)
/-- behind the arguments' reading -/
theorem err_in {C : Addr} {fs : List Str} {us : List V} {H1 : Hp} {Q : XK} (hl : us.length = fs.length) (h100 : fs.length ≤ 100) (k : ∀ (d : Addr) (H2 : Hp), H1 d = none → Same H1 H2 → H2 d = some (.xd (fs.zip us).reverse) → Q (.ref C) (some d) H2) :
    us.length ≤ 1000 ∧ ∀ a, H1 a = none → spErr C fs (.ref a :: (us ++ [])) (upd H1 a (exo a C none))
      (fun v H2 => v = .non ∧ ∃ (d : Addr) (fs' : List (Str × V)), H2 a = some (exo a C (some d)) ∧ H2 d = some (exd d fs') ∧ H1 d = none ∧ Q (.ref C) (some d) (upd (L2.del H2 a) d (.xd fs'))) (fun _ _ _ => False) := by
  refine ⟨by omega, fun a na => ⟨a, us, by rw [List.append_nil], hl, upd_same, fun dx H2 nd ne ea ed sm => ⟨rfl, dx, _, ea, ed, ?_, ?_⟩⟩⟩
  · rw [upd_ne ne] at nd
    exact nd
  · rw [upd_ne ne] at nd
    refine k dx _ nd (fun b o e => ?_) upd_same
    have hb := ne_of_none e na
    rw [upd_ne (ne_of_none e nd), del_ne hb]
    exact sm b o (by rw [upd_ne hb]; exact e) hb
/-- the stores of __init__ -/
theorem err_1 {K : PySem.W.Frag} {C a : Addr} {f : Str} {y : V} {H : Hp} {R : Hp → Prop} (T : OexC K C) (hno : PySem.W.findIn K (.ref C) f = some none) (h : H a = some (exo a C none)) (k : ∀ dx H2, H dx = none → dx ≠ a → H2 a = some (exo a C (some dx)) → H2 dx = some (exd dx [(f, y)]) → (∀ b o, H b = some o → b ≠ a → H2 b = some o) → R H2) :
    ∃ a' C' : Addr, V.ref a = .ref a' ∧ OexC K C' ∧ PySem.W.findIn K (.ref C') f = some none ∧
      ((H a' = some (exo a' C' none) ∧ ∀ dx, H dx = none → dx ≠ a' → R (upd (upd H dx (exd dx [(f, y)])) a' (exo a' C' (some dx)))) ∨
        ∃ (dx : Addr) (fs : List (Str × V)), H a' = some (exo a' C' (some dx)) ∧ H dx = some (exd dx fs) ∧ fs.length ≤ 900 ∧ R (upd H dx (exd dx ((f, y) :: fs)))) :=
  ⟨a, C, rfl, T, hno, .inl ⟨h, fun dx n ne => k dx _ n ne upd_same (by rw [upd_ne ne]; exact upd_same) fun b o e m => by rw [upd_ne m, upd_ne (ne_of_none e n)]; exact e⟩⟩
theorem err_2 {K : PySem.W.Frag} {C a dx : Addr} {f : Str} {y : V} {H : Hp} {R : Hp → Prop} {fs : List (Str × V)} (T : OexC K C) (hno : PySem.W.findIn K (.ref C) f = some none) (h : H a = some (exo a C (some dx))) (h2 : H dx = some (exd dx fs)) (hl : fs.length ≤ 900) (hne : dx ≠ a)
    (k : ∀ H2, H2 a = some (exo a C (some dx)) → H2 dx = some (exd dx ((f, y) :: fs)) → (∀ b o, H b = some o → b ≠ dx → H2 b = some o) → R H2) :
    ∃ a' C' : Addr, V.ref a = .ref a' ∧ OexC K C' ∧ PySem.W.findIn K (.ref C') f = some none ∧
      ((H a' = some (exo a' C' none) ∧ ∀ dx, H dx = none → dx ≠ a' → R (upd (upd H dx (exd dx [(f, y)])) a' (exo a' C' (some dx)))) ∨
        ∃ (dx : Addr) (fs : List (Str × V)), H a' = some (exo a' C' (some dx)) ∧ H dx = some (exd dx fs) ∧ fs.length ≤ 900 ∧ R (upd H dx (exd dx ((f, y) :: fs)))) :=
  ⟨a, C, rfl, T, hno, .inr ⟨dx, fs, h, h2, hl, k _ (by rw [upd_ne hne.symm]; exact h) upd_same fun b o e m => by rw [upd_ne m]; exact e⟩⟩
end Lo

set_option Elab.async false
set_option linter.all false
set_option maxRecDepth 100000
set_option maxHeartbeats 4000000
namespace Lo
open PySem L2
/-! ### sets of words: set(list), sorted(set) -/
section
variable {P : Program} {w : World} {K : Type} [DecidableEq K]
def SetQ (knd : KeyKind P w K) (h : Heap) (a : Addr) (S : K → Bool) (n : Nat) : Prop :=
  ∃ o es ep t, h.get? a = some o ∧ o.ExactSet ∧ o.data = Data.set es ep t ∧ ElemsOf knd es.toList ∧ (es.toList.Pairwise fun x y => ∀ k, knd.is k x.2 = true → knd.is k y.2 = false) ∧
    (∀ k, S k = true ↔ ∃ e, e ∈ es.toList ∧ knd.is k e.2 = true) ∧ es.size < scanBound ∧ t.fits es.size = true ∧ es.size = n ∧ Ris t.place.toList ∧ (w.params.followText "set-order" = true ∨ t.led = true)
theorem gate {M : Model} {A : Around} {E : Value → Shared → Prop} {s : Shared} {α : Type} {g : Bool → Sem Unit} {b : Bool} {rest : Unit → Sem α} {R : α → Shared → Prop} (hg : ∀ (b : Bool) (s₁ : Shared) (Q' : Unit → Shared → Prop), Q' () s₁ → wpAny M A (g b) Q' E s₁)
    (k : (∀ (b : Bool) (s₁ : Shared) (Q' : Unit → Shared → Prop), Q' () s₁ → wpAny M A (g b) Q' E s₁) → wpAny M A (rest ()) R E s) : wpAny M A (g b >>= rest) R E s := wpAny_bind (hg _ _ _ (k hg))
theorem pw_sym {knd : KeyKind P w K} {es es' : List (Int × Value)} (h : es.Perm es') (k : es'.Pairwise fun x y => ∀ k, knd.is k x.2 = true → knd.is k y.2 = false) : es.Pairwise fun x y => ∀ k, knd.is k x.2 = true → knd.is k y.2 = false :=
  (h.pairwise_iff (fun {x y} hxy k hy => by
    cases e : knd.is k x.2 with
    | false => rfl
    | true => rw [hxy k e] at hy; exact hy.symm)).mpr k
theorem setQ_tail {knd : KeyKind P w K} {A : Around} {E : Value → Shared → Prop} {s : Shared} {a : Addr} {g : Bool → Sem Unit} (hg : ∀ (b : Bool) (s₁ : Shared) (Q' : Unit → Shared → Prop), Q' () s₁ → wpAny (model P w) A (g b) Q' E s₁)
    {o : Obj} {es : Array (Int × Value)} {ep : Nat} {t : SetTable} (ho : s.heap.get? a = some o) (hex : o.ExactSet) (hd : o.data = Data.set es ep t) {es1 : Array (Int × Value)} {t2 : SetTable} {S' : K → Bool}
    (hel : ElemsOf knd es1.toList) (hnd : es1.toList.Pairwise fun x y => ∀ k, knd.is k x.2 = true → knd.is k y.2 = false) (hm : ∀ k, S' k = true ↔ ∃ e, e ∈ es1.toList ∧ knd.is k e.2 = true) (hsb : es1.size < scanBound)
    (hf : t2.fits es1.size = true) (hr : Ris t2.place.toList) (hl : w.params.followText "set-order" = true ∨ t2.led = true) {wasDummy : Bool} {R : Option Bool → Shared → Prop}
    (h : ∀ h', Heap.SameBut a s.heap h' → SetQ knd h' a S' es1.size → R (some true) { s with heap := h' }) :
    wpAny (model P w) A (do
      storeSet a es1 t2
      if (!wasDummy && t2.tooFull) = true then do
        g (relayAll t2 es1 (SetTable.grown es1.size)).snd.snd
        storeSet a (relayAll t2 es1 (SetTable.grown es1.size)).fst (relayAll t2 es1 (SetTable.grown es1.size)).snd.fst
        pure (some true)
      else pure (some true)) R E s := by
  have e1 := store_at (es' := es1) (t' := t2) ho hd
  refine wpAny_bind (wpAny_storeSet_of ho hd ?_ (fits_of_scanBound hsb))
  have sb := Heap.SameBut.update s.heap a (Obj.putSet es1 t2)
  generalize s.heap.update a (Obj.putSet es1 t2) = h1 at *
  by_cases c : (!wasDummy && t2.tooFull) = true
  · rw [if_pos c]
    refine wpAny_bind (hg _ _ _ ?_)
    have hp := relayAll_perm t2 es1 (SetTable.grown es1.size)
    have hz : (relayAll t2 es1 (SetTable.grown es1.size)).fst.size = es1.size := by simpa using hp.length_eq
    refine wpAny_bind (wpAny_storeSet_of e1 rfl ?_ (fits_of_scanBound (by rw [hz]; exact hsb)))
    have e2 := store_at (es' := (relayAll t2 es1 (SetTable.grown es1.size)).fst) (t' := (relayAll t2 es1 (SetTable.grown es1.size)).snd.fst) e1 rfl
    have sb2 := sb.trans (Heap.SameBut.update h1 a (Obj.putSet (relayAll t2 es1 (SetTable.grown es1.size)).fst (relayAll t2 es1 (SetTable.grown es1.size)).snd.fst))
    refine wpAny_pure (h _ sb2 ⟨_, _, _, _, e2, ⟨hex.1, hex.2.1, hex.2.2⟩, rfl, fun e m => hel e (hp.mem_iff.mp m), pw_sym hp hnd, fun k => ?_, by rw [hz]; exact hsb, relayAll_fits _ _ _, hz, relayAll_ris _ _ _, ?_⟩)
    · rw [hm]
      exact ⟨fun ⟨e, m, q⟩ => ⟨e, hp.mem_iff.mpr m, q⟩, fun ⟨e, m, q⟩ => ⟨e, hp.mem_iff.mp m, q⟩⟩
    · rw [relayAll_led]
      exact hl
  · rw [if_neg c]
    exact wpAny_pure (h _ sb ⟨_, _, _, _, e1, ⟨hex.1, hex.2.1, hex.2.2⟩, rfl, hel, hnd, hm, hsb, hf, rfl, hr, hl⟩)
theorem setQ_add {knd : KeyKind P w K} {A : Around} {E : Value → Shared → Prop} {s : Shared} {a : Addr} {S : K → Bool} {n : Nat} {k : K} {x : Value} {Q : Bool → Shared → Prop}
    (hS : SetQ knd s.heap a S n) (hn : n + 1 < scanBound) (hx : knd.is k x = true) (hsc : x.scannable = true)
    (h : ∀ h', Heap.SameBut a s.heap h' → SetQ knd h' a (fun j => S j || decide (j = k)) (if S k = true then n else n + 1) → Q (!S k) { s with heap := h' }) :
    wpAny (model P w) A (setAddHashed a x (knd.hash k)) Q E s := by
  obtain ⟨o, es, ep, t, ho, hex, hd, hel, hnd, hm, hsb, hf, hsz, hr, hl⟩ := hS
  unfold setAddHashed
  refine wpAny_holding ?_
  unfold setAddHashedIn
  refine wpAny_bind (wpAny_setState_of ho hd hf ?_)
  simp only
  rw [byScan_of hsc hsb hel]
  rw [if_pos rfl]
  refine wpAny_bind ?_
  unfold setAddByScan
  refine wpAny_bind (wpAny_rule ?_)
  refine wpAny_bind (wpAny_setScan_of hx ho hd hf hel ?_)
  have hk : S k = true ↔ (es.toList.findIdx? fun e => knd.is k e.2).isSome = true := by
    rw [hm, List.findIdx?_isSome, List.any_eq_true]
  cases q : es.toList.findIdx? fun e => knd.is k e.2 with
  | some j =>
    rw [q] at hk
    have hk : S k = true := hk.mpr rfl
    refine wpAny_pure (wpAny_pure ?_)
    have e : (fun j => S j || decide (j = k)) = S := by
      funext j
      by_cases c : j = k
      · rw [c, hk]; rfl
      · rw [decide_eq_false c, Bool.or_false]
    have := h s.heap ⟨rfl, fun _ _ => rfl⟩ (by rw [e, if_pos hk]; exact ⟨o, es, ep, t, ho, hex, hd, hel, hnd, hm, hsb, hf, hsz, hr, hl⟩)
    rw [hk] at this
    exact this
  | none =>
    rw [q] at hk
    have hk : S k = false := by
      cases e : S k with
      | false => rfl
      | true => exact nomatch hk.mp e
    rw [hk, if_neg (fun z => nomatch z)] at h
    simp only
    have hp := layNew_perm t es (knd.hash k) x
    have hf1 := layNew_fits t es (knd.hash k) x
    have hr1 := layNew_ris t es (knd.hash k) x hr
    have hl1 := layNew_led t es (knd.hash k) x
    have hz : (layNew t es (knd.hash k) x).1.size = n + 1 := by
      have := hp.length_eq
      simp at this
      omega
    have hmem : ∀ e, e ∈ (layNew t es (knd.hash k) x).1.toList ↔ e ∈ es.toList ∨ e = (knd.hash k, x) := fun e => by
      rw [hp.mem_iff, Array.toList_push, List.mem_append, List.mem_singleton]
    have tl : ∀ (g : Bool → Sem Unit) (hg : ∀ (b : Bool) (s₁ : Shared) (Q' : Unit → Shared → Prop), Q' () s₁ → wpAny (model P w) A (g b) Q' E s₁) (t2 : SetTable), t2.fits (layNew t es (knd.hash k) x).1.size = true → Ris t2.place.toList → t2.led = t.led → wpAny (model P w) A (do
        storeSet a (layNew t es (knd.hash k) x).1 t2
        if (!(layNew t es (knd.hash k) x).2.2.1 && t2.tooFull) = true then do
          g (relayAll t2 (layNew t es (knd.hash k) x).1 (SetTable.grown (layNew t es (knd.hash k) x).1.size)).snd.snd
          storeSet a (relayAll t2 (layNew t es (knd.hash k) x).1 (SetTable.grown (layNew t es (knd.hash k) x).1.size)).fst (relayAll t2 (layNew t es (knd.hash k) x).1 (SetTable.grown (layNew t es (knd.hash k) x).1.size)).snd.fst
          pure (some true)
        else pure (some true)) (fun a_1 s' => wpAny (model P w) A (match a_1 with | some added => pure added | none => setAddHashedIn a x (knd.hash k) 99999) Q E s') E s := by
      intro g hg t2 f2 r2 l2
      refine setQ_tail (knd := knd) (S' := fun j => S j || decide (j = k)) hg ho hex hd ?_ ?_ ?_ (by rw [hz]; exact hn) f2 r2 (by rw [l2]; exact hl) fun h' sb hq => wpAny_pure (h h' sb (by rw [← hz]; exact hq))
      · intro e m
        rcases (hmem e).mp m with m | rfl
        · exact hel e m
        · exact ⟨⟨k, hx, rfl⟩, hsc⟩
      · refine pw_sym hp ?_
        rw [Array.toList_push, List.pairwise_append]
        refine ⟨hnd, List.pairwise_singleton _ _, fun e m y my j hj => ?_⟩
        rw [List.mem_singleton] at my
        subst my
        cases ex : knd.is j x with
        | false => rfl
        | true =>
          have ej := knd.inj x j k ex hx
          subst ej
          rw [(hm j).mpr ⟨e, m, hj⟩] at hk
          cases hk
      · intro j
        rw [Bool.or_eq_true, decide_eq_true_iff, hm]
        constructor
        · rintro (⟨e, m, q⟩ | rfl)
          · exact ⟨e, (hmem e).mpr (.inl m), q⟩
          · exact ⟨_, (hmem _).mpr (.inr rfl), hx⟩
        · rintro ⟨e, m, q⟩
          rcases (hmem e).mp m with m | rfl
          · exact .inl ⟨e, m, q⟩
          · exact .inr (knd.inj x j k q hx)
    refine gate (fun b s₁ Q' q => ?_) fun hg => ?_
    · cases b
      · exact wpAny_pure q
      · exact wpAny_rule q
    by_cases c : (layNew t es (knd.hash k) x).2.1.plain = true
    · rw [if_pos c, hashByValue_scannable 8 hsc]
      refine wpAny_bind (wpAny_pure ?_)
      refine tl _ hg _ ?_ ?_ ?_
      · split
        · exact hf1
        · exact hf1
      · split
        · exact hr1
        · exact hr1
      · split
        · exact hl1
        · exact hl1
    · rw [if_neg c]
      refine wpAny_bind (wpAny_pure ?_)
      exact tl _ hg _ hf1 hr1 hl1
theorem SetQ.at {knd : KeyKind P w K} {h h' : Heap} {a : Addr} {S : K → Bool} {n : Nat} (q : SetQ knd h a S n) (k : ∀ o, h.get? a = some o → h'.get? a = some o) : SetQ knd h' a S n :=
  let ⟨o, es, ep, t, ho, r⟩ := q
  ⟨o, es, ep, t, k o ho, r⟩
theorem SetQ.congr {knd : KeyKind P w K} {h : Heap} {a : Addr} {S S' : K → Bool} {n : Nat} (q : SetQ knd h a S n) (k : S' = S) : SetQ knd h a S' n := k ▸ q
theorem setQ_update {knd : KeyKind P w K} {A : Around} {I : Addr} {fp wr : List Addr} {G : Array GenState → Array GenState → Prop} {n : Nat} {Pv : Nat → Value → Prop} {St : Nat → Shared → Prop} {R : Result → Shared → Prop}
    (hW : WalksS P w A.in1 I fp wr G n Pv St) (S : Addr) (hS : ¬ S ∈ fp) (ks : List K) (hn : n = ks.length) (hb : ks.length + 1 < scanBound) (hv : ∀ i v, Pv i v → ∃ k, ks[i]? = some k ∧ knd.is k v = true ∧ v.scannable = true) :
    ∀ (k i : Nat) (s : Shared), n - i = k → i ≤ n → St i s → (∃ c, c ≤ i ∧ SetQ knd s.heap S (fun j => decide (j ∈ ks.take i)) c) →
      (∀ (s' : Shared) (c : Nat), Moved (S :: wr) G s s' → c ≤ n → SetQ knd s'.heap S (fun j => decide (j ∈ ks)) c → R (Except.ok (Flow.ret Value.none)) s') →
      codeAny (model P w) A (Code.builtin "set.update.loop" { pos := [Value.ref S, Value.ref I] }) R s
  | k, i, s, hk, hi, hst, ⟨c, hc, hq⟩, h => by
    refine codeAny_builtin PyProof.Rows.F.entry_set_update_loop ?_
    unfold Builtin.«set.update.loop»
    simp only
    show wpAny _ A.in1 _ _ _ s
    have hSw : ¬ S ∈ wr := fun m => hS (hW.sub _ m)
    by_cases e : i = n
    · subst e
      refine wpAny_bind (hW.done s _ _ hst fun s' m => wpAny_pure (h s' c ⟨fun b o nb => m.heap b o fun z => nb (List.mem_cons_of_mem _ z), m.gens, m.drawn, m.os, m.toks⟩ hc ?_))
      refine (hq.at fun o => m.heap S o hSw).congr ?_
      rw [hn, List.take_length]
    · refine wpAny_bind (hW.item i s _ _ (by omega) hst fun v s' hp hst' m => ?_)
      obtain ⟨z, hz, hzv, hsc⟩ := hv i v hp
      simp only
      refine wpAny_bind (wpAny_holding ?_)
      unfold setAdd
      refine wpAny_holding (wpAny_bind (knd.pyHash hzv ?_))
      have hq1 := hq.at fun o => m.heap S o hSw
      refine setQ_add (s := { s' with toks := s'.toks + 1 }) (n := c) hq1 (by omega) hzv hsc fun h' sb q2 => wpAny_pure ⟨plainId_quiet PyProof.Rows.F.plain_set_update_loop _, ?_⟩
      have hst2 := hW.frame (i + 1) s' h' (s'.toks + 1) hst' (Nat.le_succ _) fun b mb o ho => by rw [sb.2 b (fun z => hS (z ▸ mb))]; exact ho
      refine setQ_update hW S hS ks hn hb hv (n - (i + 1)) (i + 1) _ rfl (by omega) hst2 ⟨_, ?_, q2.congr ?_⟩ fun s3 c3 m3 => h s3 c3 ⟨fun b o nb ho => ?_, ?_, ?_, ?_, ?_⟩
      · split <;> omega
      · funext j
        have e : ks.take (i + 1) = ks.take i ++ [z] := by rw [List.take_add_one, hz]; rfl
        rw [e]
        by_cases c1 : j ∈ ks.take i
        · rw [decide_eq_true c1, decide_eq_true (List.mem_append_left _ c1)]; rfl
        · rw [decide_eq_false c1, Bool.false_or]
          by_cases c2 : j = z
          · rw [decide_eq_true c2, decide_eq_true (List.mem_append_right _ (by rw [c2]; simp))]
          · rw [decide_eq_false c2, decide_eq_false fun q => (List.mem_append.mp q).elim c1 fun q => c2 (by simpa using q)]
      · refine m3.heap b o nb ?_
        show h'.get? b = some o
        rw [sb.2 b (fun z => nb (by rw [z]; exact List.mem_cons_self))]
        exact m.heap b o (fun z => nb (List.mem_cons_of_mem _ z)) ho
      · exact hW.gtrans _ _ _ m.gens m3.gens
      · exact m3.drawn.trans m.drawn
      · exact m3.os.trans m.os
      · exact Nat.le_trans m.toks (Nat.le_trans (Nat.le_succ _) m3.toks)
  termination_by k => k
  decreasing_by omega
theorem tc_quiet (a : Args) : (Code.builtin "type.__call__" a).quiet = true := by
  unfold Code.quiet Thread.loud
  simp [L2.call_set_tups._proof_1, Thread.atCollectorCode, Thread.yieldsInsideHandler, Thread.atExit]
theorem call_setQ {knd : KeyKind P w K} {A : Around} {E : Value → Shared → Prop} {s : Shared} {l : Addr} {items : Array Value} (ks : List K) {Q : Value → Shared → Prop} (hA : A.handled = none) (hl : s.heap.IsList l items)
    (hlen : items.size = ks.length) (hb : ks.length + 1 < scanBound) (hv : ∀ (i : Nat) (v : Value), items[i]? = some v → ∃ k, ks[i]? = some k ∧ knd.is k v = true ∧ v.scannable = true)
    (h : ∀ (h' : Heap) (tk c : Nat), c ≤ ks.length → SetQ knd h' s.heap.objs.size (fun j => decide (j ∈ ks)) c → (∀ (b : Addr) (o : Obj), s.heap.get? b = some o → h'.get? b = some o) → Q (Value.ref s.heap.objs.size) { s with heap := h', toks := tk }) :
    wpAny (model P w) A (call (Value.type "set") [Value.ref l]) Q E s := by
  refine wpAny_call (codeAny_of_tree ?_)
  show wpAny _ (A.under _) (pure (Fin.again (Code.builtin "type.__call__" { pos := [Value.type "set", Value.ref l] }))) _ _ s
  refine wpAny_pure ⟨tc_quiet _, ?_⟩
  refine codeAny_builtin F.entry_type_call ?_
  show wpAny _ A.in1 _ _ _ s
  unfold Builtin.«type.__call__»
  simp only
  refine wpAny_ite_false (by decide) ?_
  refine wpAny_ite_false (by decide +kernel) ?_
  rw [F.typeCall_set_1]
  refine wpAny_bind (wpAny_pure ?_)
  have hs := F.called_set
  obtain ⟨c0, tl, hm⟩ := hs.mro
  rw [hm]
  refine wpAny_bind (wpAny_pure ?_)
  refine wpAny_ite_false rfl ?_
  rw [hs.made]
  refine wpAny_bind (wpAny_pure ?_)
  simp only
  refine wpAny_bind (wpAny_pure ?_)
  refine wpAny_bind (wpAny_holding (wpAny_call ?_))
  refine codeAny_mono (code_set_led1 (E := fun _ _ => False) (Q₁ := fun v s' => v = Value.ref s.heap.objs.size ∧ s' = { s with heap := s.heap.push { cls := Value.type "set", data := Data.set #[] 0 (SetTable.fresh 0 0 !w.params.followText "set-order") } }) _ ⟨rfl, rfl⟩) fun r s1 hr => ?_
  obtain ⟨v, rfl, e1, e2⟩ : ∃ v, r = .ok (.ret v) ∧ v = Value.ref s.heap.objs.size ∧ s1 = { s with heap := s.heap.push { cls := Value.type "set", data := Data.set #[] 0 (SetTable.fresh 0 0 !w.params.followText "set-order") } } := by
    match r with
    | .ok (.ret v) => exact ⟨v, rfl, hr.1, hr.2⟩
    | .error _ => exact hr.elim
    | .ok (.next) => exact hr.elim
    | .ok (.brk) => exact hr.elim
  subst e1
  subst e2
  simp only
  have ho := Heap.get?_push_size (h := s.heap) (o := { cls := Value.type "set", data := Data.set #[] 0 (SetTable.fresh 0 0 !w.params.followText "set-order") }) rfl
  refine wpAny_bind (wpAny_isInstance (T := "set") ⟨_, ho, rfl⟩ hs.sub ?_)
  refine wpAny_ite_false rfl ?_
  refine wpAny_bind (wpAny_holding ?_)
  unfold callSpecial?
  refine wpAny_bind (wpAny_specialOf (T := "set") ⟨_, ho, rfl⟩ hs.init.lookup ?_)
  simp only
  refine wpAny_holding ?_
  rw [hs.init.bind]
  refine wpAny_bind (wpAny_pure ?_)
  simp only
  refine wpAny_bind (wpAny_call ?_)
  refine codeAny_call_builtin hs.init.plain F.entry_set_init (check_set_init_1 ⟨_, ho, rfl⟩ ?_)
  unfold Builtin.«set.__init__»
  simp only [List.cons_append, List.nil_append]
  refine wpAny_bind (wpAny_pure ?_)
  refine wpAny_bind ?_
  unfold typeNameOfCut
  refine wpAny_bind (?_ : wpAny _ _ (shownTypeOf _) _ _ _)
  unfold shownTypeOf
  refine wpAny_bind (wpAny_typeOf (T := "set") ⟨_, ho, rfl⟩ ?_)
  refine wpAny_ite_false (by decide) (wpAny_pure ?_)
  unfold typeNameCut typeName
  refine wpAny_pure ?_
  refine wpAny_bind ?_
  unfold checkCount
  refine wpAny_ite_false rfl ?_
  refine wpAny_ite_false rfl ?_
  refine wpAny_ite_false rfl (wpAny_pure ?_)
  refine wpAny_bind (wpAny_pure ?_)
  unfold setUsed
  refine wpAny_bind (wpAny_bind (wpAny_setState_of ho rfl rfl (wpAny_pure ?_)))
  refine wpAny_ite_false rfl ?_
  unfold Builtin.Frozenset.updateFrom
  refine wpAny_bind (wpAny_bind ?_)
  unfold Builtin.Frozenset.isAnySet
  obtain ⟨ol, hol, hcls, cap, hdat⟩ := hl
  have hol1 := Heap.get?_push_of_some (o := { cls := Value.type "set", data := Data.set #[] 0 (SetTable.fresh 0 0 !w.params.followText "set-order") }) hol
  refine wpAny_bind (wpAny_isInstance (T := "list") ⟨_, hol1, hcls⟩ F.sub_list_set ?_)
  refine wpAny_isInstance (T := "list") ⟨_, hol1, hcls⟩ F.sub_list_frozenset ?_
  refine wpAny_ite_false rfl ?_
  refine wpAny_bind (wpAny_typeOf (T := "list") ⟨_, hol1, hcls⟩ ?_)
  refine wpAny_ite_false (by decide) ?_
  refine wpAny_bind (wpAny_pyIter_list ⟨_, hol1, hcls, cap, hdat⟩ ?_)
  refine wpAny_bind (wpAny_runValue ?_)
  have hlt : l ≠ s.heap.objs.size + 1 := Nat.ne_of_lt (Nat.lt_succ_of_lt (Heap.lt_size hol))
  have hlt2 : l ≠ s.heap.objs.size := Nat.ne_of_lt (Heap.lt_size hol)
  have hI := Heap.get?_push_size (s.heap.push { cls := Value.type "set", data := Data.set #[] 0 (SetTable.fresh 0 0 !w.params.followText "set-order") }) (o := { cls := Value.type "list_iterator", data := Data.fields #[Value.ref l, Value.int 0 0] }) rfl
  have hol2 := Heap.get?_push_of_some { cls := Value.type "list_iterator", data := Data.fields #[Value.ref l, Value.int 0 0] } hol1
  have ho2 := Heap.get?_push_of_some { cls := Value.type "list_iterator", data := Data.fields #[Value.ref l, Value.int 0 0] } ho
  have hsz : (s.heap.push { cls := Value.type "set", data := Data.set #[] 0 (SetTable.fresh 0 0 !w.params.followText "set-order") }).objs.size = s.heap.objs.size + 1 := Heap.size_push _ _
  rw [hsz] at hI ⊢
  refine setQ_update (knd := knd) (Walks.toS (Walks.list (A := A.in1.in1.in1) hA (s.heap.objs.size + 1) l hlt items)) s.heap.objs.size ?_ ks hlen hb hv items.size 0 _ rfl (Nat.zero_le _) ⟨?_, ?_⟩ ⟨0, Nat.le_refl _, ?_⟩ fun s3 c3 m3 hc3 q3 => ?_
  · intro m
    simp only [List.mem_cons, List.not_mem_nil, or_false] at m
    rcases m with m | m
    · exact absurd m (Nat.ne_of_lt (Nat.lt_succ_self _))
    · exact hlt2 m.symm
  · exact ⟨_, hI, rfl, rfl⟩
  · exact ⟨_, hol2, hcls, cap, hdat⟩
  · refine ⟨_, _, _, _, ho2, ⟨rfl, rfl, rfl⟩, rfl, fun e m => ?_, ?_, fun j => ?_, ?_, rfl, rfl, ?_, ?_⟩
    · exact absurd m (by simp)
    · exact List.Pairwise.nil
    · simp
    · show 0 < scanBound
      omega
    · exact List.Pairwise.nil
    · show w.params.followText "set-order" = true ∨ (!w.params.followText "set-order") = true
      cases w.params.followText "set-order"
      · exact .inr rfl
      · exact .inl rfl
  · refine wpAny_pure (wpAny_pure (wpAny_pure ?_))
    refine wpAny_ite_false (by decide) (wpAny_pure ?_)
    have eg : s3.gens = s.gens := m3.gens
    have ed : s3.drawn = s.drawn := m3.drawn
    have eo : s3.os = s.os := m3.os
    have := h s3.heap s3.toks c3 (by omega) q3 fun b o hb => m3.heap b o (fun m => ?_) (Heap.get?_push_of_some _ (Heap.get?_push_of_some _ hb))
    · rw [← eg, ← ed, ← eo] at this
      exact this
    · have hb1 := Heap.lt_size hb
      rcases List.mem_cons.mp m with m | m
      · exact absurd m (Nat.ne_of_lt hb1)
      · exact absurd (List.mem_singleton.mp m) (Nat.ne_of_lt (Nat.lt_succ_of_lt hb1))
/-! ### sorted of a set of texts -/
def toS : Value → Str
  | .str z _ => z
  | _ => Str.empty
theorem strs_are : ∀ {vs : List Value}, (∀ v ∈ vs, ∃ z t, v = Value.str z t) → PyProof.Rows.StrsAre vs (vs.map toS)
  | [], _ => .nil
  | v :: vs, h => by
    obtain ⟨z, t, rfl⟩ := h v List.mem_cons_self
    exact .cons z t (strs_are fun u m => h u (List.mem_cons_of_mem _ m))
theorem isStrOf_of {z : Str} {v : Value} (h : Value.isStrOf z v = true) : ∃ t, v = Value.str z t := by
  cases v <;> simp [Value.isStrOf, Value.isStr] at h
  subst h
  exact ⟨_, rfl⟩
theorem sorted_setQ {A : Around} {E : Value → Shared → Prop} {s : Shared} {a : Addr} {S : Str → Bool} {n : Nat} {Q : Value → Shared → Prop} (hq : SetQ (strKind P w) s.heap a S n) (hA : A.handled = none) (hn : n < 64)
    (h : ∀ (s' : Shared) (p : Nat) (out : Array Value) (c : Nat) (ys : List Str), (∀ (b : Addr) (o : Obj), s.heap.get? b = some o → s'.heap.get? b = some o) → s'.gens = s.gens → s'.os = s.os → s.heap.objs.size ≤ p →
      s'.heap.get? p = some (PyProof.Rows.seqObj "list" out c) → PyProof.Rows.StrsAre out.toList ys → PyProof.Rows.sortedS ys = true → ys.Nodup → (∀ z, z ∈ ys ↔ S z = true) → ys.length = n → Q (Value.ref p) s') :
    wpAny (model P w) A (call (Value.builtin "sorted") [Value.ref a]) Q E s := by
  obtain ⟨o, es, ep, t, ho, hex, hd, hel, hnd, hm, hsb, hf, hsz, hr, hl⟩ := hq
  refine Calls.call_function_entry PyProof.Rows.kind_sorted PyProof.Rows.plain_sorted PyProof.Rows.entry_sorted (PyProof.Rows.args_sorted1 _) ?_
  unfold Builtin.sorted
  refine wpAny_bind ?_
  unfold checkCount
  refine wpAny_ite_false rfl ?_
  refine wpAny_ite_false rfl ?_
  refine wpAny_ite_false rfl (wpAny_pure ?_)
  refine wpAny_bind (collect_set (A := A.in1) hA ⟨o, ho, hex.1, hd⟩ hf hsb hr hl fun s1 out k1 z1 g1 o1 pm => ?_)
  have hlen : out.length = n := by
    have e := pm.length_eq
    rw [List.length_map] at e
    rw [e, ← hsz]
    exact Array.length_toList
  have ha : ∀ e ∈ es.toList, ∃ t, e.2 = Value.str (toS e.2) t := fun e m => by
    obtain ⟨⟨k, hk, _⟩, _⟩ := hel e m
    obtain ⟨t, ht⟩ := isStrOf_of hk
    rw [ht]
    exact ⟨t, rfl⟩
  have hs := strs_are (vs := out) fun v m => by
    obtain ⟨e, me, rfl⟩ := List.mem_map.mp (pm.mem_iff.mp m)
    obtain ⟨t, ht⟩ := ha e me
    exact ⟨_, t, ht⟩
  have nd : (out.map toS).Nodup := by
    have n1 : ((es.toList.map (·.2)).map toS).Nodup := by
      rw [List.map_map, List.Nodup, List.pairwise_map]
      refine (List.Pairwise.and_mem.mp hnd).imp fun {x y} ⟨mx, my, hxy⟩ e => ?_
      obtain ⟨t1, h1⟩ := ha x mx
      obtain ⟨t2, h2⟩ := ha y my
      have i1 : (strKind P w).is (toS x.2) x.2 = true := by rw [h1]; exact beq_self_eq_true _
      have i2 : (strKind P w).is (toS x.2) y.2 = true := by
        have e : toS x.2 = toS y.2 := e
        rw [e, h2]
        exact beq_self_eq_true _
      rw [hxy _ i1] at i2
      cases i2
    exact (pm.map toS).nodup_iff.mpr n1
  have mem : ∀ z, z ∈ out.map toS ↔ S z = true := fun z => by
    rw [hm]
    constructor
    · intro m
      obtain ⟨v, mv, rfl⟩ := List.mem_map.mp m
      obtain ⟨e, me, rfl⟩ := List.mem_map.mp (pm.mem_iff.mp mv)
      obtain ⟨t, ht⟩ := ha e me
      exact ⟨e, me, by rw [ht]; exact beq_self_eq_true _⟩
    · rintro ⟨e, me, hz⟩
      obtain ⟨t, ht⟩ := isStrOf_of hz
      exact List.mem_map.mpr ⟨e.2, pm.mem_iff.mpr (List.mem_map.mpr ⟨e, me, rfl⟩), by rw [ht]; rfl⟩
  refine wpAny_bind (wpAny_newList ?_ (by rw [hlen]; exact small64 hn))
  have hp := Heap.get?_push_size s1.heap (o := { cls := Value.type "list", data := Data.seq out.toArray }) rfl
  have old : ∀ (b : Addr) (o : Obj), s.heap.get? b = some o → (s1.heap.push { cls := Value.type "list", data := Data.seq out.toArray }).get? b = some o ∧ b < s1.heap.objs.size := fun b o hb => ⟨Heap.get?_push_of_some _ (k1 b o hb), Heap.lt_size (k1 b o hb)⟩
  refine wpAny_bind (wpAny_holding (wpAny_call_entry PyProof.Rows.slot_list_sort ⟨_, hp, rfl⟩ PyProof.Rows.entry_list_sort ?_ (PyProof.Rows.args_list_sort _)))
  refine PyProof.Rows.list_sort_treeK PyProof.Rows.strKind_oneLt hp (PyProof.Rows.StrsAre.keysOf hs) (fun v1 v2 rest e => ?_) (by rw [hlen]; exact hn) fun st' pm2 so => ?_
  · exact PyProof.Rows.keyKind_strs (e ▸ hs)
  · obtain ⟨ss, h1, h2, h3⟩ := PyProof.Rows.sorted_out_str hs pm2 so
    obtain ⟨c, hc⟩ := PyProof.Rows.sortedHeap_at (out := Array.map (fun x => x.2) (PyProof.Rows.arrOf st')) hp
    generalize hO : Array.map (fun x => x.2) (PyProof.Rows.arrOf st') = O at *
    have old2 : ∀ (b : Addr) (o : Obj), s.heap.get? b = some o → (PyProof.Rows.sortedHeap (s1.heap.push { cls := Value.type "list", data := Data.seq out.toArray }) s1.heap.objs.size out O).get? b = some o := fun b o hb => by
      obtain ⟨e1, e2⟩ := old b o hb
      have e3 : b < (s1.heap.push { cls := Value.type "list", data := Data.seq out.toArray }).objs.size := by
        rw [Heap.size_push]
        exact Nat.lt_succ_of_lt e2
      rw [PyProof.Rows.sortedHeap_old (Nat.ne_of_lt e2) e3]
      exact e1
    generalize PyProof.Rows.sortedHeap (s1.heap.push { cls := Value.type "list", data := Data.seq out.toArray }) s1.heap.objs.size out O = HF at *
    have key := h { heap := HF, gens := s1.gens, drawn := s1.drawn, toks := s1.toks, os := s1.os } s1.heap.objs.size _ c ss old2 g1 o1 z1 hc h1 h3 (h2.nodup_iff.mpr nd) (fun z => by rw [h2.mem_iff, mem]) (by rw [h2.length_eq, List.length_map, hlen])
    refine ⟨Value.none, rfl, ?_⟩
    exact wpAny_pure ⟨_, rfl, key⟩
theorem strs_at : ∀ {vs : List Value} {zs : List Str} {i : Nat} {v : Value}, PyProof.Rows.StrsAre vs zs → vs[i]? = some v → ∃ z t, zs[i]? = some z ∧ v = Value.str z t
  | _, _, 0, _, .cons y t _, e => by
    have e : some (Value.str y t) = some _ := e
    cases e
    exact ⟨y, t, rfl, rfl⟩
  | _, _, i + 1, _, .cons y t h, e => strs_at (i := i) h e
/-- the set that set(words) makes -/
def SetQO (P : Program) (w : World) (a : Addr) (zs : List Str) : HO := .ext fun h => ∃ c, c ≤ zs.length ∧ SetQ (strKind P w) h a (fun j => decide (j ∈ zs)) c
theorem setQO_ok {H : Hp} {h : Heap} {a : Addr} {zs : List Str} {c : Nat} (hc : c ≤ zs.length) (q : SetQ (strKind P w) h a (fun j => decide (j ∈ zs)) c) : ObjOk P w H h a (SetQO P w a zs) := by
  unfold SetQO
  rw [ObjOk.eq_13]
  exact ⟨⟨c, hc, q⟩, ⟨q.choose, q.choose_spec.choose_spec.choose_spec.choose_spec.1⟩, fun h1 h2 ⟨c, hc, q⟩ k => ⟨c, hc, q.at k⟩⟩
def rSetOfS (K : W.Frag) (P : Program) (w : World) : List V → Hp → VK → Prop := fun xs H Q => ∃ (l : Addr) (zs : List Str), xs = [V.ref l] ∧ SqL K H l (zs.map V.str) ∧ zs.length < 1000 ∧ ∀ a, H a = none → Q (.ref a) (upd H a (SetQO P w a zs))
theorem cr_setOfS {X : Cx} (hc : X.calm = true) : CallR X (Value.type "set") (rSetOfS X.K X.prog X.w) := by
  intro pins s σ H xs us Q I rx hr
  obtain ⟨l, zs, rfl, hl, hlen, k⟩ := hr
  cases Vals.ref1 rx
  obtain ⟨its, hv, ⟨o, n, ho, hcl, hdi, hda⟩, _⟩ := I.list hl
  have hs := Vals.strs hv
  have e : its.length = zs.length := by
    have := Vals.length hv
    rw [List.length_map] at this
    exact this.symm
  refine call_setQ (knd := strKind X.prog X.w) (items := its.toArray) zs (I.ok.hd hc) ⟨o, ho, hcl, n, hda⟩ (by rw [List.size_toArray]; exact e) ?_ (fun i v hi => ?_) fun h' tk c hc' q old => ?_
  · have : (1000 : Nat) < scanBound := by decide
    omega
  · rw [List.getElem?_toArray] at hi
    obtain ⟨z, t, hz, rfl⟩ := strs_at hs hi
    exact ⟨z, hz, beq_self_eq_true _, rfl⟩
  · exact ⟨.ref s.heap.objs.size, _, I.laid old (Nat.le_refl _) (setQO_ok hc' q), rfl, k _ (HOk.fresh I.hok (Nat.le_refl _))⟩
def rSortedQ (P : Program) (w : World) : List V → Hp → VK → Prop := fun vs H Q => ∃ (a : Addr) (zs : List Str), vs = [V.ref a] ∧ H a = some (SetQO P w a zs) ∧ zs.length < 64 ∧
  ∀ (ys : List Str) (p : Addr), PyProof.Rows.sortedS ys = true → ys.Nodup → (∀ z, z ∈ ys ↔ z ∈ zs) → H p = none → Q (.ref p) (upd H p (.lst (ys.map V.str)))
theorem cr_sortedQ {X : Cx} (hc : X.calm = true) : CallR X (Value.builtin "sorted") (rSortedQ X.prog X.w) := by
  intro pins s σ H xs us Q I rx hr
  obtain ⟨a, zs, rfl, ha, hlen, k⟩ := hr
  cases Vals.ref1 rx
  have q := I.hok a _ ha
  unfold SetQO at q
  rw [ObjOk.eq_13] at q
  obtain ⟨c, hc', q⟩ := q.1
  refine sorted_setQ q (I.ok.hd hc) (by omega) fun s' p out e ys old hg hos hle hp hs so nd mem len => ?_
  have hn := HOk.fresh I.hok hle
  refine ⟨.ref p, _, ?_, rfl, k ys p so nd (fun z => by rw [mem, decide_eq_true_iff]) hn⟩
  obtain ⟨h', g', d', t', o'⟩ := s'
  cases hos
  have hg : g' = s.gens := hg
  refine I.call (ch := []) (Un.laid old hle hn) (HOk.laid I.hok old hle ?_) (hg ▸ I.bare) (fun b m => nomatch m)
  rw [ObjOk.eq_1]
  refine ⟨?_, out.toList, e, vals_of_strs hs, by rw [Array.toArray_toList]; exact hp⟩
  rw [List.length_map, len]
  exact small64 (by omega)
end
end Lo

set_option Elab.async false
set_option linter.all false
set_option maxRecDepth 100000
set_option maxHeartbeats 4000000
namespace Lo
open PySem PySem.Spec PyProof.Rows L2
/-! ### errors with fields, caught -/
/-- isinstance(e, c), e the error that the suite holds, of the class at D, with a dict or without -/
def rIsD (K : PySem.W.Frag) (D a : Addr) (cls : Value) (d : Option Addr) : List V → Hp → VK → Prop := fun xs H Q => ∃ (c : V) (cv : Value) (b : Bool), xs = [.ref a, c] ∧ cls = .ref D ∧ (∀ x, d = some x → ∃ fs, H x = some (.xd fs)) ∧ (∀ u, RelV c u → u = cv) ∧ PySem.W.kitOne K (.ref D) cv = some b ∧ Q (.bl b) H
theorem call_isD {X : Cx} {a D : Addr} {oe : Obj} {cls : Value} {d : Option Addr} {pn : List (Addr × Obj)} (C : ExcC X.K D) (hz : Zc cls d oe) (hf : ∃ vs, oe.data = .fields vs) : CallR (X.suite a ((a, oe) :: pn)) (.builtin "isinstance") (rIsD X.K D a cls d) := by
  intro pins s σ H xs us Q I r h
  obtain ⟨c, cv, b, rfl, hcl, hd, hcv, e, q⟩ := h
  subst hcl
  match us, r with
  | _, .cons rx (.cons rt .nil) =>
    obtain rfl := hcv _ rt
    cases rx
    have hp := (I.pin (a, oe) (List.mem_append.mpr (.inl List.mem_cons_self))).1
    obtain ⟨vs, hv⟩ := hf
    obtain ⟨od, J⟩ : ∃ od, PySem.W.InstAt s.heap a oe D od := by
      cases d with
      | none => exact ⟨none, hp, hz.1, by unfold PySem.W.notCls; rw [hv] <;> rfl, by rw [hz.2]; exact True.intro⟩
      | some x =>
        obtain ⟨fs, ex⟩ := hd x rfl
        obtain ⟨mA, hns, _⟩ := (show ObjOk X.prog X.w H s.heap x (.xd fs) from I.hok x _ ex)
        obtain ⟨o, ho, _⟩ := lookIn_ns hns
        exact ⟨some o, hp, hz.1, by unfold PySem.W.notCls; rw [hv] <;> rfl, by rw [hz.2]; exact ho⟩
    obtain ⟨cd, hcd, _⟩ := PySem.W.any_some C.hd
    exact PySem.W.kia_one (PySem.W.kitx_exc (by rw [hcd]; rfl) C.hg C.hk C.hs C.ha C.hn C.ht C.hm) I.kIn J e (fun z => nomatch z) fun tk => ⟨.bl b, H, I.kept (t' := tk) fun _ _ z => z, rfl, q⟩
theorem list_1 {α : Type} {us : List α} {a : Str} (h : us.length = [a].length) : ∃ x, us = [x] := match us, h with | [x], _ => ⟨x, rfl⟩
theorem list_2 {α : Type} {us : List α} {a b : Str} (h : us.length = [a, b].length) : ∃ x y, us = [x, y] := match us, h with | [x, y], _ => ⟨x, y, rfl⟩
theorem list_3 {α : Type} {us : List α} {a b c : Str} (h : us.length = [a, b, c].length) : ∃ x y z, us = [x, y, z] := match us, h with | [x, y, z], _ => ⟨x, y, z, rfl⟩
/-! ### C(e, .., k = v, ..) -/
structure OwnK (P : Program) (w : World) (K : PySem.W.Frag) (mg : Str → Option Value) (base : Heap) (k : Nat) (x : Str) (C : Addr) (ps : List Str) (n : Nat) (ks : List Str) (gV : List V → List V → List V) (sp : Sp) : Prop where
  ex : ∃ f fd g, FnOk P w K mg base (L2.CX P w) k f fd ps sp ∧ Mk K C f ∧ mg x = some (.ref C) ∧ KBn K fd ps (n + 1) ks g gV
def tOwnK (C : Addr) (n m : Nat) (sp : Sp) (gV : List V → List V → List V) (E : L2.St → XK) (t tk : TA) : TE := fun σ H Q => t σ H fun vs H1 => tk σ H1 fun zs H2 => vs.length = n ∧ zs.length = m ∧ ∀ x dx, H2 x = none → H2 dx = none → dx ≠ x →
  sp (gV (.ref x :: vs) zs) (upd (upd H2 dx (.own x)) x (.ins C dx [])) (fun v H3 => v = .non ∧ Q (.ref x) H3) (E σ)
theorem pe_ownk {X : Cx} {k n : Nat} {C : Addr} {ps ks : List Str} {sp : Sp} {E : L2.St → XK} {x : Str} {p pos : Pos} {e : Expr} {es : List Expr} {kws : List Keyword} {t tk : TA} {gV : List V → List V → List V} (O : OwnK X.prog X.w X.K X.mg X.base k x C ps n ks gV sp) (hr : Room (k + 1) X.A) (hg : Gl X x)
    (hx : ∀ σ, PassesAt (L2.CX X.prog X.w) X σ (E σ)) (ha : PA X (e :: es) t) (hkw : PK X kws tk)
    (hall : (backToKw pos (keywordEach kws X.env)).all (·.1.isSome) = true := by rfl) (hks : (backToKw pos (keywordEach kws X.env)).filterMap (·.1) = ks := by rfl) (hdb : (x == ("__debug__" : Str)) = false := by decide)
    (he : starEach (e :: es) X.env = (false, eval e X.env) :: starEach es X.env := by rfl) (hpl : ((backTo pos (starEach (e :: es) X.env)).any (·.1) || (backToKw pos (keywordEach kws X.env)).any (·.1.isNone)) = false := by rfl) :
    PE X (.Call (.Name x p) (e :: es) kws pos) (tOwnK C n ks.length sp gV E t tk) := by
  obtain ⟨f, fd, g, F, M, hm, hb⟩ := O.ex
  constructor
  intro pins s σ H Q I h
  apply wpAny_Call_Name_kw (ld_glob I hg hm ?_ hdb)
  apply PySem.W.callWith_KW (h₀ := X.base) I.ok.mod.kin M.kp hall ?_ hpl he
  apply thn (ha.run pos pins s σ H _ I h)
  rintro us s1 ⟨vs, H1, I1, r, q⟩
  apply thn (hkw.run pos pins s1 σ H1 _ I1 q)
  rintro ws s2 ⟨zs, H2, I2, rz, l1, l2, q2⟩
  refine ⟨I2.kIn, ?_⟩
  rw [hks]
  have hq := q2 (s2.heap.objs.size + 1) s2.heap.objs.size (I2.hok.fresh (Nat.le_succ _)) (I2.hok.fresh (Nat.le_refl _)) (Nat.ne_of_lt (Nat.lt_succ_self _))
  have I3 := Inv.made (C := C) I2
  have r1 : Vals (V.ref (s2.heap.objs.size + 1) :: vs) (Value.ref (s2.heap.objs.size + 1) :: us) := .cons rfl r
  have n1 : (Value.ref (s2.heap.objs.size + 1) :: us).length = n + 1 := by rw [List.length_cons, ← r.length, l1]
  have run := F.run _ X.stack _ _ ⟨Value.ref (s2.heap.objs.size + 1) :: us, ks.zip ws⟩ _ _ _ (E σ) (hr.make C us (ks.zip ws)) (I3.env0.make C us (ks.zip ws)) (hb.to _ (Value.ref (s2.heap.objs.size + 1) :: us) ws I3.kIn n1 (rz.length.symm.trans l2)) (hb.rel r1 rz) hq
  refine wpAny_call (make_map (f := f) I2.kIn M.makes M.init (beq_iff_eq.mp M.fn) (codeAny_mono run ?_))
  rintro (e | fl) s' hq'
  · exact hx σ pins _ _ e s' I3 hq'
  · cases fl with
    | ret u =>
      obtain ⟨v, H', I4, rv, ev, q3⟩ := I3.after hq'
      subst ev
      exact ⟨rv, ⟨V.ref (s2.heap.objs.size + 1), H', I4, rfl, q3⟩⟩
    | next => exact hq'.elim
    | brk => exact hq'.elim
    | cont => exact hq'.elim
theorem vals_rev {vs : List V} {us : List Value} (h : Vals vs us) : Vals vs.reverse us.reverse := by
  induction h with
  | nil => exact .nil
  | cons r _ ih =>
    rw [List.reverse_cons, List.reverse_cons]
    exact ih.append (.cons r .nil)
theorem hq_nil {F : Str × V → Prop} : ∀ q ∈ ([] : List (Str × V)), F q := fun _ h => by cases h
theorem hq_cons {F : Str × V → Prop} {p : Str × V} {l : List (Str × V)} (h : F p) (k : ∀ q ∈ l, F q) : ∀ q ∈ p :: l, F q := fun q m => by
  rcases List.mem_cons.mp m with rfl | m
  · exact h
  · exact k q m
end Lo
namespace Lo
open PySem PySem.Spec PyProof.Rows L2
theorem iteBT {b : Bool} {A B : Prop} (h : b = true) (k : A) : if b = true then A else B := by rw [if_pos h]; exact k
theorem iteBF {b : Bool} {A B : Prop} (h : b = false) (k : B) : if b = true then A else B := by rw [if_neg (by rw [h]; decide)]; exact k
/-- a whole number from l to 1000000 -/
def wholeB (v : V) (l : Int) : Bool := match v with
  | .int i => decide (l ≤ i) && decide (i ≤ 1000000)
  | _ => false
/-! ### flat values compared -/
def dat : V → PyData
  | .non => .none | .bl b => .bool b | .int i => .int i | .str z => .str z
  | _ => .none
/-- None, a bool, an int, a text of sound signs -/
def fdB : V → Bool
  | .non => true | .bl _ => true | .int _ => true | .str z => PyData.strOk z
  | _ => false
theorem fd_flat {v : V} (h : fdB v = true) : flatV v = true := by
  cases v <;> first | rfl | cases h
theorem fd_all {K : PySem.W.Frag} {H : Hp} : ∀ {vs : List V}, vs.all fdB = true → DpAll K H vs (vs.map dat) ∧ PyData.canLayAll0 (vs.map dat) = true ∧ PyData.depthAll (vs.map dat) = 0
  | [], _ => ⟨.nil, rfl, rfl⟩
  | v :: vs, h => by
    obtain ⟨h1, h2⟩ := Bool.and_eq_true_iff.mp (show (fdB v && vs.all fdB) = true from h)
    obtain ⟨a, b, c⟩ := fd_all (K := K) (H := H) h2
    have one : Dp K H v (dat v) ∧ (dat v).canLay0 = true ∧ (dat v).depth = 0 := by
      cases v with
      | non => exact ⟨.non, rfl, rfl⟩
      | bl b => exact ⟨.bl b, rfl, rfl⟩
      | int i => exact ⟨.int i, rfl, rfl⟩
      | str z => exact ⟨.str z, h1, rfl⟩
      | _ => cases h1
    refine ⟨.cons one.1 a, ?_, ?_⟩
    · show ((dat v).canLay0 && PyData.canLayAll0 (vs.map dat)) = true
      rw [one.2.1, b]
      rfl
    · show max (dat v).depth (PyData.depthAll (vs.map dat)) = 0
      rw [one.2.2, c]
      rfl
theorem fd_tup {vs : List V} {K : PySem.W.Frag} {H : Hp} (h : vs.all fdB = true) : (PyData.tuple (vs.map dat)).canLay0 = true ∧ SeqAt.shaped (PyData.tuple (vs.map dat)) = true := by
  obtain ⟨_, b, c⟩ := fd_all (K := K) (H := H) h
  refine ⟨b, ?_⟩
  unfold SeqAt.shaped
  rw [show (PyData.tuple (vs.map dat)).canLay0 = true from b, Bool.true_and]
  refine decide_eq_true ?_
  show PyData.depthAll (vs.map dat) + 1 ≤ 64
  rw [c]
  decide
/-- t != u, tuples of the same flat values -/
theorem neTF {K : PySem.W.Frag} {H : Hp} {p q : Addr} {vs : List V} {Q : VK} (hp : H p = some (.tup vs)) (hq : H q = some (.tup vs)) (h : vs.all fdB = true) (k : Q (.bl false) H) : rNeD K (.ref p) (.ref q) H Q := by
  obtain ⟨c, s⟩ := fd_tup (K := K) (H := H) h
  have d := (fd_all (K := K) (H := H) h).1
  refine ⟨_, _, .tup (SqT.of hp) d, .tup (SqT.of hq) d, s, s, ?_⟩
  rw [SeqAt.eqv_refl _ c]
  exact k
theorem eqTF {K : PySem.W.Frag} {H : Hp} {p q : Addr} {vs : List V} {Q : VK} (hp : H p = some (.tup vs)) (hq : H q = some (.tup vs)) (h : vs.all fdB = true) (k : Q (.bl true) H) : rEqD K (.ref p) (.ref q) H Q := by
  obtain ⟨c, s⟩ := fd_tup (K := K) (H := H) h
  have d := (fd_all (K := K) (H := H) h).1
  refine ⟨_, _, .tup (SqT.of hp) d, .tup (SqT.of hq) d, s, s, ?_⟩
  rw [SeqAt.eqv_refl _ c]
  exact k
/-- one of a list at a place that was drawn -/
theorem at_mem {xs : List V} {d : Int} (h0 : 0 ≤ d) (h1 : d < (xs.length : Nat)) : ∃ v, atI xs d = some v ∧ v ∈ xs := by
  obtain ⟨D, rfl⟩ := Int.eq_ofNat_of_zero_le h0
  have hD : D < xs.length := by omega
  exact ⟨xs[D], atI_nat (by simp [hD]), List.getElem_mem hD⟩
end Lo

set_option Elab.async false
set_option linter.all false
set_option maxRecDepth 100000
set_option maxHeartbeats 4000000
namespace Lo
open PySem PySem.Spec PyProof.Rows L2
/-! ### own errors as values -/
def tExV (C : Addr) (fs : List Str) (ta : TA) : TE := fun σ H Q => ta σ H fun us H1 => us.length = fs.length ∧ fs.length ≤ 100 ∧
  ∀ (a d : Addr) (H2 : Hp), H1 a = none → H1 d = none → d ≠ a → Same H1 H2 → H2 a = some (exo a C (some d)) → H2 d = some (exd d (fs.zip us).reverse) → Q (.ref a) H2
theorem pe_exv {X : Cx} {x : Str} {C : Addr} {fs : List Str} {e : Expr} {es : List Expr} {ta : TA} {p pos : Pos} (O : OwnE X.prog X.w X.K X.mg X.base x C fs) (hr : Room 2 X.A) (hg : Gl X x) (ha : PA X (e :: es) ta)
    (hdb : (x == ("__debug__" : Str)) = false := by decide) (he : starEach (e :: es) X.env = (false, eval e X.env) :: starEach es X.env := by rfl) (hpl : (backTo pos (starEach es X.env)).any (·.1) = false := by rfl) :
    PE X (.Call (.Name x p) (e :: es) [] pos) (tExV C fs ta) := by
  obtain ⟨f, fd, ps, G, hi, ht, hm, hb⟩ := O.ex
  obtain ⟨nm, q, N, bs, bm, sn, sub, ab, col, dd, k0, k1, k2, k3, k5, hC, hbm⟩ := O.cl.cls
  constructor
  intro pins s σ H Q I h
  apply wpAny_Call_Name_kw (ld_glob I hg hm ?_ hdb)
  apply PySem.W.callWith_K (h₀ := X.base) I.ok.mod.kin O.cl.kC ?_ he hpl
  apply thn (ha.run pos pins s σ H _ I h)
  rintro us ⟨hp, g, dr, tk, os⟩ ⟨vs, H1, I1, r1, hl, h100, q1⟩
  refine ⟨I1.kIn, ?_⟩
  have sz : hp.objs.size ≤ hp.objs.size + 1 := Nat.le_succ _
  have hn : H1 (hp.objs.size + 1) = none := I1.hok.fresh sz
  have old : ∀ b o, hp.get? b = some o → ((hp.push (PySem.W.kdv_tup us)).push (PySem.HandSPX.excO C hp.objs.size)).get? b = some o := fun b o e =>
    Heap.get?_push_of_some _ (Heap.get?_push_of_some _ e)
  have new : ((hp.push (PySem.W.kdv_tup us)).push (PySem.HandSPX.excO C hp.objs.size)).get? (hp.objs.size + 1) =
      some (PySem.HandSPX.excO C hp.objs.size) := by heap_get
  have I2 := I1.laid (t' := tk) old sz (exo_ok (P := X.prog) (w := X.w) (H := upd H1 (hp.objs.size + 1) (exo (hp.objs.size + 1) C none)) new)
  have hsp : spErr C fs (.ref (hp.objs.size + 1) :: (vs ++ [])) (upd H1 (hp.objs.size + 1) (exo (hp.objs.size + 1) C none)) (fun v H2 => v = .non ∧ Q (.ref (hp.objs.size + 1)) H2) (fun _ _ _ => False) :=
    ⟨_, vs, by rw [List.append_nil], hl, upd_same, fun dx H2 nd ne ea ed sm => ⟨rfl, q1 _ dx H2 hn (by rw [upd_ne ne] at nd; exact nd) ne
      (fun b o e => sm b o (by rw [upd_ne (ne_of_none e hn)]; exact e) (ne_of_none e hn)) ea ed⟩⟩
  have r2 : Vals (V.ref (hp.objs.size + 1) :: (vs ++ [])) (Value.ref (hp.objs.size + 1) :: (us ++ [])) := .cons rfl (r1.append .nil)
  have lps : (Value.ref (hp.objs.size + 1) :: us ++ []).length = ps.length := by
    have e := r2.length
    rw [G.len _ _ _ _ hsp] at e
    exact e.symm
  have lus : us.length ≤ sizeLine := by rw [← Paired.length r1, sizeLine_eq]; omega
  have run := G.run _ X.stack _ _ ⟨Value.ref (hp.objs.size + 1) :: us, []⟩ _ _ _ (fun _ _ _ => False) (hr.make C us []) (I2.env0.make C us []) (hb _ (Value.ref (hp.objs.size + 1) :: us) I2.kIn lps) r2 hsp
  refine wpAny_call (PySem.HandSPX.call_own F.excBase_ValueError (fun Y => PySem.HandSPX.refsVE_contains Y bm hbm) (I1.kIn _ _ hC) (PySem.W.looks_findIn I1.kIn hi) (fun self => PySem.W.bind_fn I1.kIn self ht) lus (codeAny_mono run ?_))
  rintro (er | fl) s' hq'
  · exact (show Passes (L2.CX X.prog X.w) X (fun _ _ _ => False) from passL) pins σ _ _ er s' I2 hq'
  · cases fl with
    | ret u =>
      obtain ⟨v, H', I3, rv, ev, q3⟩ := I2.after hq'
      subst ev
      exact ⟨rv, ⟨.ref (hp.objs.size + 1), H', I3, rfl, q3⟩⟩
    | next => exact hq'.elim
    | brk => exact hq'.elim
    | cont => exact hq'.elim
/-- C(), C without own __init__ -/
def tExV0 (C : Addr) : TE := fun _ H Q => ∀ a : Addr, H a = none → Q (.ref a) (upd H a (exo a C none))
theorem pe_exv0 {X : Cx} {C : Addr} {bmB : List Value} {B newId initId : String} {x : Str} {p pos : Pos} (F : ExcBaseFacts B newId initId bmB) (q : PySem.W.excIn X.K C bmB newId = true) (gC : X.mg x = some (.ref C))
    (kC : PySem.W.keepIn X.K (.ref C) = true) (hg : Gl X x) (hdb : (x == ("__debug__" : Str)) = false := by decide) : PE X (.Call (.Name x p) [] [] pos) (tExV0 C) := by
  constructor
  intro pins s σ H Q I h
  apply wpAny_Call_Name_kw (ld_glob I hg gC ?_ hdb)
  apply PySem.W.callWith_K0 I.kIn kC
  obtain ⟨bm, N, nm, qn, bs, hdct, sn, sub, ab, col, dd, k0, k1, k2, k3, k5, mN, hC, hN, hni, T⟩ := exc_obj I.kIn q
  refine wpAny_call_exc_subT F T hC hN hni (fun h' e hm => ?_) (Nat.zero_le _)
  obtain ⟨t, he, _, _⟩ := hm.there
  have hn := I.hok.gone hm.new
  exact ⟨.ref e, _, I.laidN (t' := s.toks) hm.keeps hm.new hn (exo_ok he), rfl, h e hn⟩
/-- x.f, x an own error -/
def tExF (K : PySem.W.Frag) (f : Str) (te : TE) : TE := fun σ H Q => te σ H fun x H1 => ∃ (a C d : Addr) (fs : List (Str × V)) (v : V), x = .ref a ∧ XfC K C ∧ PySem.W.findIn K (.ref C) f = some none ∧ H1 a = some (exo a C (some d)) ∧ H1 d = some (exd d fs) ∧ fs.lookup f = some v ∧ Q v H1
theorem pe_exf {X : Cx} {K : PySem.W.Frag} {e : Expr} {te : TE} {pos : Pos} {f : Str} (he : PE X e te) (hK : X.K = K) (hb : attributeBase e f X.env (eval e X.env) = eval e X.env := by rfl) : PE X (.Attribute e f pos) (tExF K f te) := by
  subst hK
  constructor
  intro pins s σ H Q I h
  apply attr_of hb
  apply thn (he.run pins s σ H _ I h)
  rintro u s1 ⟨x, H1, I1, rx, a, C, d, fs, v, ex, T, hno, ea, ed, l, q⟩
  subst ex
  obtain rfl : u = Value.ref a := rx
  obtain ⟨t1, ho⟩ := exo_at I1.hok ea
  obtain ⟨mA, hns, hr⟩ := exd_at I1.hok ed
  obtain ⟨od, hod, hl⟩ := lookIn_ns hns
  obtain ⟨u, hu, ru⟩ := RelO.some_of (v := v) (o := mA f) (by rw [← l]; exact hr f)
  exact HandSPX.exc_get I1.kIn ⟨ho, rfl, rfl, hod⟩ T.ga T.gg T.exC (PySem.W.findObj_own T.hdC hno rfl (by rw [hl, hu])) (handed_of ru) ⟨v, H1, I1.tok _, ru, q⟩
/-- isinstance(x, c), x an own error -/
def rIsX (K : PySem.W.Frag) : List V → Hp → VK → Prop := fun xs H Q => ∃ (a C : Addr) (od : Option Addr) (c : V) (cv : Value) (b : Bool), xs = [.ref a, c] ∧ H a = some (exo a C od) ∧ (∀ d, od = some d → ∃ fs, H d = some (exd d fs)) ∧ ExcC K C ∧
  (∀ u, RelV c u → u = cv) ∧ PySem.W.kitOne K (.ref C) cv = some b ∧ Q (.bl b) H
theorem call_isX {X : Cx} : CallR X (.builtin "isinstance") (rIsX X.K) := by
  intro pins s σ H xs us Q I r h
  obtain ⟨a, C, od, c, cv, b, rfl, ea, hd, T, hcv, e, q⟩ := h
  match us, r with
  | _, .cons rx (.cons rt .nil) =>
    obtain rfl := hcv _ rt
    cases rx
    obtain ⟨t1, ho⟩ := exo_at I.hok ea
    obtain ⟨oo, J⟩ : ∃ oo, PySem.W.InstAt s.heap a { cls := .ref C, dict := od, data := .fields #[.ref t1, .none, .none, .none, .bool false, .none] } C oo := by
      cases od with
      | none => exact ⟨none, ho, rfl, rfl, True.intro⟩
      | some x =>
        obtain ⟨fs, ed⟩ := hd x rfl
        obtain ⟨mA, hns, _⟩ := exd_at I.hok ed
        obtain ⟨o, h1, _⟩ := lookIn_ns hns
        exact ⟨some o, ho, rfl, rfl, h1⟩
    obtain ⟨cd, hcd, _⟩ := PySem.W.any_some T.hd
    exact PySem.W.kia_one (PySem.W.kitx_exc (by rw [hcd]; rfl) T.hg T.hk T.hs T.ha T.hn T.ht T.hm) I.kIn J e (fun z => nomatch z) fun tk => ⟨.bl b, H, I.kept (t' := tk) fun _ _ z => z, rfl, q⟩
/-! ### sum of a list of bools -/
section
variable {P : Program} {w : World} {A : Around} {R : Result → Shared → Prop} {I : Addr} {fp wr : List Addr} {n : Nat} {Pv : Nat → Value → Prop} {St : Nat → Heap → Prop}
theorem sumB_loop (W : Walks P w A.in1 I fp wr n Pv St) (bv : Nat → Bool) (hv : ∀ i v, Pv i v → v = .bool (bv i)) (S : Addr) (hS : S ∉ fp) :
    ∀ (k i : Nat) (s : Shared) (tA : Tok) (c : Nat) (z : Int), (z = 0 ∨ z = 2) → n - i = k → i ≤ n → St i s.heap → s.heap.get? S = some { cls := .type "list", dict := none, data := .seq #[.int (preSum (fun j => if bv j = true then 1 else 0) i) tA] c, slots := #[] } →
    (∀ h' tk t', (∀ b o, b ∉ wr → b ≠ S → s.heap.get? b = some o → h'.get? b = some o) → R (.ok (.ret (.int (preSum (fun j => if bv j = true then 1 else 0) n) t'))) { s with heap := h', toks := tk }) →
    codeAny (model P w) A (.builtin "sum.loop" ⟨[.ref I, .ref S, rawInt z, rawInt 0], []⟩) R s := by
  have nS : S ∉ wr := fun h => hS (W.sub _ h)
  intro k
  induction k with
  | zero =>
    intro i s tA c z hz hk hi hst e hR
    obtain rfl : i = n := by omega
    apply codeAny_builtin F.entry_sum_loop
    rw [Around.under_plainId F.plain_sum_loop _]
    show wpAny _ A.in1 (seqItems? (.ref S) >>= _) _ _ s
    apply wpAny_bind
    apply wpAny_seqItems e rfl
    show wpAny _ A.in1 (tryCatch (pyNext (.ref I)) _ >>= _) _ _ s
    apply wpAny_bind
    apply wpAny_tryCatch
    refine W.done s _ _ hst fun h' tk hk' => ?_
    exact wpAny_pure (hR h' tk tA fun b o hb _ e => hk' b o hb e)
  | succ k ih =>
    intro i s tA c z hz hk hi hst e hR
    have lt : i < n := by omega
    apply codeAny_builtin F.entry_sum_loop
    rw [Around.under_plainId F.plain_sum_loop _]
    show wpAny _ A.in1 (seqItems? (.ref S) >>= _) _ _ s
    apply wpAny_bind
    apply wpAny_seqItems e rfl
    show wpAny _ A.in1 (tryCatch (pyNext (.ref I)) _ >>= _) _ _ s
    apply wpAny_bind
    apply wpAny_tryCatch
    refine W.item i s _ _ lt hst fun v h' tk hP hst' hk' => ?_
    obtain rfl := hv i v hP
    have e' := hk' S _ nS e
    have off : ∀ {b : Addr}, b ∈ fp → S ≠ b := fun hb q => hS (q ▸ hb)
    obtain ⟨y, hy⟩ : ∃ y : Int, (if bv i = true then (1 : Int) else 0) = y := ⟨_, rfl⟩
    obtain ⟨T, hT⟩ : ∃ T : Int, preSum (fun j => if bv j = true then 1 else 0) i = T := ⟨_, rfl⟩
    have e3 : preSum (fun j => if bv j = true then 1 else 0) (i + 1) = T + y := by
      show preSum (fun j => if bv j = true then 1 else 0) i + (if bv i = true then (1 : Int) else 0) = _
      rw [hy, hT]
    rw [hT] at e'
    have fin : ∀ (h2 : Heap) (z : Int) (tk2 tA2 : Tok) (c2 : Nat), (z = 0 ∨ z = 2) → (∀ b, b ≠ S → h2.get? b = h'.get? b) → h2.get? S = some { cls := .type "list", dict := none, data := .seq #[.int (T + y) tA2] c2, slots := #[] } →
        codeAny (model P w) A (.builtin "sum.loop" ⟨[.ref I, .ref S, rawInt z, rawInt 0], []⟩) R { s with heap := h2, toks := tk2 } := fun h2 z tk2 tA2 c2 hz k2 e2 =>
      ih (i + 1) _ tA2 c2 z hz (by omega) lt (W.frame _ _ _ hst' fun b hb o q => (k2 b (Ne.symm (off hb))).trans q) (by rw [e3]; exact e2) fun h3 tk3 t3 k3 => hR h3 tk3 t3 fun b o hb hs q => k3 b o hb hs ((k2 b hs).trans (hk' b o hb q))
    have slow : ∀ tk2 : Nat, wpAny (model P w) A.in1 (do
        updateSeq S fun _ => #[.int (T + y) tk2]
        letGo [Value.int T tA, Value.bool (bv i)]
        updateSeq S fun _ => #[.int (T + y) tk2]
        again (Code.builtin "sum.loop" ⟨[.ref I, .ref S, rawInt 2, rawInt 0], []⟩)) (fun x s' => match x with
          | .done f => R (.ok f) s'
          | .again c' => c'.quiet = true ∧ codeAny (model P w) A c' R s') (fun e s' => R (.error e) s') { s with heap := h', toks := tk + 1 } := fun tk2 => by
      apply wpAny_bind
      apply wpAny_updateSeq e' rfl
      have e2 := Heap.get?_update_self (Obj.mapSeq fun _ => #[Value.int (T + y) tk2]) e' rfl
      apply wpAny_bind
      apply wpAny_letGo
      apply wpAny_bind
      exact wpAny_updateSeq e2 rfl (wpAny_pure ⟨plainId_quiet F.plain_sum_loop _, fin _ 2 _ tk2 _ (.inr rfl) (fun b hb => (Heap.get?_update_other _ _ (Ne.symm hb)).trans (Heap.get?_update_other _ _ (Ne.symm hb))) (Heap.get?_update_self _ e2 rfl)⟩)
    rcases hz with rfl | rfl
    · show wpAny _ A.in1 (if (_ : Bool) = true then (mkInt (preSum (fun j => if bv j = true then 1 else 0) i + (if bv i = true then 1 else 0)) >>= _) else _) _ _ _
      rw [hy, hT]
      split
      · apply wpAny_bind
        apply wpAny_mkInt
        show wpAny _ A.in1 (updateSeq S (fun _ => #[.int (T + y) tk]) >>= _) _ _ _
        apply wpAny_bind
        exact wpAny_updateSeq e' rfl (wpAny_pure ⟨plainId_quiet F.plain_sum_loop _, fin _ 0 _ tk _ (.inl rfl) (fun b hb => Heap.get?_update_other _ _ (Ne.symm hb)) (Heap.get?_update_self _ e' rfl)⟩)
      · apply wpAny_bind
        apply wpAny_rule
        apply wpAny_bind
        refine wpAny_attempt (wpAny_holding (add_int_bool ?_))
        rw [hy]
        exact slow tk
    · show wpAny _ A.in1 ((holding [Value.bool (bv i)] (binaryOp .Add (.int (preSum (fun j => if bv j = true then 1 else 0) i) tA) (.bool (bv i)))).attempt >>= _) _ _ _
      rw [hT]
      apply wpAny_bind
      refine wpAny_attempt (wpAny_holding (add_int_bool ?_))
      rw [hy]
      exact slow tk
variable {E : Value → Shared → Prop} {s : Shared}
theorem sumB_raw {l : Addr} {bs : List Bool} {Q : Value → Shared → Prop} (hh : A.handled = none) (hl : s.heap.IsList l (bs.map Value.bool).toArray)
    (h : ∀ h' tk t', (∀ b o, s.heap.get? b = some o → h'.get? b = some o) → Q (.int (preSum (fun j => if bs.getD j false = true then 1 else 0) bs.length) t') { s with heap := h', toks := tk }) : wpAny (model P w) A (call (.builtin "sum") [.ref l]) Q E s := by
  have hlt : l < s.heap.objs.size := by obtain ⟨_, e, _⟩ := hl; exact Heap.lt_size e
  apply call_function_tree F.kind_sum F.plain_sum F.entry_sum (F.args_sum1 _)
  unfold Builtin.«sum»
  simp only [List.length_cons, List.length_nil]
  rw [if_neg (by decide)]
  apply wpAny_bind
  refine wpAny_of_eq (show Builtin.Builtins.bindParams "sum" ["start"] 0 { } = pure [none] from rfl) ?_
  apply wpAny_bind
  apply wpAny_pyIter_list hl
  have hn : l ≠ s.heap.objs.size := Nat.ne_of_lt hlt
  apply wpAny_bind
  apply wpAny_mkInt
  apply wpAny_bind
  apply wpAny_pure
  simp only [List.forIn_cons, List.forIn_nil]
  refine wpAny_bind (wpAny_bind (wpAny_bind (wpAny_isInstance (T := "int") (b := false) (typeIs_int _ _ _) PySem.sub_int_str ?_)))
  rw [if_neg Bool.false_ne_true]
  refine wpAny_pure (wpAny_bind (wpAny_bind (wpAny_isInstance (T := "int") (b := false) (typeIs_int _ _ _) PySem.sub_int_bytes ?_)))
  rw [if_neg Bool.false_ne_true]
  refine wpAny_pure (wpAny_bind (wpAny_bind (wpAny_isInstance (T := "int") (b := false) (typeIs_int _ _ _) PySem.sub_int_bytearray ?_)))
  rw [if_neg Bool.false_ne_true]
  apply wpAny_pure
  apply wpAny_pure
  refine wpAny_bind (wpAny_newObj_type ?_)
  have W := Walks.list (prog := P) (w := w) (A := A.in1) hh s.heap.objs.size l hn (bs.map Value.bool).toArray
  have hv : ∀ (i : Nat) (v : Value), (bs.map Value.bool).toArray[i]? = some v → v = .bool (bs.getD i false) := fun i v e => by
    rw [List.getElem?_toArray, List.getElem?_map] at e
    cases q : bs[i]? with
    | none => rw [q] at e; cases e
    | some b =>
      rw [q] at e
      cases e
      rw [List.getD_eq_getElem?_getD, q]
      rfl
  have size1 : ∀ o, (s.heap.push o).objs.size = s.heap.objs.size + 1 := fun o => Heap.size_push _ _
  have hn2 : (bs.map Value.bool).toArray.size = bs.length := by rw [List.size_toArray, List.length_map]
  refine wpAny_pure ⟨plainId_quiet F.plain_sum_loop _, sumB_loop W (fun j => bs.getD j false) hv _ ?_ _ 0 _ s.toks 0 0 (.inl rfl) rfl (Nat.zero_le _) ?_ (Heap.get?_push_size _ rfl) fun h' tk t' hk => ?_⟩
  · intro m
    rcases List.mem_cons.mp m with e | m
    · exact absurd ((size1 _).symm.trans e) (by omega)
    · rcases List.mem_cons.mp m with e | m
      · have q : s.heap.objs.size + 1 = l := (size1 _).symm.trans e
        have q2 : l < s.heap.objs.size := hlt
        rw [← q] at q2
        exact absurd (Nat.lt_of_succ_lt q2) (Nat.lt_irrefl _)
      · cases m
  · exact ⟨⟨_, Heap.get?_push_of_some _ (Heap.get?_push_size _ rfl), rfl, rfl⟩, (hl.push _).push _⟩
  · rw [hn2]
    refine h h' tk t' fun b o e => hk b o (fun m => ?_) (fun z => ?_) (Heap.get?_push_of_some _ (Heap.get?_push_of_some _ e))
    · rcases List.mem_cons.mp m with z | m
      · exact absurd (Heap.lt_size e) (by rw [z]; exact Nat.lt_irrefl _)
      · cases m
    · have lt := Heap.lt_size e
      rw [z] at lt
      have := size1 { cls := .type "list_iterator", data := .fields #[.ref l, .int 0 0] }
      exact absurd (show (s.heap.push { cls := .type "list_iterator", data := .fields #[.ref l, .int 0 0] }).objs.size < s.heap.objs.size from lt) (by omega)
end
def cntB (bs : List Bool) : Int := preSum (fun j => if bs.getD j false = true then 1 else 0) bs.length
def rSumB (K : PySem.W.Frag) : List V → Hp → VK → Prop := fun vs H Q => ∃ (a : Addr) (bs : List Bool), vs = [V.ref a] ∧ SqL K H a (bs.map V.bl) ∧ Q (.int (cntB bs)) H
theorem cr_sumB {X : Cx} (hc : X.calm = true) : CallR X (.builtin "sum") (rSumB X.K) := by
  intro pins s σ H vs us Q I r h
  obtain ⟨a, bs, rfl, hs, q⟩ := h
  obtain ⟨its, rv, hl, _⟩ := I.list hs
  rw [Vals.ref1 r]
  have e := rv.bls
  subst e
  exact sumB_raw (I.ok.hd hc) hl.isList fun h' tk t' hk => ⟨.int _, H, I.kept hk, ⟨_, rfl⟩, q⟩
/-! ### isinstance of the own errors among each other -/
structure ErrC (K : PySem.W.Frag) (C0 C : Addr) : Prop where
  ex : ∃ cd, PySem.W.clsIn K C = some cd ∧ cd.mro = [.ref C, .ref C0, .type "ValueError", .type "Exception", .type "BaseException", .type "object"] ∧ PySem.W.typeIn K (.ref C) = some (.type "type") ∧ ExcC K C
structure KitTab (K : PySem.W.Frag) (ca : Nat → Addr) (ns : List Nat) : Prop where
  ec : ∀ c ∈ ns, ExcC K (ca c)
  each : ∀ c ∈ ns, ∀ d ∈ ns, PySem.W.kitOne K (.ref (ca c)) (.ref (ca d)) = some (decide (c = d))
  base : ∀ c ∈ ns, PySem.W.kitOne K (.ref (ca c)) (.ref (ca 0)) = some true
  val : ∀ c ∈ ns, PySem.W.kitOne K (.ref (ca c)) (.type "ValueError") = some true
theorem ct_nil {F : Nat → Prop} : ∀ c ∈ ([] : List Nat), F c := fun _ h => by cases h
theorem ct_cons {K : PySem.W.Frag} {ca : Nat → Addr} {n : Nat} {l : List Nat} (h : ErrC K (ca 0) (ca n)) (k : ∀ c ∈ l, ErrC K (ca 0) (ca c)) : ∀ c ∈ n :: l, ErrC K (ca 0) (ca c) := fun c m => by
  rcases List.mem_cons.mp m with rfl | m
  · exact h
  · exact k c m
theorem inj_of {α β : Type} {f : α → β} : ∀ {l : List α}, (l.map f).Nodup → ∀ a ∈ l, ∀ b ∈ l, f a = f b → a = b
  | [], _, _, h, _, _, _ => by cases h
  | x :: l, h, a, ha, b, hb, e => by
    obtain ⟨h1, h2⟩ := List.nodup_cons.mp (show (f x :: l.map f).Nodup from h)
    rcases List.mem_cons.mp ha with e1 | ha2 <;> rcases List.mem_cons.mp hb with e2 | hb2
    · rw [e1, e2]
    · exact absurd (List.mem_map.mpr ⟨b, hb2, by rw [← e, e1]⟩) h1
    · exact absurd (List.mem_map.mpr ⟨a, ha2, by rw [e, e2]⟩) h1
    · exact inj_of h2 a ha2 b hb2 e
theorem kit_tab {K : PySem.W.Frag} {ca : Nat → Addr} {ns : List Nat} (nd : ((0 :: ns).map ca).Nodup) (h0 : ∃ cd, PySem.W.clsIn K (ca 0) = some cd ∧ PySem.W.typeIn K (.ref (ca 0)) = some (.type "type")) (h : ∀ c ∈ ns, ErrC K (ca 0) (ca c)) : KitTab K ca ns := by
  have sub : ∀ (c : Nat) (D : Value), c ∈ ns → PySem.W.subIn K (.ref (ca c)) D = some ([.ref (ca c), .ref (ca 0), .type "ValueError", .type "Exception", .type "BaseException", .type "object"].contains D) := fun c D hc => by
    obtain ⟨⟨cd, h1, h2, h3, _⟩⟩ := h c hc
    show PySem.W.mroIn K (ca c) D = _
    unfold PySem.W.mroIn
    rw [h1, Option.bind_some, h2]
    rfl
  have kc : ∀ (c d : Nat), c ∈ ns → (∃ cd, PySem.W.clsIn K (ca d) = some cd ∧ PySem.W.typeIn K (.ref (ca d)) = some (.type "type")) →
      PySem.W.kitOne K (.ref (ca c)) (.ref (ca d)) = some ([Value.ref (ca c), .ref (ca 0), .type "ValueError", .type "Exception", .type "BaseException", .type "object"].contains (.ref (ca d))) := fun c d hc ⟨cd, h1, h2⟩ => by
    unfold PySem.W.kitOne
    by_cases e : ca c = ca d
    · rw [if_pos (by rw [e]; exact beq_self_eq_true _), e]
      simp
    · rw [if_neg (by simpa using e)]
      show (if ((PySem.W.clsIn K (ca d)).isSome && PySem.W.typeIn K (.ref (ca d)) == some (.type "type")) = true then PySem.W.subIn K (.ref (ca c)) (.ref (ca d)) else none) = _
      rw [h1, h2]
      rw [if_pos (by simp), sub c _ hc]
  refine ⟨fun c hc => ?_, fun c hc d hd => ?_, fun c hc => ?_, fun c hc => ?_⟩
  · obtain ⟨⟨_, _, _, _, e⟩⟩ := h c hc
    exact e
  · obtain ⟨⟨cd, h1, _, h3, _⟩⟩ := h d hd
    rw [kc c d hc ⟨cd, h1, h3⟩]
    have n0 : ca d ≠ ca 0 := fun e => by
      obtain ⟨a, _⟩ := List.nodup_cons.mp (show (ca 0 :: ns.map ca).Nodup from nd)
      exact a (List.mem_map.mpr ⟨d, hd, e⟩)
    congr 1
    by_cases e : c = d
    · subst e
      simp
    · have e2 : ca d ≠ ca c := fun q => e (inj_of (List.nodup_cons.mp (show (ca 0 :: ns.map ca).Nodup from nd)).2 c hc d hd q.symm)
      simp [e, n0, e2]
  · rw [kc c 0 hc h0]
    simp
  · unfold PySem.W.kitOne
    rw [if_neg (by simp)]
    show (if PySem.W.kitMeta "ValueError" = true then PySem.W.subIn K (.ref (ca c)) (.type "ValueError") else none) = _
    rw [if_pos (by decide +kernel), sub c _ hc]
    simp
/-- the numbers of the own errors but their base -/
abbrev ERRS : List Nat := [1, 4, 5, 6, 7, 8, 9, 10, 11, 12, 13, 14, 15, 16, 17, 18, 19, 20, 21]
def ErrO (ca : Nat → Addr) (H : Hp) (a : Addr) : Prop := ∃ c ∈ ERRS, ∃ od, H a = some (exo a (ca c) od) ∧ ∀ d, od = some d → ∃ fs, H d = some (exd d fs)
def ErrT (ca : Nat → Addr) (H : Hp) (t : V) : Prop := ∃ q a, t = .ref q ∧ H q = some (.tup [.ref a, .bl true]) ∧ ErrO ca H a
theorem exo_lst {e C : Addr} {d : Option Addr} {xs : List V} : exo e C d ≠ .lst xs := fun z => by
  have y : HO.ext _ = HO.lst xs := z
  cases y
theorem exd_lst {e : Addr} {fs : List (Str × V)} {xs : List V} : exd e fs ≠ .lst xs := fun z => by
  have y : HO.ext _ = HO.lst xs := z
  cases y
theorem ErrO.same {ca : Nat → Addr} {H H' : Hp} {a : Addr} (h : ErrO ca H a) (s : Same H H') : ErrO ca H' a :=
  let ⟨c, m, od, e, k⟩ := h; ⟨c, m, od, s _ _ e, fun d q => let ⟨fs, z⟩ := k d q; ⟨fs, s _ _ z⟩⟩
theorem ErrO.put {ca : Nat → Addr} {H H' : Hp} {a D : Addr} {xs : List V} (h : ErrO ca H a) (e : H D = some (.lst xs)) (s : Keep D H H') : ErrO ca H' a :=
  let ⟨c, m, od, q, k⟩ := h; ⟨c, m, od, s _ _ q (ne_of q e exo_lst), fun d y => let ⟨fs, z⟩ := k d y; ⟨fs, s _ _ z (ne_of z e exd_lst)⟩⟩
theorem ErrT.same {ca : Nat → Addr} {H H' : Hp} {t : V} (h : ErrT ca H t) (s : Same H H') : ErrT ca H' t :=
  let ⟨q, a, e, h1, h2⟩ := h; ⟨q, a, e, s _ _ h1, h2.same s⟩
theorem ErrT.put {ca : Nat → Addr} {H H' : Hp} {t : V} {D : Addr} {xs : List V} (h : ErrT ca H t) (e : H D = some (.lst xs)) (s : Keep D H H') : ErrT ca H' t :=
  let ⟨q, a, y, h1, h2⟩ := h; ⟨q, a, y, s _ _ h1 (ne_of h1 e fun z => nomatch z), h2.put e s⟩
/-- an error of class c with these fields -/
structure ErrF (ca : Nat → Addr) (H : Hp) (a : Addr) (c : Nat) (d : Addr) (fs : List (Str × V)) : Prop where
  at_ : H a = some (exo a (ca c) (some d))
  dd : H d = some (exd d fs)
theorem ErrF.same {ca : Nat → Addr} {H H' : Hp} {a d : Addr} {c : Nat} {fs : List (Str × V)} (h : ErrF ca H a c d fs) (s : Same H H') : ErrF ca H' a c d fs := ⟨s _ _ h.at_, s _ _ h.dd⟩
theorem ErrF.put {ca : Nat → Addr} {H H' : Hp} {a d D : Addr} {c : Nat} {fs : List (Str × V)} {xs : List V} (h : ErrF ca H a c d fs) (e : H D = some (.lst xs)) (s : Keep D H H') : ErrF ca H' a c d fs := ⟨s _ _ h.at_ (ne_of h.at_ e exo_lst), s _ _ h.dd (ne_of h.dd e exd_lst)⟩
theorem ErrF.o {ca : Nat → Addr} {H : Hp} {a d : Addr} {c : Nat} {fs : List (Str × V)} (h : ErrF ca H a c d fs) (m : c ∈ ERRS := by decide) : ErrO ca H a := ⟨c, m, some d, h.at_, fun _ q => by cases q; exact ⟨fs, h.dd⟩⟩
theorem eqLF {K : PySem.W.Frag} {H : Hp} {p q : Addr} {vs : List V} {Q : VK} (hp : H p = some (.lst vs)) (hq : H q = some (.lst vs)) (h : vs.all fdB = true) (k : Q (.bl true) H) : rEqD K (.ref p) (.ref q) H Q := by
  obtain ⟨c, s⟩ := fd_tup (K := K) (H := H) h
  have d := (fd_all (K := K) (H := H) h).1
  have c' : (PyData.list (vs.map dat)).canLay0 = true := c
  have s' : SeqAt.shaped (PyData.list (vs.map dat)) = true := s
  refine ⟨_, _, .lst (SqL.of hp) d, .lst (SqL.of hq) d, s', s', ?_⟩
  rw [SeqAt.eqv_refl _ c']
  exact k
end Lo
set_option Elab.async false
set_option linter.all false
set_option maxRecDepth 100000
set_option maxHeartbeats 4000000
local macro_rules | `(tactic| fail "lo_ne") => `(tactic| first
  | assumption
  | exact Ne.symm (by assumption))
local macro_rules | `(tactic| fail "lo_hq") => `(tactic| ((with_reducible show @Eq (Option L2.HO) _ _); first
  | (with_reducible exact L2.upd_same)
  | (with_reducible assumption)
  | exact Lo.sget (by with_reducible assumption) (by fail "lo_hq")
  | exact Lo.kget (by with_reducible assumption) (by fail "lo_ne") (by fail "lo_hq")
  | ((with_reducible show L2.upd _ _ _ _ = _); exact Lo.une (by fail "lo_ne") (by fail "lo_hq"))
  | assumption))
local macro_rules | `(tactic| fail "lo_R") => `(tactic| first
  | (with_reducible assumption)
  | exact Lo.rsame (by with_reducible assumption) (by fail "lo_R"))
local macro_rules | `(tactic| fail "lo_F") => `(tactic| first
  | (with_reducible assumption)
  | exact Lo.fsame (by with_reducible assumption) (by fail "lo_F")
  | exact Lo.tsame (by with_reducible assumption) (by fail "lo_F"))
local macro_rules | `(tactic| fail "lo_S") => `(tactic| first
  | (with_reducible assumption)
  | exact Lo.strans (by with_reducible assumption) (by fail "lo_S")
  | exact L2.Same.refl _)
local macro_rules | `(tactic| fail "lo_hp") => `(tactic| first
  | ((with_reducible show L2.SqT _ _ _ _); first | exact L2.SqT.of (by fail "lo_hq") | assumption)
  | ((with_reducible show L2.SqL _ _ _ _); first | exact L2.SqL.of (by fail "lo_hq") | assumption | exact L2.Same.seq (by assumption) (by fail "lo_hp")))
local macro_rules | `(tactic| fail "lo_mok") => `(tactic| first
  | exact Lo.mok_r (by decide)
  | exact Lo.mok_l (by decide)
  | exact Lo.mok_r (by omega)
  | exact Lo.mok_l (by omega)
  | assumption)
local macro_rules | `(tactic| fail "lo_cond") => `(tactic| first
  | (show PySem.IntMulOk _ _; fail "lo_mok")
  | (show (0 : Int) < _; first | decide | omega | assumption)
  | (show L2.CPow _ _; exact ⟨by decide, by decide, by first | decide | omega⟩)
  | (show Lo.CDivA _ _; exact ⟨by first | assumption | omega, by assumption⟩)
  | (show L2.CDivW _ _; exact ⟨by first | decide | omega, by first | decide | assumption⟩))
local macro_rules | `(tactic| fail "lo_lk") => `(tactic| ((with_reducible show @Eq (Option L2.V) _ _); first
  | exact Lo.lk0
  | exact Lo.lkn
  | exact Lo.lk1 (by decide +kernel) (by fail "lo_lk")))
/- one step of a reading that has one way only -/
local macro_rules | `(tactic| fail "lo_rd1") => `(tactic| first
  | (refine ⟨_, rfl, ?_⟩)
  | (refine ⟨_, _, rfl, rfl, (by fail "lo_cond"), ?_⟩)
  | (refine ⟨_, _, rfl, rfl, ?_⟩)
  | (refine ⟨_, _, _, _, rfl, rfl, (by fail "lo_hp"), Lo.ix_c (by rfl), ?_⟩)
  | (refine ⟨_, _, _, _, rfl, rfl, (by fail "lo_hq"), (by rfl), ?_⟩)
  | (refine ⟨_, _, _, _, _, rfl, (by fail "lo_hq"), (by fail "lo_cl"), (by fail "lo_na"), (by fail "lo_lk"), ?_⟩)
  | (refine ⟨_, _, _, _, rfl, (by fail "lo_hq"), (by fail "lo_cl"), (by fail "lo_na"), Nat.le_of_ble_eq_true rfl, ?_⟩)
  | (refine ⟨_, _, _, rfl, (by fail "lo_hq"), (by fail "lo_lk"), ?_⟩)
  | ((with_reducible show L2.rEqD _ (L2.V.ref _) (L2.V.ref _) _ _); refine Lo.eqT (by fail "lo_hq") (by fail "lo_hq") ?_)
  | ((with_reducible show L2.rNeD _ (L2.V.ref _) (L2.V.ref _) _ _); refine Lo.neT (by fail "lo_hq") (by fail "lo_hq") ?_)
  | (refine ⟨Or.inl ⟨rfl, _, (by fail "lo_hp")⟩, ?_⟩)
  | (refine Or.inl ⟨_, rfl, ?_⟩)
  | (refine Or.inr ⟨_, rfl, ?_⟩)
  | (refine ⟨rfl, ?_⟩)
  | (refine ⟨_, _, rfl, Or.inl (by fail "lo_hp"), ?_⟩)
  | (refine ⟨_, _, rfl, (by fail "lo_hp"), rfl, ?_⟩)
  | (refine ⟨_, _, rfl, ?_⟩)
  | (refine ⟨⟨_, (by fail "lo_hp")⟩, ?_⟩)
  | (refine ⟨Lo.line_le (Nat.le_of_ble_eq_true rfl), ?_⟩)
  | (refine ⟨⟨_, rfl⟩, _, rfl, rfl, True.intro, ?_⟩)
  | (with_reducible show L2.tNil _ _ _; dsimp only [L2.tNil]))
/- as many such steps as there are -/
local macro_rules | `(tactic| fail "rd") => `(tactic| repeat fail "lo_rd1")

namespace Lo
open PySem PySem.Spec PyProof.Rows L2
def top (i : Nat) : Stmt := PySem.Challenge.pw_lotcosts_k14_classes_of_errors.main.body.getD i (.Pass ⟨0, 0, 0, 0⟩)
structure Txt (K : PySem.W.Frag) (mg : Str → Option Value) (ca : Nat → Addr) : Prop where
  b_ValueError : mg "ValueError" = none
  b_abs : mg "abs" = none
  b_int : mg "int" = none
  b_isinstance : mg "isinstance" = none
  b_len : mg "len" = none
  b_list : mg "list" = none
  b_range : mg "range" = none
  b_sum : mg "sum" = none
  g_CostError : mg "CostError" = some (.ref (ca 0))
  g_NoRatio : mg "NoRatio" = some (.ref (ca 1))
  kp_NoRatio : PySem.W.keepIn K (.ref (ca 1)) = true
  ex_NoRatio : PySem.W.excIn K (ca 1) [.type "ValueError", .type "Exception", .type "BaseException", .type "object"] "ValueError.__new__" = true
  g_BadName : mg "BadName" = some (.ref (ca 4))
  ox_BadName : L2.OexC K (ca 4)
  xf_BadName : L2.XfC K (ca 4)
  nf_BadName_name : PySem.W.findIn K (.ref (ca 4)) "name" = some none
  g_NoPrice : mg "NoPrice" = some (.ref (ca 5))
  ox_NoPrice : L2.OexC K (ca 5)
  xf_NoPrice : L2.XfC K (ca 5)
  nf_NoPrice_name : PySem.W.findIn K (.ref (ca 5)) "name" = some none
  g_Negative : mg "Negative" = some (.ref (ca 6))
  ox_Negative : L2.OexC K (ca 6)
  xf_Negative : L2.XfC K (ca 6)
  nf_Negative_name : PySem.W.findIn K (.ref (ca 6)) "name" = some none
  g_BadEntry : mg "BadEntry" = some (.ref (ca 7))
  ox_BadEntry : L2.OexC K (ca 7)
  xf_BadEntry : L2.XfC K (ca 7)
  nf_BadEntry_day : PySem.W.findIn K (.ref (ca 7)) "day" = some none
  nf_BadEntry_number : PySem.W.findIn K (.ref (ca 7)) "number" = some none
  g_NoEntry : mg "NoEntry" = some (.ref (ca 8))
  ox_NoEntry : L2.OexC K (ca 8)
  xf_NoEntry : L2.XfC K (ca 8)
  nf_NoEntry_day : PySem.W.findIn K (.ref (ca 8)) "day" = some none
  nf_NoEntry_number : PySem.W.findIn K (.ref (ca 8)) "number" = some none
  g_BadRule : mg "BadRule" = some (.ref (ca 9))
  ox_BadRule : L2.OexC K (ca 9)
  xf_BadRule : L2.XfC K (ca 9)
  nf_BadRule_word : PySem.W.findIn K (.ref (ca 9)) "word" = some none
  g_Short : mg "Short" = some (.ref (ca 10))
  ox_Short : L2.OexC K (ca 10)
  xf_Short : L2.XfC K (ca 10)
  nf_Short_missing : PySem.W.findIn K (.ref (ca 10)) "missing" = some none
  g_NameTaken : mg "NameTaken" = some (.ref (ca 11))
  ox_NameTaken : L2.OexC K (ca 11)
  xf_NameTaken : L2.XfC K (ca 11)
  nf_NameTaken_name : PySem.W.findIn K (.ref (ca 11)) "name" = some none
  g_UnknownName : mg "UnknownName" = some (.ref (ca 12))
  ox_UnknownName : L2.OexC K (ca 12)
  xf_UnknownName : L2.XfC K (ca 12)
  nf_UnknownName_name : PySem.W.findIn K (.ref (ca 12)) "name" = some none
  g_NotEnough : mg "NotEnough" = some (.ref (ca 13))
  ox_NotEnough : L2.OexC K (ca 13)
  xf_NotEnough : L2.XfC K (ca 13)
  nf_NotEnough_day : PySem.W.findIn K (.ref (ca 13)) "day" = some none
  nf_NotEnough_number : PySem.W.findIn K (.ref (ca 13)) "number" = some none
  nf_NotEnough_missing : PySem.W.findIn K (.ref (ca 13)) "missing" = some none
  g_TooMany : mg "TooMany" = some (.ref (ca 14))
  ox_TooMany : L2.OexC K (ca 14)
  xf_TooMany : L2.XfC K (ca 14)
  nf_TooMany_day : PySem.W.findIn K (.ref (ca 14)) "day" = some none
  nf_TooMany_number : PySem.W.findIn K (.ref (ca 14)) "number" = some none
  nf_TooMany_left : PySem.W.findIn K (.ref (ca 14)) "left" = some none
  g_Contradiction : mg "Contradiction" = some (.ref (ca 15))
  ox_Contradiction : L2.OexC K (ca 15)
  xf_Contradiction : L2.XfC K (ca 15)
  nf_Contradiction_pair : PySem.W.findIn K (.ref (ca 15)) "pair" = some none
  g_NotPlain : mg "NotPlain" = some (.ref (ca 16))
  ox_NotPlain : L2.OexC K (ca 16)
  xf_NotPlain : L2.XfC K (ca 16)
  nf_NotPlain_day : PySem.W.findIn K (.ref (ca 16)) "day" = some none
  nf_NotPlain_number : PySem.W.findIn K (.ref (ca 16)) "number" = some none
  g_NotPossible : mg "NotPossible" = some (.ref (ca 17))
  kp_NotPossible : PySem.W.keepIn K (.ref (ca 17)) = true
  ex_NotPossible : PySem.W.excIn K (ca 17) [.type "ValueError", .type "Exception", .type "BaseException", .type "object"] "ValueError.__new__" = true
  g_Shut : mg "Shut" = some (.ref (ca 18))
  ox_Shut : L2.OexC K (ca 18)
  xf_Shut : L2.XfC K (ca 18)
  nf_Shut_day : PySem.W.findIn K (.ref (ca 18)) "day" = some none
  g_NotClosed : mg "NotClosed" = some (.ref (ca 19))
  ox_NotClosed : L2.OexC K (ca 19)
  xf_NotClosed : L2.XfC K (ca 19)
  nf_NotClosed_day : PySem.W.findIn K (.ref (ca 19)) "day" = some none
  g_NotTold : mg "NotTold" = some (.ref (ca 20))
  kp_NotTold : PySem.W.keepIn K (.ref (ca 20)) = true
  ex_NotTold : PySem.W.excIn K (ca 20) [.type "ValueError", .type "Exception", .type "BaseException", .type "object"] "ValueError.__new__" = true
  g_Unfit : mg "Unfit" = some (.ref (ca 21))
  ox_Unfit : L2.OexC K (ca 21)
  xf_Unfit : L2.XfC K (ca 21)
  nf_Unfit_factors : PySem.W.findIn K (.ref (ca 21)) "factors" = some none
  kt : KitTab K ca [1, 4, 5, 6, 7, 8, 9, 10, 11, 12, 13, 14, 15, 16, 17, 18, 19, 20, 21]
section
variable {P : Program} {w : World} {K : PySem.W.Frag} {mg : Str → Option Value} {base : Heap} {ca : Nat → Addr}
abbrev s_l_bag : Stmt := top 22
theorem sc_l_bag : FnScope ["_law_script"] ["_law_script"] (defScope s_l_bag) := ⟨rfl, rfl, rfl, by decide +kernel, rfl, by decide +kernel, by decide +kernel⟩
def sp_l_bag (K : PySem.W.Frag) (_ : Nat → Addr) : Sp := fun vs H Q _ => ∃ (a : Addr) (ns : List Int), vs = [.ref a] ∧ SqL K H a (ns.map V.int) ∧ ∀ (L b : Addr) (H' : Hp), H b = none → H L = none → Same H H' → Bag H' L b → Q (.ref b) H'
theorem ok_l_bag {f : Addr} {fd : FuncData} (F : Fun K "_law_bag" "_law_bag" s_l_bag f fd) (T : Txt K mg ca)  : FnOk P w K mg base (L2.CX P w) 1 f fd ["_law_script"] (sp_l_bag K ca) := by
  refine F.okX sc_l_bag (fun vs H Q E h => ?_) (fun cdv A outer s H vs Q E hr h => ?_)
  · obtain ⟨_, _, rfl, _⟩ := h
    rfl
  · obtain ⟨a, ns, rfl, hs, k⟩ := h
    refine ⟨_, pss_one (ps_ret (pe_lst (pa_cons (pe_callTy call_list_of (by rfl) T.b_list (by decide +kernel) (pa_cons (pv 0) pa_nil)) (pa_cons pe_int (pa_cons pe_int (pa_cons pe_int (pa_cons pe_int pa_nil))))))), ?_⟩
    fail "rd"
    intro L n_L
    generalize g_H1 : upd _ L _ = H1
    obtain ⟨s_H1, e_L⟩ := gen_new n_L g_H1
    clear g_H1
    fail "rd"
    intro b n_b
    generalize g_H2 : upd _ b _ = H2
    obtain ⟨s_H2, e_b⟩ := gen_new n_b g_H2
    clear g_H2
    exact k L b H2 (s_H1.free n_b) n_L (s_H1.trans s_H2) (Bag.mk (i := 0) e_b (s_H2 _ _ e_L) (ne_of_none e_L n_b))

abbrev s_l_draw : Stmt := top 23
theorem sc_l_draw : FnScope ["_law_bag_here", "_law_size", "_law_cell", "_law_digit", "_law_mixed"] ["_law_bag_here", "_law_size"] (defScope s_l_draw) := ⟨rfl, rfl, rfl, by decide +kernel, rfl, by decide +kernel, by decide +kernel⟩
def sp_l_draw (_ : PySem.W.Frag) (_ : Nat → Addr) : Sp := fun vs H Q _ => ∃ (b : Addr) (n : Int), vs = [.ref b, .int n] ∧ ∃ L : Addr, Bag H L b ∧ 0 < n ∧ n.natAbs.log2 < 9000 ∧ ∀ (d : Int) (H' : Hp), 0 ≤ d → d < n → Keep b H H' → Bag H' L b → Q (.int d) H'
theorem ok_l_draw {f : Addr} {fd : FuncData} (F : Fun K "_law_draw" "_law_draw" s_l_draw f fd) (T : Txt K mg ca)  : FnOk P w K mg base (L2.CX P w) 1 f fd ["_law_bag_here", "_law_size"] (sp_l_draw K ca) := by
  refine F.okX sc_l_draw (fun vs H Q E h => ?_) (fun cdv A outer s H vs Q E hr h => ?_)
  · obtain ⟨_, _, rfl, _⟩ := h
    rfl
  · obtain ⟨b, n, rfl, L, hB, h0, hn, k⟩ := h
    refine ⟨_, pss_cons (ps_asg (pe_op op_add (pe_ix ix_list (pv 0) pe_int (fun _ _ => rfl)) pe_int) (pg_sub (pv 0) pe_int set_list)) (Evl.pss_cut (ps_if (PW.pt (pw_and (pt_cmpR op_eq (pe_ix ix_list (pv 0) pe_int (fun _ _ => rfl)) pe_int (nomark _)) (pw_and1 (pt_cmpR op_lt (pe_ix ix_list (pv 0) pe_int (fun _ _ => rfl)) (pe_callB call_len_seq (by rfl) T.b_len (by decide +kernel) (pa_cons (pe_ix ix_list (pv 0) pe_int (fun _ _ => rfl)) pa_nil)) (nomark _))))) (pss_cons (ps_set (i := 2) sc_l_draw.nd rfl (Or.inl rfl) (pe_ix ix_list (pe_ix ix_list (pv 0) pe_int (fun _ _ => rfl)) (pe_ix ix_list (pv 0) pe_int (fun _ _ => rfl)) (fun _ _ => rfl))) (pss_cons (ps_asg (pe_op op_add (pe_ix ix_list (pv 0) pe_int (fun _ _ => rfl)) pe_int) (pg_sub (pv 0) pe_int set_list)) (pss_cons (ps_asg (pe_op op_mulI (pe_op op_add (pe_op op_mulI pe_int (pe_callB call_abs (by rfl) T.b_abs (by decide +kernel) (pa_cons (pv 2) pa_nil))) (pe_callTy call_int1 (by rfl) T.b_int (by decide +kernel) (pa_cons (pe_cmpR op_lt (pv 2) pe_int (nomark _)) pa_nil))) (pe_callTy call_int1 (by rfl) T.b_int (by decide +kernel) (pa_cons (pe_cmpR op_ge (pe_callB call_abs (by rfl) T.b_abs (by decide +kernel) (pa_cons (pv 2) pa_nil)) (pe_op op_pow pe_int pe_int) (nomark _)) pa_nil))) (pg_sub (pv 0) pe_int set_list)) (pss_one (ps_asg (pe_op op_mod (pe_callTy call_int1 (by rfl) T.b_int (by decide +kernel) (pa_cons (pe_op op_add (pe_op op_add (pe_op op_mulI (pe_ix ix_list (pv 0) pe_int (fun _ _ => rfl)) pe_int) (pe_op op_mulI (pv 2) pe_int)) pe_int) pa_nil)) pe_int) (pg_sub (pv 0) pe_int set_list)))))) pss_nil) (pss_cons (ps_set (i := 3) sc_l_draw.nd rfl (Or.inl rfl) (pe_op op_mod (pe_callTy call_int1 (by rfl) T.b_int (by decide +kernel) (pa_cons (pe_ix ix_list (pv 0) pe_int (fun _ _ => rfl)) pa_nil)) (pv 1))) (pss_cons (ps_if (pt_cmpR op_gt (pe_ix ix_list (pv 0) pe_int (fun _ _ => rfl)) pe_int (nomark _)) (pss_cons (ps_asg (pe_op op_fdivW (pe_ix ix_list (pv 0) pe_int (fun _ _ => rfl)) (pv 1)) (pg_sub (pv 0) pe_int set_list)) (pss_one (ps_ret (pv 3)))) pss_nil) (pss_cons (ps_set (i := 4) sc_l_draw.nd rfl (Or.inl rfl) (pe_op op_mod (pe_callTy call_int1 (by rfl) T.b_int (by decide +kernel) (pa_cons (pe_op op_add (pe_ix ix_list (pv 0) pe_int (fun _ _ => rfl)) (pe_op op_mulI (pe_ix ix_list (pv 0) pe_int (fun _ _ => rfl)) pe_int)) pa_nil)) pe_int)) (pss_cons (ps_set (i := 4) sc_l_draw.nd rfl (Or.inl rfl) (pe_op op_mod (pe_callTy call_int1 (by rfl) T.b_int (by decide +kernel) (pa_cons (pe_op op_add (pe_op op_add (pe_op op_pow (pv 4) pe_int) (pe_op op_mulI (pe_ix ix_list (pv 0) pe_int (fun _ _ => rfl)) pe_int)) pe_int) pa_nil)) pe_int)) (pss_one (ps_ret (pe_op op_mod (pe_op op_fdivW (pe_op op_mod (pe_callTy call_int1 (by rfl) T.b_int (by decide +kernel) (pa_cons (pe_op op_pow (pv 4) pe_int) pa_nil)) pe_int) pe_int) (pv 1))))))))), ?_⟩
    obtain ⟨ns, i, big, mix, cnt, hb, hL, hne⟩ := hB
    iterate 5 fail "lo_rd1"
    generalize g_H1 : upd _ b _ = H1
    obtain ⟨k_H1, e_H1⟩ := gen_put g_H1
    clear g_H1
    refine ⟨fun σ' H' => ∃ (v : Option V) (i : Nat) (big mix cnt : Int), σ' = [some (.ref b), some (.int n), v, none, none] ∧ Keep b H H' ∧ H' b = some (.lst [.ref L, .int i, .int big, .int mix, .int cnt]), ?_, ?_⟩
    · fail "rd"
      refine iteI (fun z1 => ?_) (fun z1 => ?_)
      · fail "rd"
        refine iteD (fun z2 => ?_) (fun z2 => ?_)
        · fail "rd"
          have hi : i < ns.length := by
            have z3 : (i : Int) < ((ns.map V.int).length : Nat) := z2
            rw [List.length_map] at z3
            omega
          refine ⟨_, _, _, _, rfl, rfl, (by fail "lo_hp"), atI_nat (v := .int ns[i]) (by simp [hi]), ?_⟩
          fail "rd"
          exact ⟨_, i + 1, _, _, _, rfl, ((k_H1.trans keep_upd).trans keep_upd).trans keep_upd, upd_same⟩
        · exact ⟨_, _, _, _, _, rfl, k_H1, e_H1⟩
      · exact ⟨_, _, _, _, _, rfl, k_H1, e_H1⟩
    · rintro σ' H' ⟨v, i, big, mix, cnt, rfl, kp, hb'⟩
      have hL' : H' L = some (.lst (ns.map V.int)) := kp _ _ hL hne
      fail "rd"
      refine iteD (fun z3 => ?_) (fun z3 => ?_)
      · fail "rd"
        exact k _ _ (Int.emod_nonneg _ (by omega)) (Int.emod_lt_of_pos _ h0) (kp.trans keep_upd) (Bag.mk upd_same (une hne hL') hne)
      · fail "rd"
        exact k _ _ (Int.emod_nonneg _ (by omega)) (Int.emod_lt_of_pos _ h0) kp (Bag.mk hb' hL' hne)

abbrev s_l_names : Stmt := top 24
theorem sc_l_names : FnScope ["_law_bag_here", "_law_count", "_law_words", "_law_letters", "_law_size", "_law_k", "_law_stem", "_law_where", "_law_shift", "_law_longer", "_law_names_here", "_law_name", "_law_spot", "_law_word"] ["_law_bag_here", "_law_count", "_law_words"] (defScope s_l_names) := ⟨rfl, rfl, rfl, by decide +kernel, rfl, by decide +kernel, by decide +kernel⟩
def sp_l_names (_ : PySem.W.Frag) (_ : Nat → Addr) : Sp := fun vs H Q _ => ∃ (b lw : Addr) (n : Nat) (ws : List Str), vs = [.ref b, .int n, .ref lw] ∧ ∃ L : Addr, Bag H L b ∧ H lw = some (.lst (ws.map V.str)) ∧ lw ≠ b ∧ (∀ z ∈ ws, NameOk z) ∧ ws ≠ [] ∧ ws.length < 1000 ∧ 1 ≤ n ∧ n ≤ 60 ∧
  ∀ (N : List Str) (p : Addr) (H' : Hp), N.length = n → (∀ z ∈ N, NameOk z) → H p = none → Keep b H H' → Bag H' L b → H' p = some (.lst (N.map V.str)) → Q (.ref p) H'
theorem ok_l_names {f : Addr} {fd : FuncData} (F : Fun K "_law_names" "_law_names" s_l_names f fd) (T : Txt K mg ca) (O__law_draw : Own P w K mg base 1 "_law_draw" ["_law_bag_here", "_law_size"] (sp_l_draw K ca)) : FnOk P w K mg base (L2.CX P w) 2 f fd ["_law_bag_here", "_law_count", "_law_words"] (sp_l_names K ca) := by
  refine F.okX sc_l_names (fun vs H Q E h => ?_) (fun cdv A outer s H vs Q E hr h => ?_)
  · obtain ⟨_, _, _, _, rfl, _⟩ := h
    rfl
  · obtain ⟨b, lw, n, ws, rfl, L, hB, hw, nw, okw, w0, w1, n1, n60, k⟩ := h
    refine ⟨_, pss_cons (ps_set (i := 3) sc_l_names.nd rfl (Or.inr rfl) pe_str) (pss_cons (ps_set (i := 4) sc_l_names.nd rfl (Or.inl rfl) (pe_ix ix_list (pe_lst (pa_cons pe_int (pa_cons pe_int (pa_cons pe_int (pa_cons pe_int (pa_cons pe_int pa_nil)))))) (pe_own O__law_draw (hr.mono (by decide)) rfl pas0 (pa_cons (pv 0) (pa_cons pe_int pa_nil))) (fun _ _ => rfl))) (pss_cons (ps_set (i := 6) sc_l_names.nd rfl (Or.inl rfl) (pe_join pe_str (pe_lc (own := [("_law_k", 5)]) (g := gName 5) (tt := tYes) rfl sc_l_names.nd (pi_range1 rfl T.b_range (pa_cons (pv 4) pa_nil)) (blkOk_by (N := ["_law_bag_here", "_law_count", "_law_words", "_law_letters", "_law_size", "_law_k", "_law_stem", "_law_where", "_law_shift", "_law_longer", "_law_names_here", "_law_name", "_law_spot", "_law_word"]) (sc := defScope s_l_names) (by decide +kernel)) (fun _ _ _ _ _ => pg_name (i := 5) sc_l_names.nd rfl (Or.inl rfl)) (fun _ _ _ _ _ => pts_nil) (fun _ _ _ _ _ => pe_ix ix_str (pv 3) (pe_own O__law_draw (hr.mono (by decide)) rfl pas0 (pa_cons (pv 0) (pa_cons pe_int pa_nil))) (fun _ _ => rfl))))) (pss_cons (ps_set (i := 7) sc_l_names.nd rfl (Or.inl rfl) (pe_own O__law_draw (hr.mono (by decide)) rfl pas0 (pa_cons (pv 0) (pa_cons (pe_op op_add (pv 4) pe_int) pa_nil)))) (pss_cons (ps_set (i := 8) sc_l_names.nd rfl (Or.inl rfl) (pe_own O__law_draw (hr.mono (by decide)) rfl pas0 (pa_cons (pv 0) (pa_cons pe_int pa_nil)))) (pss_cons (ps_set (i := 9) sc_l_names.nd rfl (Or.inl rfl) (pe_own O__law_draw (hr.mono (by decide)) rfl pas0 (pa_cons (pv 0) (pa_cons pe_int pa_nil)))) (pss_cons (ps_set (i := 10) sc_l_names.nd rfl (Or.inl rfl) (pe_lst pa_nil)) (pss_cons (ps_for (passes_of rfl) rfl (pi_range1 rfl T.b_range (pa_cons (pv 1) pa_nil)) (pg_name (i := 5) sc_l_names.nd rfl (Or.inl rfl)) (pss_cons (ps_set (i := 11) sc_l_names.nd rfl (Or.inl rfl) (pe_op op_add_str (pe_op op_add_str (pe_slice sl_str (pv 6) po_none (po_some (pv 7))) (pe_ix ix_str (pv 3) (pe_op op_mod (pe_callTy call_int1 (by rfl) T.b_int (by decide +kernel) (pa_cons (pe_op op_add (pv 8) (pe_op op_mulI pe_int (pv 5))) pa_nil)) pe_int) (fun _ _ => rfl))) (pe_slice sl_str (pv 6) (po_some (pv 7)) po_none))) (pss_one (ps_expr (pe_bm PySem.F.plainAttrs_list PySem.F.slot_list_append PySem.F.type_list_append mt_append (pv 10) (pa_cons (pe_op op_add_str (pv 11) (pe_op op_mulS1 (pe_ix ix_str (pv 3) (pv 8) (fun _ _ => rfl)) (pe_callTy call_int1 (by rfl) T.b_int (by decide +kernel) (pa_cons (pe_cmpR op_eq (pe_op op_mod (pe_callTy call_int1 (by rfl) T.b_int (by decide +kernel) (pa_cons (pv 5) pa_nil)) pe_int) (pv 9) (nomark _)) pa_nil)))) pa_nil)))))) (Evl.pss_cut (ps_if (PW.pt (pw_and (pt_cmpR op_gt (pv 1) pe_int (nomark _)) (pw_and (pt_cmpR op_lt (pv 4) pe_int (nomark _)) (pw_and1 (pt_cmpR op_eq (pv 9) pe_int (nomark _)))))) (pss_one (ps_asg (pe_op op_add_str (pe_ix ix_list (pv 10) pe_int (fun _ _ => rfl)) (pe_ix ix_str (pv 3) (pe_own O__law_draw (hr.mono (by decide)) rfl pas0 (pa_cons (pv 0) (pa_cons pe_int pa_nil))) (fun _ _ => rfl))) (pg_sub (pv 10) pe_int set_list))) pss_nil) (pss_cons (ps_set (i := 12) sc_l_names.nd rfl (Or.inl rfl) (pe_own O__law_draw (hr.mono (by decide)) rfl pas0 (pa_cons (pv 0) (pa_cons (pe_op op_mulI pe_int (pv 1)) pa_nil)))) (pss_cons (ps_set (i := 13) sc_l_names.nd rfl (Or.inl rfl) (pe_ix ix_list (pv 2) (pe_own O__law_draw (hr.mono (by decide)) rfl pas0 (pa_cons (pv 0) (pa_cons (pe_callB call_len_seq (by rfl) T.b_len (by decide +kernel) (pa_cons (pv 2) pa_nil)) pa_nil))) (fun _ _ => rfl))) (pss_cons (ps_if (PW.pt (pw_and (pt_cmpR op_lt (pv 12) (pv 1) (nomark _)) (pw_and1 (pt_cmpR op_notIn_seq (pv 13) (pv 10) (by with_unfolding_all rfl))))) (pss_one (ps_asg (pv 13) (pg_sub (pv 10) (pv 12) set_list))) pss_nil) (pss_one (ps_ret (pv 10)))))))))))))), ?_⟩
    fail "rd"
    intro l n_l
    generalize g_H1 : upd _ l _ = H1
    obtain ⟨s_H1, e_l⟩ := gen_new n_l g_H1
    clear g_H1
    have B1 := hB.same s_H1
    have lb := hB.ne n_l
    fail "rd"
    refine ⟨L, B1, by decide, by decide, fun c H2 c0 c1 k2 B2 => ?_⟩
    have e_l : H2 l = some (.lst [.int 0, .int 1, .int 2, .int 3, .int 10]) := k2 _ _ e_l lb
    obtain ⟨size, hs, s0⟩ : ∃ m : Nat, atI [V.int 0, .int 1, .int 2, .int 3, .int 10] c = some (.int m) ∧ m ≤ 10 := by
      have hc : c = 0 ∨ c = 1 ∨ c = 2 ∨ c = 3 ∨ c = 4 := by omega
      rcases hc with rfl | rfl | rfl | rfl | rfl
      · exact ⟨0, ix_c rfl, by decide⟩
      · exact ⟨1, ix_c rfl, by decide⟩
      · exact ⟨2, ix_c rfl, by decide⟩
      · exact ⟨3, ix_c rfl, by decide⟩
      · exact ⟨10, ix_c rfl, by decide⟩
    refine ⟨_, _, _, _, rfl, rfl, SqL.of e_l, hs, ?_⟩
    refine ⟨⟨_, rfl⟩, ?_⟩
    fail "rd"
    have e62 : (2 : Int) ^ 62 = 4611686018427387904 := by decide
    refine ⟨by omega, by omega, fun D nD => lc_range (lo := 0) (n := size) (fun i H' => ∃ acc : List Str, H' D = some (.lst (acc.map V.str)) ∧ acc.length = i ∧ (∀ z ∈ acc, Sign z) ∧ Keep b H2 H' ∧ Bag H' L b)
      ⟨[], upd_same, rfl, fun _ m => (nomatch m), .of (same_upd nD), B2.same (same_upd nD)⟩ ?_ ?_⟩
    · rintro i H3 hi ⟨acc, hD, hl, hs, k3, B3⟩
      have nDb : D ≠ b := B2.ne nD
      have nDL : D ≠ L := B2.neL nD
      fail "rd"
      refine ⟨L, B3, by decide, by decide, fun d H4 d0 d1 k4 B4 => ?_⟩
      fail "rd"
      refine rIxS_abc d0 d1 ?_
      have hD4 := k4 _ _ hD nDb
      refine ⟨_, hD4, by rw [List.length_map]; exact size_line (by omega), acc ++ [⟨#[97 + d.toNat]⟩], by rw [strs_snoc]; exact upd_same, by rw [List.length_append, hl]; rfl, fun z m => ?_, ?_, ?_⟩
      · rcases List.mem_append.mp m with m | m
        · exact hs z m
        · cases List.mem_singleton.mp m
          exact sign_abc d1
      · exact keep_new (k3.trans k4) nD
      · exact B4.keep keep_upd nDb nDL
    · rintro H3 ⟨acc, hD, hl, hs, k3, B3⟩
      obtain ⟨stem, hst⟩ : ∃ z, Txt.join Str.empty acc = z := ⟨_, rfl⟩
      obtain ⟨j1, j2⟩ := join_signs hs
      rw [hst] at j1 j2
      refine ⟨_, D, acc, rfl, rfl, .inl (SqL.of hD), ?_, ?_⟩
      · have e : acc.map (·.length) = acc.map fun _ => 1 := List.map_congr_left fun z m => (hs z m).len
        have e2 : (Str.ofString "").length = 0 := by decide +kernel
        rw [e, e2, List.map_const', List.sum_replicate_nat]
        omega
      have e3 : Txt.join (Str.ofString "") acc = stem := by
        rw [← hst]
        congr 1
      rw [e3]
      clear e3 hst hs hD nD
      fail "rd"
      have z64 : ∀ x : Int, 0 ≤ x → x ≤ 1000 → x.natAbs.log2 < 9000 := fun x h0 h1 => lg164 (Nat.lt_of_le_of_lt (show x.natAbs ≤ 1000 by omega) (by decide))
      refine ⟨L, B3, by omega, z64 _ (by omega) (by omega), fun wh H4 _ _ k4 B4 => ?_⟩
      fail "rd"
      refine ⟨L, B4, by decide, by decide, fun sh H5 sh0 sh1 k5 B5 => ?_⟩
      fail "rd"
      refine ⟨L, B5, by decide, by decide, fun lo H6 _ _ k6 B6 => ?_⟩
      fail "rd"
      intro p n_p
      generalize g_H7 : upd _ p _ = H7
      obtain ⟨s_H7, e_p⟩ := gen_new n_p g_H7
      clear g_H7
      have B7 := B6.same s_H7
      have pb := B6.ne n_p
      have pL := B6.neL n_p
      have k06 : Keep b H H6 := (((Keep.of s_H1).trans k2).trans k3).trans ((k4.trans k5).trans k6)
      have hp0 : H p = none := keep_free k06 n_p pb
      have kA : Keep b H H7 := k06.trans (.of s_H7)
      clear k06 k6 k5 k4 k3 k2 B6 B5 B4 B3 B2 B1 s_H7 n_p e_l n_l lb
      fail "rd"
      refine ⟨by omega, by omega, for_range (n := n) (fun i σ' H' => ∃ (N : List Str) (v1 v2 : Option V), σ' = [some (.ref b), some (.int n), some (.ref lw), some (.str (Str.ofString "abcdefghijklmnopqrstuvwxyz")), some (.int size), v1, some (.str stem), some (.int wh), some (.int sh), some (.int lo), some (.ref p), v2, none, none] ∧
          H' p = some (.lst (N.map V.str)) ∧ N.length = i ∧ (∀ z ∈ N, Lets z ∧ 0 < z.length ∧ z.length ≤ size + 2) ∧ Keep b H H' ∧ Bag H' L b) ⟨[], _, _, rfl, e_p, rfl, fun _ m => (nomatch m), kA, B7⟩ ?_ ?_⟩
      · rintro i σ' H' hi ⟨N, v1, v2, rfl, hp, hN, hz, kp, B⟩
        fail "rd"
        refine ⟨size_le (by omega), ?_⟩
        fail "rd"
        obtain ⟨ch, hch⟩ : ∃ c : Int, (sh + 7 * (0 + (i : Int))) % 26 = c := ⟨_, rfl⟩
        have ch0 : 0 ≤ ch := by rw [← hch]; exact Int.emod_nonneg _ (by decide)
        have ch1 : ch < 26 := by rw [← hch]; exact Int.emod_lt_of_pos _ (by decide)
        dsimp only
        rw [hch]
        refine rIxS_abc ch0 ch1 ?_
        have q1 := cutS_length stem none (some wh)
        have q2 := cutS_length stem (some wh) none
        have q3 := len_cuts (z := stem) (w := wh)
        have q4 : (⟨#[97 + ch.toNat]⟩ : Str).length = 1 := rfl
        refine ⟨_, _, rfl, rfl, size_le (by rw [q4]; omega), ?_⟩
        fail "rd"
        refine ⟨size_le (by omega), ?_⟩
        refine ⟨_, _, rfl, rfl, size_le (by rw [len_app, q4]; omega), ?_⟩
        fail "rd"
        refine rIxS_abc sh0 sh1 ?_
        fail "rd"
        refine ⟨by split <;> simp, fun w hw => ?_⟩
        obtain ⟨base, hbase⟩ : ∃ z, cutS stem none (some wh) ++ (⟨#[97 + ch.toNat]⟩ : Str) ++ cutS stem (some wh) none = z := ⟨_, rfl⟩
        have b1 : base.length = size + 1 := by rw [← hbase, len_app, len_app, q4]; omega
        have b2 : Lets base := by rw [← hbase]; exact lets_app (lets_app (lets_cut j1) (sign_abc ch1).lets) (lets_cut j1)
        have w1 : w.length ≤ 1 ∧ Lets w := by
          rcases hw with rfl | rfl
          · exact ⟨by decide, lets_nil⟩
          · exact ⟨Nat.le_refl _, (sign_abc sh1).lets⟩
        rw [hbase]
        refine ⟨_, _, rfl, rfl, size_le (by omega), ?_⟩
        fail "rd"
        have hle : N.length < 100 := by omega
        refine ⟨p, _, _, rfl, rfl, hp, by rw [List.length_map]; exact size_line (by omega), ?_⟩
        generalize g_H8 : upd _ p _ = H8
        obtain ⟨k_H8, e_H8⟩ := gen_put g_H8
        clear g_H8
        rw [strs_snoc] at e_H8
        refine ⟨N ++ [base ++ w], _, _, rfl, e_H8, by rw [List.length_append, hN]; rfl, fun z m => ?_, keep_put kp k_H8 hp0, B.keep k_H8 pb pL⟩
        rcases List.mem_append.mp m with m | m
        · exact hz z m
        · cases List.mem_singleton.mp m
          exact ⟨lets_app b2 w1.2, by rw [len_app]; omega, by rw [len_app]; omega⟩
      · rintro σ' H' ⟨N, v1, v2, rfl, hp, hN, hz, kp, B⟩
        refine ⟨fun σ' H' => ∃ (N : List Str) (v1 v2 : Option V), σ' = [some (.ref b), some (.int n), some (.ref lw), some (.str (Str.ofString "abcdefghijklmnopqrstuvwxyz")), some (.int size), v1, some (.str stem), some (.int wh), some (.int sh), some (.int lo), some (.ref p), v2, none, none] ∧
          H' p = some (.lst (N.map V.str)) ∧ N.length = n ∧ (∀ z ∈ N, NameOk z) ∧ Keep b H H' ∧ Bag H' L b, ?_, ?_⟩
        · have easy : ∃ (N : List Str) (u1 u2 : Option V), [some (.ref b), some (.int n), some (.ref lw), some (.str (Str.ofString "abcdefghijklmnopqrstuvwxyz")), some (.int size), v1, some (.str stem), some (.int wh), some (.int sh), some (.int lo), some (.ref p), v2, none, none] = [some (.ref b), some (.int n), some (.ref lw), some (.str (Str.ofString "abcdefghijklmnopqrstuvwxyz")), some (.int size), u1, some (.str stem), some (.int wh), some (.int sh), some (.int lo), some (.ref p), u2, none, none] ∧
              H' p = some (.lst (N.map V.str)) ∧ N.length = n ∧ (∀ z ∈ N, NameOk z) ∧ Keep b H H' ∧ Bag H' L b := ⟨N, v1, v2, rfl, hp, hN, fun z m => ⟨by have := (hz z m).2.2; omega, (hz z m).2.1, (hz z m).1⟩, kp, B⟩
          fail "rd"
          refine iteD (fun y1 => ?_) (fun _ => easy)
          fail "rd"
          refine iteD (fun y2 => ?_) (fun _ => easy)
          fail "rd"
          refine iteI (fun y3 => ?_) (fun _ => easy)
          fail "rd"
          obtain ⟨z0, hz0⟩ : ∃ z0, N[0]? = some z0 := ⟨N[0]'(by omega), List.getElem?_eq_getElem (by omega)⟩
          have hz0' := hz z0 (List.mem_of_getElem? hz0)
          refine ⟨_, _, _, _, rfl, rfl, SqL.of hp, ix_c (v := .str z0) (by show (N.map V.str)[0]? = _; rw [List.getElem?_map, hz0]; rfl), ?_⟩
          fail "rd"
          refine ⟨L, B, by decide, by decide, fun d H8 d0 d1 k8 B8 => ?_⟩
          fail "rd"
          refine rIxS_abc d0 d1 ?_
          have q4 : (⟨#[97 + d.toNat]⟩ : Str).length = 1 := rfl
          refine ⟨_, _, rfl, rfl, size_le (by rw [q4]; omega), ?_⟩
          have hp8 := k8 _ _ hp pb
          fail "rd"
          refine ⟨p, _, 1, 1, rfl, rfl, hp8, by unfold ixN; rw [if_pos (by decide), if_pos (by rw [List.length_map]; omega)]; rfl, ?_⟩
          generalize g_H9 : upd _ p _ = H9
          obtain ⟨k_H9, e_H9⟩ := gen_put g_H9
          clear g_H9
          rw [← List.map_set] at e_H9
          refine ⟨N.set 1 (z0 ++ ⟨#[97 + d.toNat]⟩), _, _, rfl, e_H9, by rw [List.length_set, hN], fun z m => ?_, keep_put (kp.trans k8) k_H9 hp0, B8.keep k_H9 pb pL⟩
          rcases List.mem_or_eq_of_mem_set m with m | rfl
          · exact ⟨by have := (hz z m).2.2; omega, (hz z m).2.1, (hz z m).1⟩
          · exact ⟨by rw [len_app, q4]; omega, by rw [len_app, q4]; omega, lets_app hz0'.1 (sign_abc d1).lets⟩
        · rintro σ' H' ⟨N, v1, v2, rfl, hp, hN, hz, kp, B⟩
          fail "rd"
          refine ⟨L, B, by omega, z64 _ (by omega) (by omega), fun spot H8 sp0 sp1 k8 B8 => ?_⟩
          have hw8 := k8 _ _ (kp _ _ hw nw) nw
          fail "rd"
          have hwl : (0 : Int) < (ws.length : Nat) := by have := List.length_pos_iff.mpr w0; omega
          have hwl2 : ((ws.map V.str).length : Int) = (ws.length : Nat) := by rw [List.length_map]
          refine ⟨L, B8, by rw [hwl2]; exact hwl, by rw [hwl2]; exact z64 _ (by omega) (by omega), fun d H9 d0 d1 k9 B9 => ?_⟩
          rw [hwl2] at d1
          have hw9 := k9 _ _ hw8 nw
          have hp9 := k9 _ _ (k8 _ _ hp pb) pb
          obtain ⟨m, rfl⟩ := Int.eq_ofNat_of_zero_le d0
          obtain ⟨wd, hwd⟩ : ∃ z, ws[m]? = some z := ⟨ws[m]'(by omega), List.getElem?_eq_getElem (by omega)⟩
          refine ⟨_, _, _, _, rfl, rfl, SqL.of hw9, atI_nat (v := .str wd) (by rw [List.getElem?_map, hwd]; rfl), ?_⟩
          have fin := k N p H9 hN hz hp0 ((kp.trans k8).trans k9) B9 hp9
          fail "rd"
          refine iteD (fun y1 => ?_) (fun _ => ?_)
          · fail "rd"
            refine ⟨List.all_eq_true.mpr fun x hx => by obtain ⟨z, _, rfl⟩ := List.mem_map.mp hx; rfl, ?_⟩
            rw [if_pos rfl]
            cases inV (.str wd) (N.map V.str) with
            | true =>
              fail "rd"
              exact fin
            | false =>
              fail "rd"
              obtain ⟨j, rfl⟩ := Int.eq_ofNat_of_zero_le sp0
              have hj : j < N.length := by omega
              refine ⟨p, _, j, j, rfl, rfl, hp9, by unfold ixN; rw [if_pos (by omega), if_pos (by rw [List.length_map]; omega)]; rfl, ?_⟩
              generalize g_H10 : upd _ p _ = H10
              obtain ⟨k_H10, e_H10⟩ := gen_put g_H10
              clear g_H10
              rw [← List.map_set] at e_H10
              fail "rd"
              refine k (N.set j wd) p H10 (by rw [List.length_set, hN]) (fun z m => ?_) hp0 (keep_put ((kp.trans k8).trans k9) k_H10 hp0) (B9.keep k_H10 pb pL) e_H10
              rcases List.mem_or_eq_of_mem_set m with m | rfl
              · exact hz z m
              · exact okw _ (List.mem_of_getElem? hwd)
          · fail "rd"
            exact fin

abbrev s_NoPrice_init : Stmt := inClass (top 4) 0
theorem sc_NoPrice_init : FnScope ["self", "name"] ["self", "name"] (defScope s_NoPrice_init) := ⟨rfl, rfl, rfl, by decide +kernel, rfl, by decide +kernel, by decide +kernel⟩
theorem ok_NoPrice_init {f : Addr} {fd : FuncData} (F : Fun K "__init__" "NoPrice.__init__" s_NoPrice_init f fd) (T : Txt K mg ca)  : FnOk P w K mg base (L2.CX P w) 1 f fd ["self", "name"] (spErr (ca 5) ["name"]) := by
  refine F.okX sc_NoPrice_init (fun vs H Q E h => ?_) (fun cdv A outer s H vs Q E hr h => ?_)
  · obtain ⟨a, us, rfl, hl, _⟩ := h
    exact congrArg Nat.succ hl
  · obtain ⟨a, us, rfl, hl, ha, k⟩ := h
    obtain ⟨x0, rfl⟩ := list_1 hl
    refine ⟨_, pss_one (ps_ost (pv 0) (pv 1)), ?_⟩
    refine ⟨_, rfl, _, rfl, ?_⟩
    refine err_1 T.ox_NoPrice T.nf_NoPrice_name ha fun dx H1 nd ne a1 d1 m1 => ?_
    exact k dx _ nd ne a1 d1 fun b o e n => m1 _ _ e n
abbrev s_Negative_init : Stmt := inClass (top 5) 0
theorem sc_Negative_init : FnScope ["self", "name"] ["self", "name"] (defScope s_Negative_init) := ⟨rfl, rfl, rfl, by decide +kernel, rfl, by decide +kernel, by decide +kernel⟩
theorem ok_Negative_init {f : Addr} {fd : FuncData} (F : Fun K "__init__" "Negative.__init__" s_Negative_init f fd) (T : Txt K mg ca)  : FnOk P w K mg base (L2.CX P w) 1 f fd ["self", "name"] (spErr (ca 6) ["name"]) := by
  refine F.okX sc_Negative_init (fun vs H Q E h => ?_) (fun cdv A outer s H vs Q E hr h => ?_)
  · obtain ⟨a, us, rfl, hl, _⟩ := h
    exact congrArg Nat.succ hl
  · obtain ⟨a, us, rfl, hl, ha, k⟩ := h
    obtain ⟨x0, rfl⟩ := list_1 hl
    refine ⟨_, pss_one (ps_ost (pv 0) (pv 1)), ?_⟩
    refine ⟨_, rfl, _, rfl, ?_⟩
    refine err_1 T.ox_Negative T.nf_Negative_name ha fun dx H1 nd ne a1 d1 m1 => ?_
    exact k dx _ nd ne a1 d1 fun b o e n => m1 _ _ e n
abbrev s_BadName_init : Stmt := inClass (top 3) 0
theorem sc_BadName_init : FnScope ["self", "name"] ["self", "name"] (defScope s_BadName_init) := ⟨rfl, rfl, rfl, by decide +kernel, rfl, by decide +kernel, by decide +kernel⟩
theorem ok_BadName_init {f : Addr} {fd : FuncData} (F : Fun K "__init__" "BadName.__init__" s_BadName_init f fd) (T : Txt K mg ca)  : FnOk P w K mg base (L2.CX P w) 1 f fd ["self", "name"] (spErr (ca 4) ["name"]) := by
  refine F.okX sc_BadName_init (fun vs H Q E h => ?_) (fun cdv A outer s H vs Q E hr h => ?_)
  · obtain ⟨a, us, rfl, hl, _⟩ := h
    exact congrArg Nat.succ hl
  · obtain ⟨a, us, rfl, hl, ha, k⟩ := h
    obtain ⟨x0, rfl⟩ := list_1 hl
    refine ⟨_, pss_one (ps_ost (pv 0) (pv 1)), ?_⟩
    refine ⟨_, rfl, _, rfl, ?_⟩
    refine err_1 T.ox_BadName T.nf_BadName_name ha fun dx H1 nd ne a1 d1 m1 => ?_
    exact k dx _ nd ne a1 d1 fun b o e n => m1 _ _ e n
abbrev s_NameTaken_init : Stmt := inClass (top 10) 0
theorem sc_NameTaken_init : FnScope ["self", "name"] ["self", "name"] (defScope s_NameTaken_init) := ⟨rfl, rfl, rfl, by decide +kernel, rfl, by decide +kernel, by decide +kernel⟩
theorem ok_NameTaken_init {f : Addr} {fd : FuncData} (F : Fun K "__init__" "NameTaken.__init__" s_NameTaken_init f fd) (T : Txt K mg ca)  : FnOk P w K mg base (L2.CX P w) 1 f fd ["self", "name"] (spErr (ca 11) ["name"]) := by
  refine F.okX sc_NameTaken_init (fun vs H Q E h => ?_) (fun cdv A outer s H vs Q E hr h => ?_)
  · obtain ⟨a, us, rfl, hl, _⟩ := h
    exact congrArg Nat.succ hl
  · obtain ⟨a, us, rfl, hl, ha, k⟩ := h
    obtain ⟨x0, rfl⟩ := list_1 hl
    refine ⟨_, pss_one (ps_ost (pv 0) (pv 1)), ?_⟩
    refine ⟨_, rfl, _, rfl, ?_⟩
    refine err_1 T.ox_NameTaken T.nf_NameTaken_name ha fun dx H1 nd ne a1 d1 m1 => ?_
    exact k dx _ nd ne a1 d1 fun b o e n => m1 _ _ e n
abbrev s_UnknownName_init : Stmt := inClass (top 11) 0
theorem sc_UnknownName_init : FnScope ["self", "name"] ["self", "name"] (defScope s_UnknownName_init) := ⟨rfl, rfl, rfl, by decide +kernel, rfl, by decide +kernel, by decide +kernel⟩
theorem ok_UnknownName_init {f : Addr} {fd : FuncData} (F : Fun K "__init__" "UnknownName.__init__" s_UnknownName_init f fd) (T : Txt K mg ca)  : FnOk P w K mg base (L2.CX P w) 1 f fd ["self", "name"] (spErr (ca 12) ["name"]) := by
  refine F.okX sc_UnknownName_init (fun vs H Q E h => ?_) (fun cdv A outer s H vs Q E hr h => ?_)
  · obtain ⟨a, us, rfl, hl, _⟩ := h
    exact congrArg Nat.succ hl
  · obtain ⟨a, us, rfl, hl, ha, k⟩ := h
    obtain ⟨x0, rfl⟩ := list_1 hl
    refine ⟨_, pss_one (ps_ost (pv 0) (pv 1)), ?_⟩
    refine ⟨_, rfl, _, rfl, ?_⟩
    refine err_1 T.ox_UnknownName T.nf_UnknownName_name ha fun dx H1 nd ne a1 d1 m1 => ?_
    exact k dx _ nd ne a1 d1 fun b o e n => m1 _ _ e n
abbrev s_l_named : Stmt := top 25
theorem sc_l_named : FnScope ["_law_name", "_law_errors", "_law_error"] ["_law_name"] (defScope s_l_named) := ⟨rfl, rfl, rfl, by decide +kernel, rfl, by decide +kernel, by decide +kernel⟩
def sp_l_named (_ : PySem.W.Frag) (ca : Nat → Addr) : Sp := fun vs H Q _ => ∃ z : Str, vs = [.str z] ∧ ∀ (p : Addr) (H' : Hp) (ts : List V), Same H H' → H' p = some (.lst ts) → ts.length = 5 → (∀ t ∈ ts, ErrT ca H' t) → Q (.ref p) H'
theorem ok_l_named {f : Addr} {fd : FuncData} (F : Fun K "_law_named" "_law_named" s_l_named f fd) (T : Txt K mg ca) (O_NoPrice_init : OwnE P w K mg base "NoPrice" (ca 5) ["name"]) (O_Negative_init : OwnE P w K mg base "Negative" (ca 6) ["name"]) (O_BadName_init : OwnE P w K mg base "BadName" (ca 4) ["name"]) (O_NameTaken_init : OwnE P w K mg base "NameTaken" (ca 11) ["name"]) (O_UnknownName_init : OwnE P w K mg base "UnknownName" (ca 12) ["name"]) : FnOk P w K mg base (L2.CX P w) 3 f fd ["_law_name"] (sp_l_named K ca) := by
  refine F.okX sc_l_named (fun vs H Q E h => ?_) (fun cdv A outer s H vs Q E hr h => ?_)
  · obtain ⟨_, rfl, _⟩ := h
    rfl
  · obtain ⟨z, rfl, k⟩ := h
    refine ⟨_, pss_cons (ps_set (i := 1) sc_l_named.nd rfl (Or.inl rfl) (pe_lst (pa_cons (pe_exv O_NoPrice_init (hr.mono (by decide)) rfl (pa_cons (pv 0) pa_nil)) (pa_cons (pe_exv O_Negative_init (hr.mono (by decide)) rfl (pa_cons (pv 0) pa_nil)) (pa_cons (pe_exv O_BadName_init (hr.mono (by decide)) rfl (pa_cons (pv 0) pa_nil)) (pa_cons (pe_exv O_NameTaken_init (hr.mono (by decide)) rfl (pa_cons (pv 0) pa_nil)) (pa_cons (pe_exv O_UnknownName_init (hr.mono (by decide)) rfl (pa_cons (pv 0) pa_nil)) pa_nil))))))) (pss_one (ps_ret (pe_lc (own := [("_law_error", 2)]) (g := gName 2) (tt := tYes) rfl sc_l_named.nd (pi_list (pv 1)) (blkOk_by (N := ["_law_name", "_law_errors", "_law_error"]) (sc := defScope s_l_named) (by decide +kernel)) (fun _ _ _ _ _ => pg_name (i := 2) sc_l_named.nd rfl (Or.inl rfl)) (fun _ _ _ _ _ => pts_nil) (fun _ _ _ _ _ => pe_tup (pa_cons (pv 2) (pa_cons (pe_cmpR op_eq (pe_exf (K := K) (pv 2) rfl rfl) (pv 0) (nomark _)) pa_nil)))))), ?_⟩
    fail "rd"
    refine ⟨by decide, fun a1 d1 H1 na1 nd1 ne1 s1 ea1 ed1 => ?_⟩
    have e1 : ErrF ca H1 a1 5 d1 [("name", .str z)] := ⟨ea1, ed1⟩
    clear ea1 ed1
    fail "rd"
    refine ⟨by decide, fun a2 d2 H2 na2 nd2 ne2 s2 ea2 ed2 => ?_⟩
    have e2 : ErrF ca H2 a2 6 d2 [("name", .str z)] := ⟨ea2, ed2⟩
    have e1 := e1.same s2
    clear ea2 ed2
    fail "rd"
    refine ⟨by decide, fun a3 d3 H3 na3 nd3 ne3 s3 ea3 ed3 => ?_⟩
    have e3 : ErrF ca H3 a3 4 d3 [("name", .str z)] := ⟨ea3, ed3⟩
    have e1 := e1.same s3
    have e2 := e2.same s3
    clear ea3 ed3
    fail "rd"
    refine ⟨by decide, fun a4 d4 H4 na4 nd4 ne4 s4 ea4 ed4 => ?_⟩
    have e4 : ErrF ca H4 a4 11 d4 [("name", .str z)] := ⟨ea4, ed4⟩
    have e1 := e1.same s4
    have e2 := e2.same s4
    have e3 := e3.same s4
    clear ea4 ed4
    fail "rd"
    refine ⟨by decide, fun a5 d5 H5 na5 nd5 ne5 s5 ea5 ed5 => ?_⟩
    have e5 : ErrF ca H5 a5 12 d5 [("name", .str z)] := ⟨ea5, ed5⟩
    have e1 := e1.same s5
    have e2 := e2.same s5
    have e3 := e3.same s5
    have e4 := e4.same s5
    clear ea5 ed5
    fail "rd"
    intro l n_l
    generalize g_H6 : upd _ l _ = H6
    obtain ⟨s_H6, e_l⟩ := gen_new n_l g_H6
    clear g_H6
    have e1 := e1.same s_H6
    have e2 := e2.same s_H6
    have e3 := e3.same s_H6
    have e4 := e4.same s_H6
    have e5 := e5.same s_H6
    have sA : Same H H6 := s1.trans (s2.trans (s3.trans (s4.trans (s5.trans s_H6))))
    have hx : ∀ x ∈ ([.ref a1, .ref a2, .ref a3, .ref a4, .ref a5] : List V), ∃ a c d, x = .ref a ∧ ErrF ca H6 a c d [("name", .str z)] ∧ c ∈ ERRS ∧ XfC K (ca c) ∧ PySem.W.findIn K (.ref (ca c)) "name" = some none := by
      intro x m
      simp only [List.mem_cons, List.not_mem_nil, or_false] at m
      rcases m with rfl | rfl | rfl | rfl | rfl
      · exact ⟨a1, 5, d1, rfl, e1, by decide, T.xf_NoPrice, T.nf_NoPrice_name⟩
      · exact ⟨a2, 6, d2, rfl, e2, by decide, T.xf_Negative, T.nf_Negative_name⟩
      · exact ⟨a3, 4, d3, rfl, e3, by decide, T.xf_BadName, T.nf_BadName_name⟩
      · exact ⟨a4, 11, d4, rfl, e4, by decide, T.xf_NameTaken, T.nf_NameTaken_name⟩
      · exact ⟨a5, 12, d5, rfl, e5, by decide, T.xf_UnknownName, T.nf_UnknownName_name⟩
    fail "rd"
    intro D nD
    refine lc_list (K := K) (a := l) (xs := [.ref a1, .ref a2, .ref a3, .ref a4, .ref a5]) (fun i H' => Same H6 H' ∧ ∃ ts, H' D = some (.lst ts) ∧ ts.length = i ∧ ∀ t ∈ ts, ErrT ca H' t) ⟨same_upd nD, [], upd_same, rfl, fun t m => by cases m⟩ (fun i H' _ s => SqL.of (s.1 _ _ e_l)) ?_ ?_
    · rintro i x H7 hi ⟨s7, ts, eD, lt, hts⟩
      obtain ⟨a, c, d, rfl, ef, hc, hX, hN⟩ := hx x (List.mem_of_getElem? hi)
      have ef := ef.same s7
      fail "rd"
      refine ⟨a, ca c, d, _, .str z, rfl, hX, hN, ef.at_, ef.dd, rfl, ?_⟩
      fail "rd"
      rw [decide_eq_true rfl]
      intro t n_t
      generalize g_H8 : upd _ t _ = H8
      obtain ⟨s_H8, e_t⟩ := gen_new n_t g_H8
      clear g_H8
      refine ⟨ts, s_H8 _ _ eD, by have := (List.getElem?_eq_some_iff.mp hi).1; exact Nat.lt_of_lt_of_le (show ts.length < 100 by simp at this; omega) (line_le (by decide)), ?_⟩
      have nDt : t ≠ D := fun e => by rw [e, eD] at n_t; cases n_t
      have s8 : Same H6 (upd H8 D (.lst (ts ++ [.ref t]))) := fun b o e => by
        have nb : b ≠ D := ne_of_none e nD
        rw [upd_ne nb]
        exact s_H8 _ _ (s7 _ _ e)
      refine ⟨s8, _, upd_same, by rw [List.length_append, lt]; rfl, fun y m => ?_⟩
      rcases List.mem_append.mp m with m | m
      · exact ((hts y m).same s_H8).put (s_H8 _ _ eD) keep_upd
      · obtain rfl := List.mem_singleton.mp m
        exact ErrT.put ⟨t, a, rfl, e_t, (ef.same s_H8).o hc⟩ (s_H8 _ _ eD) keep_upd
    · rintro H7 ⟨s7, ts, eD, lt, hts⟩
      fail "rd"
      exact k D H7 ts (sA.trans s7) eD lt hts

abbrev s_BadEntry_init : Stmt := inClass (top 6) 0
theorem sc_BadEntry_init : FnScope ["self", "day", "number"] ["self", "day", "number"] (defScope s_BadEntry_init) := ⟨rfl, rfl, rfl, by decide +kernel, rfl, by decide +kernel, by decide +kernel⟩
theorem ok_BadEntry_init {f : Addr} {fd : FuncData} (F : Fun K "__init__" "BadEntry.__init__" s_BadEntry_init f fd) (T : Txt K mg ca)  : FnOk P w K mg base (L2.CX P w) 1 f fd ["self", "day", "number"] (spErr (ca 7) ["day", "number"]) := by
  refine F.okX sc_BadEntry_init (fun vs H Q E h => ?_) (fun cdv A outer s H vs Q E hr h => ?_)
  · obtain ⟨a, us, rfl, hl, _⟩ := h
    exact congrArg Nat.succ hl
  · obtain ⟨a, us, rfl, hl, ha, k⟩ := h
    obtain ⟨x0, x1, rfl⟩ := list_2 hl
    refine ⟨_, pss_cons (ps_ost (pv 0) (pv 1)) (pss_one (ps_ost (pv 0) (pv 2))), ?_⟩
    refine ⟨_, rfl, _, rfl, ?_⟩
    refine err_1 T.ox_BadEntry T.nf_BadEntry_day ha fun dx H1 nd ne a1 d1 m1 => ?_
    refine ⟨_, rfl, _, rfl, ?_⟩
    refine err_2 T.ox_BadEntry T.nf_BadEntry_number a1 d1 (by simp) ne fun H2 a2 d2 m2 => ?_
    exact k dx _ nd ne a2 d2 fun b o e n => m2 _ _ (m1 _ _ e n) (ne_of_none e nd)
abbrev s_NoEntry_init : Stmt := inClass (top 7) 0
theorem sc_NoEntry_init : FnScope ["self", "day", "number"] ["self", "day", "number"] (defScope s_NoEntry_init) := ⟨rfl, rfl, rfl, by decide +kernel, rfl, by decide +kernel, by decide +kernel⟩
theorem ok_NoEntry_init {f : Addr} {fd : FuncData} (F : Fun K "__init__" "NoEntry.__init__" s_NoEntry_init f fd) (T : Txt K mg ca)  : FnOk P w K mg base (L2.CX P w) 1 f fd ["self", "day", "number"] (spErr (ca 8) ["day", "number"]) := by
  refine F.okX sc_NoEntry_init (fun vs H Q E h => ?_) (fun cdv A outer s H vs Q E hr h => ?_)
  · obtain ⟨a, us, rfl, hl, _⟩ := h
    exact congrArg Nat.succ hl
  · obtain ⟨a, us, rfl, hl, ha, k⟩ := h
    obtain ⟨x0, x1, rfl⟩ := list_2 hl
    refine ⟨_, pss_cons (ps_ost (pv 0) (pv 1)) (pss_one (ps_ost (pv 0) (pv 2))), ?_⟩
    refine ⟨_, rfl, _, rfl, ?_⟩
    refine err_1 T.ox_NoEntry T.nf_NoEntry_day ha fun dx H1 nd ne a1 d1 m1 => ?_
    refine ⟨_, rfl, _, rfl, ?_⟩
    refine err_2 T.ox_NoEntry T.nf_NoEntry_number a1 d1 (by simp) ne fun H2 a2 d2 m2 => ?_
    exact k dx _ nd ne a2 d2 fun b o e n => m2 _ _ (m1 _ _ e n) (ne_of_none e nd)
abbrev s_NotPlain_init : Stmt := inClass (top 15) 0
theorem sc_NotPlain_init : FnScope ["self", "day", "number"] ["self", "day", "number"] (defScope s_NotPlain_init) := ⟨rfl, rfl, rfl, by decide +kernel, rfl, by decide +kernel, by decide +kernel⟩
theorem ok_NotPlain_init {f : Addr} {fd : FuncData} (F : Fun K "__init__" "NotPlain.__init__" s_NotPlain_init f fd) (T : Txt K mg ca)  : FnOk P w K mg base (L2.CX P w) 1 f fd ["self", "day", "number"] (spErr (ca 16) ["day", "number"]) := by
  refine F.okX sc_NotPlain_init (fun vs H Q E h => ?_) (fun cdv A outer s H vs Q E hr h => ?_)
  · obtain ⟨a, us, rfl, hl, _⟩ := h
    exact congrArg Nat.succ hl
  · obtain ⟨a, us, rfl, hl, ha, k⟩ := h
    obtain ⟨x0, x1, rfl⟩ := list_2 hl
    refine ⟨_, pss_cons (ps_ost (pv 0) (pv 1)) (pss_one (ps_ost (pv 0) (pv 2))), ?_⟩
    refine ⟨_, rfl, _, rfl, ?_⟩
    refine err_1 T.ox_NotPlain T.nf_NotPlain_day ha fun dx H1 nd ne a1 d1 m1 => ?_
    refine ⟨_, rfl, _, rfl, ?_⟩
    refine err_2 T.ox_NotPlain T.nf_NotPlain_number a1 d1 (by simp) ne fun H2 a2 d2 m2 => ?_
    exact k dx _ nd ne a2 d2 fun b o e n => m2 _ _ (m1 _ _ e n) (ne_of_none e nd)
abbrev s_l_placed : Stmt := top 26
theorem sc_l_placed : FnScope ["_law_day", "_law_number", "_law_errors", "_law_error"] ["_law_day", "_law_number"] (defScope s_l_placed) := ⟨rfl, rfl, rfl, by decide +kernel, rfl, by decide +kernel, by decide +kernel⟩
def sp_l_placed (_ : PySem.W.Frag) (ca : Nat → Addr) : Sp := fun vs H Q _ => ∃ u v : Int, vs = [.int u, .int v] ∧ ∀ (p : Addr) (H' : Hp) (ts : List V), Same H H' → H' p = some (.lst ts) → ts.length = 3 → (∀ t ∈ ts, ErrT ca H' t) → Q (.ref p) H'
theorem ok_l_placed {f : Addr} {fd : FuncData} (F : Fun K "_law_placed" "_law_placed" s_l_placed f fd) (T : Txt K mg ca) (O_BadEntry_init : OwnE P w K mg base "BadEntry" (ca 7) ["day", "number"]) (O_NoEntry_init : OwnE P w K mg base "NoEntry" (ca 8) ["day", "number"]) (O_NotPlain_init : OwnE P w K mg base "NotPlain" (ca 16) ["day", "number"]) : FnOk P w K mg base (L2.CX P w) 3 f fd ["_law_day", "_law_number"] (sp_l_placed K ca) := by
  refine F.okX sc_l_placed (fun vs H Q E h => ?_) (fun cdv A outer s H vs Q E hr h => ?_)
  · obtain ⟨_, _, rfl, _⟩ := h
    rfl
  · obtain ⟨u, v, rfl, k⟩ := h
    refine ⟨_, pss_cons (ps_set (i := 2) sc_l_placed.nd rfl (Or.inl rfl) (pe_lst (pa_cons (pe_exv O_BadEntry_init (hr.mono (by decide)) rfl (pa_cons (pv 0) (pa_cons (pv 1) pa_nil))) (pa_cons (pe_exv O_NoEntry_init (hr.mono (by decide)) rfl (pa_cons (pv 0) (pa_cons (pv 1) pa_nil))) (pa_cons (pe_exv O_NotPlain_init (hr.mono (by decide)) rfl (pa_cons (pv 0) (pa_cons (pv 1) pa_nil))) pa_nil))))) (pss_one (ps_ret (pe_lc (own := [("_law_error", 3)]) (g := gName 3) (tt := tYes) rfl sc_l_placed.nd (pi_list (pv 2)) (blkOk_by (N := ["_law_day", "_law_number", "_law_errors", "_law_error"]) (sc := defScope s_l_placed) (by decide +kernel)) (fun _ _ _ _ _ => pg_name (i := 3) sc_l_placed.nd rfl (Or.inl rfl)) (fun _ _ _ _ _ => pts_nil) (fun _ _ _ _ _ => pe_tup (pa_cons (pv 3) (pa_cons (pe_cmpR (show OpR _ _ (rEqD K) from op_eqD (Room.units (hr.mono (Nat.zero_le _)))) (pe_tup (pa_cons (pe_exf (K := K) (pv 3) rfl rfl) (pa_cons (pe_exf (K := K) (pv 3) rfl rfl) pa_nil))) (pe_tup (pa_cons (pv 0) (pa_cons (pv 1) pa_nil))) (nomark _)) pa_nil)))))), ?_⟩
    fail "rd"
    refine ⟨by decide, fun a1 d1 H1 na1 nd1 ne1 s1 ea1 ed1 => ?_⟩
    have e1 : ErrF ca H1 a1 7 d1 [("number", .int v), ("day", .int u)] := ⟨ea1, ed1⟩
    clear ea1 ed1
    fail "rd"
    refine ⟨by decide, fun a2 d2 H2 na2 nd2 ne2 s2 ea2 ed2 => ?_⟩
    have e2 : ErrF ca H2 a2 8 d2 [("number", .int v), ("day", .int u)] := ⟨ea2, ed2⟩
    have e1 := e1.same s2
    clear ea2 ed2
    fail "rd"
    refine ⟨by decide, fun a3 d3 H3 na3 nd3 ne3 s3 ea3 ed3 => ?_⟩
    have e3 : ErrF ca H3 a3 16 d3 [("number", .int v), ("day", .int u)] := ⟨ea3, ed3⟩
    have e1 := e1.same s3
    have e2 := e2.same s3
    clear ea3 ed3
    fail "rd"
    intro l n_l
    generalize g_H6 : upd _ l _ = H6
    obtain ⟨s_H6, e_l⟩ := gen_new n_l g_H6
    clear g_H6
    have e1 := e1.same s_H6
    have e2 := e2.same s_H6
    have e3 := e3.same s_H6
    have sA : Same H H6 := s1.trans (s2.trans (s3.trans s_H6))
    have hx : ∀ x ∈ ([.ref a1, .ref a2, .ref a3] : List V), ∃ a c d, x = .ref a ∧ ErrF ca H6 a c d [("number", .int v), ("day", .int u)] ∧ c ∈ ERRS ∧ XfC K (ca c) ∧ PySem.W.findIn K (.ref (ca c)) "day" = some none ∧ PySem.W.findIn K (.ref (ca c)) "number" = some none := by
      intro x m
      simp only [List.mem_cons, List.not_mem_nil, or_false] at m
      rcases m with rfl | rfl | rfl
      · exact ⟨a1, 7, d1, rfl, e1, by decide, T.xf_BadEntry, T.nf_BadEntry_day, T.nf_BadEntry_number⟩
      · exact ⟨a2, 8, d2, rfl, e2, by decide, T.xf_NoEntry, T.nf_NoEntry_day, T.nf_NoEntry_number⟩
      · exact ⟨a3, 16, d3, rfl, e3, by decide, T.xf_NotPlain, T.nf_NotPlain_day, T.nf_NotPlain_number⟩
    fail "rd"
    intro D nD
    refine lc_list (K := K) (a := l) (xs := [.ref a1, .ref a2, .ref a3]) (fun i H' => Same H6 H' ∧ ∃ ts, H' D = some (.lst ts) ∧ ts.length = i ∧ ∀ t ∈ ts, ErrT ca H' t) ⟨same_upd nD, [], upd_same, rfl, fun t m => by cases m⟩ (fun i H' _ s => SqL.of (s.1 _ _ e_l)) ?_ ?_
    · rintro i x H7 hi ⟨s7, ts, eD, lt, hts⟩
      obtain ⟨a, c, d, rfl, ef, hc, hX, hN, hM⟩ := hx x (List.mem_of_getElem? hi)
      have ef := ef.same s7
      fail "rd"
      refine ⟨a, ca c, d, _, .int u, rfl, hX, hN, ef.at_, ef.dd, rfl, ?_⟩
      fail "rd"
      refine ⟨a, ca c, d, _, .int v, rfl, hX, hM, ef.at_, ef.dd, rfl, ?_⟩
      fail "rd"
      intro t1 n_t1
      generalize g_H71 : upd _ t1 _ = H71
      obtain ⟨s_H71, e_t1⟩ := gen_new n_t1 g_H71
      clear g_H71
      fail "rd"
      intro t2 n_t2
      generalize g_H72 : upd _ t2 _ = H72
      obtain ⟨s_H72, e_t2⟩ := gen_new n_t2 g_H72
      clear g_H72
      have e_t1 := s_H72 _ _ e_t1
      refine eqTF e_t1 e_t2 (by rfl) ?_
      fail "rd"
      intro t n_t
      generalize g_H73 : upd _ t _ = H73
      obtain ⟨s_H73, e_t⟩ := gen_new n_t g_H73
      clear g_H73
      have s_H8 := s_H71.trans (s_H72.trans s_H73)
      have n_t : H7 t = none := s_H71.free (s_H72.free n_t)
      generalize H73 = H8 at *
      refine ⟨ts, s_H8 _ _ eD, by have := (List.getElem?_eq_some_iff.mp hi).1; exact Nat.lt_of_lt_of_le (show ts.length < 100 by simp at this; omega) (line_le (by decide)), ?_⟩
      have nDt : t ≠ D := fun e => by rw [e, eD] at n_t; cases n_t
      have s8 : Same H6 (upd H8 D (.lst (ts ++ [.ref t]))) := fun b o e => by
        have nb : b ≠ D := ne_of_none e nD
        rw [upd_ne nb]
        exact s_H8 _ _ (s7 _ _ e)
      refine ⟨s8, _, upd_same, by rw [List.length_append, lt]; rfl, fun y m => ?_⟩
      rcases List.mem_append.mp m with m | m
      · exact ((hts y m).same s_H8).put (s_H8 _ _ eD) keep_upd
      · obtain rfl := List.mem_singleton.mp m
        exact ErrT.put ⟨t, a, rfl, e_t, (ef.same s_H8).o hc⟩ (s_H8 _ _ eD) keep_upd
    · rintro H7 ⟨s7, ts, eD, lt, hts⟩
      fail "rd"
      exact k D H7 ts (sA.trans s7) eD lt hts

abbrev s_NotEnough_init : Stmt := inClass (top 12) 0
theorem sc_NotEnough_init : FnScope ["self", "day", "number", "missing"] ["self", "day", "number", "missing"] (defScope s_NotEnough_init) := ⟨rfl, rfl, rfl, by decide +kernel, rfl, by decide +kernel, by decide +kernel⟩
theorem ok_NotEnough_init {f : Addr} {fd : FuncData} (F : Fun K "__init__" "NotEnough.__init__" s_NotEnough_init f fd) (T : Txt K mg ca)  : FnOk P w K mg base (L2.CX P w) 1 f fd ["self", "day", "number", "missing"] (spErr (ca 13) ["day", "number", "missing"]) := by
  refine F.okX sc_NotEnough_init (fun vs H Q E h => ?_) (fun cdv A outer s H vs Q E hr h => ?_)
  · obtain ⟨a, us, rfl, hl, _⟩ := h
    exact congrArg Nat.succ hl
  · obtain ⟨a, us, rfl, hl, ha, k⟩ := h
    obtain ⟨x0, x1, x2, rfl⟩ := list_3 hl
    refine ⟨_, pss_cons (ps_ost (pv 0) (pv 1)) (pss_cons (ps_ost (pv 0) (pv 2)) (pss_one (ps_ost (pv 0) (pv 3)))), ?_⟩
    refine ⟨_, rfl, _, rfl, ?_⟩
    refine err_1 T.ox_NotEnough T.nf_NotEnough_day ha fun dx H1 nd ne a1 d1 m1 => ?_
    refine ⟨_, rfl, _, rfl, ?_⟩
    refine err_2 T.ox_NotEnough T.nf_NotEnough_number a1 d1 (by simp) ne fun H2 a2 d2 m2 => ?_
    refine ⟨_, rfl, _, rfl, ?_⟩
    refine err_2 T.ox_NotEnough T.nf_NotEnough_missing a2 d2 (by simp) ne fun H3 a3 d3 m3 => ?_
    exact k dx _ nd ne a3 d3 fun b o e n => m3 _ _ (m2 _ _ (m1 _ _ e n) (ne_of_none e nd)) (ne_of_none e nd)
abbrev s_TooMany_init : Stmt := inClass (top 13) 0
theorem sc_TooMany_init : FnScope ["self", "day", "number", "left"] ["self", "day", "number", "left"] (defScope s_TooMany_init) := ⟨rfl, rfl, rfl, by decide +kernel, rfl, by decide +kernel, by decide +kernel⟩
theorem ok_TooMany_init {f : Addr} {fd : FuncData} (F : Fun K "__init__" "TooMany.__init__" s_TooMany_init f fd) (T : Txt K mg ca)  : FnOk P w K mg base (L2.CX P w) 1 f fd ["self", "day", "number", "left"] (spErr (ca 14) ["day", "number", "left"]) := by
  refine F.okX sc_TooMany_init (fun vs H Q E h => ?_) (fun cdv A outer s H vs Q E hr h => ?_)
  · obtain ⟨a, us, rfl, hl, _⟩ := h
    exact congrArg Nat.succ hl
  · obtain ⟨a, us, rfl, hl, ha, k⟩ := h
    obtain ⟨x0, x1, x2, rfl⟩ := list_3 hl
    refine ⟨_, pss_cons (ps_ost (pv 0) (pv 1)) (pss_cons (ps_ost (pv 0) (pv 2)) (pss_one (ps_ost (pv 0) (pv 3)))), ?_⟩
    refine ⟨_, rfl, _, rfl, ?_⟩
    refine err_1 T.ox_TooMany T.nf_TooMany_day ha fun dx H1 nd ne a1 d1 m1 => ?_
    refine ⟨_, rfl, _, rfl, ?_⟩
    refine err_2 T.ox_TooMany T.nf_TooMany_number a1 d1 (by simp) ne fun H2 a2 d2 m2 => ?_
    refine ⟨_, rfl, _, rfl, ?_⟩
    refine err_2 T.ox_TooMany T.nf_TooMany_left a2 d2 (by simp) ne fun H3 a3 d3 m3 => ?_
    exact k dx _ nd ne a3 d3 fun b o e n => m3 _ _ (m2 _ _ (m1 _ _ e n) (ne_of_none e nd)) (ne_of_none e nd)
abbrev s_Contradiction_init : Stmt := inClass (top 14) 0
theorem sc_Contradiction_init : FnScope ["self", "pair"] ["self", "pair"] (defScope s_Contradiction_init) := ⟨rfl, rfl, rfl, by decide +kernel, rfl, by decide +kernel, by decide +kernel⟩
theorem ok_Contradiction_init {f : Addr} {fd : FuncData} (F : Fun K "__init__" "Contradiction.__init__" s_Contradiction_init f fd) (T : Txt K mg ca)  : FnOk P w K mg base (L2.CX P w) 1 f fd ["self", "pair"] (spErr (ca 15) ["pair"]) := by
  refine F.okX sc_Contradiction_init (fun vs H Q E h => ?_) (fun cdv A outer s H vs Q E hr h => ?_)
  · obtain ⟨a, us, rfl, hl, _⟩ := h
    exact congrArg Nat.succ hl
  · obtain ⟨a, us, rfl, hl, ha, k⟩ := h
    obtain ⟨x0, rfl⟩ := list_1 hl
    refine ⟨_, pss_one (ps_ost (pv 0) (pv 1)), ?_⟩
    refine ⟨_, rfl, _, rfl, ?_⟩
    refine err_1 T.ox_Contradiction T.nf_Contradiction_pair ha fun dx H1 nd ne a1 d1 m1 => ?_
    exact k dx _ nd ne a1 d1 fun b o e n => m1 _ _ e n
abbrev s_BadRule_init : Stmt := inClass (top 8) 0
theorem sc_BadRule_init : FnScope ["self", "word"] ["self", "word"] (defScope s_BadRule_init) := ⟨rfl, rfl, rfl, by decide +kernel, rfl, by decide +kernel, by decide +kernel⟩
theorem ok_BadRule_init {f : Addr} {fd : FuncData} (F : Fun K "__init__" "BadRule.__init__" s_BadRule_init f fd) (T : Txt K mg ca)  : FnOk P w K mg base (L2.CX P w) 1 f fd ["self", "word"] (spErr (ca 9) ["word"]) := by
  refine F.okX sc_BadRule_init (fun vs H Q E h => ?_) (fun cdv A outer s H vs Q E hr h => ?_)
  · obtain ⟨a, us, rfl, hl, _⟩ := h
    exact congrArg Nat.succ hl
  · obtain ⟨a, us, rfl, hl, ha, k⟩ := h
    obtain ⟨x0, rfl⟩ := list_1 hl
    refine ⟨_, pss_one (ps_ost (pv 0) (pv 1)), ?_⟩
    refine ⟨_, rfl, _, rfl, ?_⟩
    refine err_1 T.ox_BadRule T.nf_BadRule_word ha fun dx H1 nd ne a1 d1 m1 => ?_
    exact k dx _ nd ne a1 d1 fun b o e n => m1 _ _ e n
abbrev s_Short_init : Stmt := inClass (top 9) 0
theorem sc_Short_init : FnScope ["self", "missing"] ["self", "missing"] (defScope s_Short_init) := ⟨rfl, rfl, rfl, by decide +kernel, rfl, by decide +kernel, by decide +kernel⟩
theorem ok_Short_init {f : Addr} {fd : FuncData} (F : Fun K "__init__" "Short.__init__" s_Short_init f fd) (T : Txt K mg ca)  : FnOk P w K mg base (L2.CX P w) 1 f fd ["self", "missing"] (spErr (ca 10) ["missing"]) := by
  refine F.okX sc_Short_init (fun vs H Q E h => ?_) (fun cdv A outer s H vs Q E hr h => ?_)
  · obtain ⟨a, us, rfl, hl, _⟩ := h
    exact congrArg Nat.succ hl
  · obtain ⟨a, us, rfl, hl, ha, k⟩ := h
    obtain ⟨x0, rfl⟩ := list_1 hl
    refine ⟨_, pss_one (ps_ost (pv 0) (pv 1)), ?_⟩
    refine ⟨_, rfl, _, rfl, ?_⟩
    refine err_1 T.ox_Short T.nf_Short_missing ha fun dx H1 nd ne a1 d1 m1 => ?_
    exact k dx _ nd ne a1 d1 fun b o e n => m1 _ _ e n
abbrev s_Shut_init : Stmt := inClass (top 17) 0
theorem sc_Shut_init : FnScope ["self", "day"] ["self", "day"] (defScope s_Shut_init) := ⟨rfl, rfl, rfl, by decide +kernel, rfl, by decide +kernel, by decide +kernel⟩
theorem ok_Shut_init {f : Addr} {fd : FuncData} (F : Fun K "__init__" "Shut.__init__" s_Shut_init f fd) (T : Txt K mg ca)  : FnOk P w K mg base (L2.CX P w) 1 f fd ["self", "day"] (spErr (ca 18) ["day"]) := by
  refine F.okX sc_Shut_init (fun vs H Q E h => ?_) (fun cdv A outer s H vs Q E hr h => ?_)
  · obtain ⟨a, us, rfl, hl, _⟩ := h
    exact congrArg Nat.succ hl
  · obtain ⟨a, us, rfl, hl, ha, k⟩ := h
    obtain ⟨x0, rfl⟩ := list_1 hl
    refine ⟨_, pss_one (ps_ost (pv 0) (pv 1)), ?_⟩
    refine ⟨_, rfl, _, rfl, ?_⟩
    refine err_1 T.ox_Shut T.nf_Shut_day ha fun dx H1 nd ne a1 d1 m1 => ?_
    exact k dx _ nd ne a1 d1 fun b o e n => m1 _ _ e n
abbrev s_NotClosed_init : Stmt := inClass (top 18) 0
theorem sc_NotClosed_init : FnScope ["self", "day"] ["self", "day"] (defScope s_NotClosed_init) := ⟨rfl, rfl, rfl, by decide +kernel, rfl, by decide +kernel, by decide +kernel⟩
theorem ok_NotClosed_init {f : Addr} {fd : FuncData} (F : Fun K "__init__" "NotClosed.__init__" s_NotClosed_init f fd) (T : Txt K mg ca)  : FnOk P w K mg base (L2.CX P w) 1 f fd ["self", "day"] (spErr (ca 19) ["day"]) := by
  refine F.okX sc_NotClosed_init (fun vs H Q E h => ?_) (fun cdv A outer s H vs Q E hr h => ?_)
  · obtain ⟨a, us, rfl, hl, _⟩ := h
    exact congrArg Nat.succ hl
  · obtain ⟨a, us, rfl, hl, ha, k⟩ := h
    obtain ⟨x0, rfl⟩ := list_1 hl
    refine ⟨_, pss_one (ps_ost (pv 0) (pv 1)), ?_⟩
    refine ⟨_, rfl, _, rfl, ?_⟩
    refine err_1 T.ox_NotClosed T.nf_NotClosed_day ha fun dx H1 nd ne a1 d1 m1 => ?_
    exact k dx _ nd ne a1 d1 fun b o e n => m1 _ _ e n
abbrev s_Unfit_init : Stmt := inClass (top 20) 0
theorem sc_Unfit_init : FnScope ["self", "factors"] ["self", "factors"] (defScope s_Unfit_init) := ⟨rfl, rfl, rfl, by decide +kernel, rfl, by decide +kernel, by decide +kernel⟩
theorem ok_Unfit_init {f : Addr} {fd : FuncData} (F : Fun K "__init__" "Unfit.__init__" s_Unfit_init f fd) (T : Txt K mg ca)  : FnOk P w K mg base (L2.CX P w) 1 f fd ["self", "factors"] (spErr (ca 21) ["factors"]) := by
  refine F.okX sc_Unfit_init (fun vs H Q E h => ?_) (fun cdv A outer s H vs Q E hr h => ?_)
  · obtain ⟨a, us, rfl, hl, _⟩ := h
    exact congrArg Nat.succ hl
  · obtain ⟨a, us, rfl, hl, ha, k⟩ := h
    obtain ⟨x0, rfl⟩ := list_1 hl
    refine ⟨_, pss_one (ps_ost (pv 0) (pv 1)), ?_⟩
    refine ⟨_, rfl, _, rfl, ?_⟩
    refine err_1 T.ox_Unfit T.nf_Unfit_factors ha fun dx H1 nd ne a1 d1 m1 => ?_
    exact k dx _ nd ne a1 d1 fun b o e n => m1 _ _ e n
abbrev s_l_others : Stmt := top 27
theorem sc_l_others : FnScope ["_law_day", "_law_number", "_law_units", "_law_name", "_law_found", "_law_short", "_law_many", "_law_clash"] ["_law_day", "_law_number", "_law_units", "_law_name"] (defScope s_l_others) := ⟨rfl, rfl, rfl, by decide +kernel, rfl, by decide +kernel, by decide +kernel⟩
def LI (ca : Nat → Addr) (H : Hp) (l : Addr) (ts : List V) (n : Nat) : Prop := H l = some (.lst ts) ∧ ts.length = n ∧ ∀ t ∈ ts, ErrT ca H t
theorem LI.same {ca : Nat → Addr} {H H' : Hp} {l : Addr} {ts : List V} {n : Nat} (h : LI ca H l ts n) (s : Same H H') : LI ca H' l ts n := ⟨s _ _ h.1, h.2.1, fun t m => (h.2.2 t m).same s⟩
theorem LI.add {ca : Nat → Addr} {H H' : Hp} {l : Addr} {ts : List V} {t : V} {n : Nat} (h : LI ca H l ts n) (k : Keep l H H') (e : H' l = some (.lst (ts ++ [t]))) (ht : ErrT ca H t) : LI ca H' l (ts ++ [t]) (n + 1) :=
  ⟨e, by rw [List.length_append, h.2.1]; rfl, fun y m => by
    rcases List.mem_append.mp m with m | m
    · exact (h.2.2 y m).put h.1 k
    · obtain rfl := List.mem_singleton.mp m
      exact ht.put h.1 k⟩
theorem LI.size {ca : Nat → Addr} {H : Hp} {l : Addr} {ts : List V} {n : Nat} (h : LI ca H l ts n) (k : n < 100 := by decide) : ts.length < sizeLine := Nat.lt_of_lt_of_le (show ts.length < 100 by rw [h.2.1]; exact k) (line_le (by decide))
def sp_l_others (_ : PySem.W.Frag) (ca : Nat → Addr) : Sp := fun vs H Q _ => ∃ (u v w : Int) (z : Str), vs = [.int u, .int v, .int w, .str z] ∧ PyData.strOk z = true ∧ ∀ (p : Addr) (H' : Hp) (ts : List V), Same H H' → H' p = some (.lst ts) → ts.length = 11 → (∀ t ∈ ts, ErrT ca H' t) → Q (.ref p) H'
theorem ok_l_others {f : Addr} {fd : FuncData} (F : Fun K "_law_others" "_law_others" s_l_others f fd) (T : Txt K mg ca) (O_NotEnough_init : OwnE P w K mg base "NotEnough" (ca 13) ["day", "number", "missing"]) (O_TooMany_init : OwnE P w K mg base "TooMany" (ca 14) ["day", "number", "left"]) (O_Contradiction_init : OwnE P w K mg base "Contradiction" (ca 15) ["pair"]) (O_BadRule_init : OwnE P w K mg base "BadRule" (ca 9) ["word"]) (O_Short_init : OwnE P w K mg base "Short" (ca 10) ["missing"]) (O_Shut_init : OwnE P w K mg base "Shut" (ca 18) ["day"]) (O_NotClosed_init : OwnE P w K mg base "NotClosed" (ca 19) ["day"]) (O_Unfit_init : OwnE P w K mg base "Unfit" (ca 21) ["factors"]) : FnOk P w K mg base (L2.CX P w) 3 f fd ["_law_day", "_law_number", "_law_units", "_law_name"] (sp_l_others K ca) := by
  refine F.okX sc_l_others (fun vs H Q E h => ?_) (fun cdv A outer s H vs Q E hr h => ?_)
  · obtain ⟨_, _, _, _, rfl, _⟩ := h
    rfl
  · obtain ⟨u, v, w, z, rfl, hz, k⟩ := h
    refine ⟨_, pss_cons (ps_set (i := 4) sc_l_others.nd rfl (Or.inl rfl) (pe_lst (pa_cons (pe_tup (pa_cons (pe_exv0 PySem.F.excBase_ValueError T.ex_NoRatio T.g_NoRatio T.kp_NoRatio rfl) (pa_cons pe_bl pa_nil))) (pa_cons (pe_tup (pa_cons (pe_exv0 PySem.F.excBase_ValueError T.ex_NotPossible T.g_NotPossible T.kp_NotPossible rfl) (pa_cons pe_bl pa_nil))) (pa_cons (pe_tup (pa_cons (pe_exv0 PySem.F.excBase_ValueError T.ex_NotTold T.g_NotTold T.kp_NotTold rfl) (pa_cons pe_bl pa_nil))) pa_nil))))) (pss_cons (ps_set (i := 5) sc_l_others.nd rfl (Or.inl rfl) (pe_exv O_NotEnough_init (hr.mono (by decide)) rfl (pa_cons (pv 0) (pa_cons (pv 1) (pa_cons (pv 2) pa_nil))))) (pss_cons (ps_expr (pe_bm PySem.F.plainAttrs_list PySem.F.slot_list_append PySem.F.type_list_append mt_append (pv 4) (pa_cons (pe_tup (pa_cons (pv 5) (pa_cons (pe_cmpR (op_eqD (Room.units (hr.mono (Nat.zero_le _)))) (pe_tup (pa_cons (pe_exf (K := K) (pv 5) rfl rfl) (pa_cons (pe_exf (K := K) (pv 5) rfl rfl) (pa_cons (pe_exf (K := K) (pv 5) rfl rfl) pa_nil)))) (pe_tup (pa_cons (pv 0) (pa_cons (pv 1) (pa_cons (pv 2) pa_nil)))) (nomark _)) pa_nil))) pa_nil))) (pss_cons (ps_set (i := 6) sc_l_others.nd rfl (Or.inl rfl) (pe_exv O_TooMany_init (hr.mono (by decide)) rfl (pa_cons (pv 0) (pa_cons (pv 1) (pa_cons (pv 2) pa_nil))))) (pss_cons (ps_expr (pe_bm PySem.F.plainAttrs_list PySem.F.slot_list_append PySem.F.type_list_append mt_append (pv 4) (pa_cons (pe_tup (pa_cons (pv 6) (pa_cons (pe_cmpR (op_eqD (Room.units (hr.mono (Nat.zero_le _)))) (pe_tup (pa_cons (pe_exf (K := K) (pv 6) rfl rfl) (pa_cons (pe_exf (K := K) (pv 6) rfl rfl) (pa_cons (pe_exf (K := K) (pv 6) rfl rfl) pa_nil)))) (pe_tup (pa_cons (pv 0) (pa_cons (pv 1) (pa_cons (pv 2) pa_nil)))) (nomark _)) pa_nil))) pa_nil))) (pss_cons (ps_expr (pe_bm PySem.F.plainAttrs_list PySem.F.slot_list_append PySem.F.type_list_append mt_append (pv 4) (pa_cons (pe_tup (pa_cons (pe_exv O_BadRule_init (hr.mono (by decide)) rfl (pa_cons (pv 3) pa_nil)) (pa_cons (pe_cmpR op_eq (pe_exf (K := K) (pe_exv O_BadRule_init (hr.mono (by decide)) rfl (pa_cons (pv 3) pa_nil)) rfl rfl) (pv 3) (nomark _)) pa_nil))) pa_nil))) (pss_cons (ps_expr (pe_bm PySem.F.plainAttrs_list PySem.F.slot_list_append PySem.F.type_list_append mt_append (pv 4) (pa_cons (pe_tup (pa_cons (pe_exv O_Short_init (hr.mono (by decide)) rfl (pa_cons (pv 2) pa_nil)) (pa_cons (pe_cmpR op_eq (pe_exf (K := K) (pe_exv O_Short_init (hr.mono (by decide)) rfl (pa_cons (pv 2) pa_nil)) rfl rfl) (pv 2) (nomark _)) pa_nil))) pa_nil))) (pss_cons (ps_set (i := 7) sc_l_others.nd rfl (Or.inl rfl) (pe_exv O_Contradiction_init (hr.mono (by decide)) rfl (pa_cons (pe_tup (pa_cons (pv 3) (pa_cons pe_str pa_nil))) pa_nil))) (pss_cons (ps_expr (pe_bm PySem.F.plainAttrs_list PySem.F.slot_list_append PySem.F.type_list_append mt_append (pv 4) (pa_cons (pe_tup (pa_cons (pv 7) (pa_cons (pe_cmpR (op_eqD (Room.units (hr.mono (Nat.zero_le _)))) (pe_exf (K := K) (pv 7) rfl rfl) (pe_tup (pa_cons (pv 3) (pa_cons pe_str pa_nil))) (nomark _)) pa_nil))) pa_nil))) (pss_cons (ps_expr (pe_bm PySem.F.plainAttrs_list PySem.F.slot_list_append PySem.F.type_list_append mt_append (pv 4) (pa_cons (pe_tup (pa_cons (pe_exv O_Shut_init (hr.mono (by decide)) rfl (pa_cons (pv 0) pa_nil)) (pa_cons (pe_cmpR op_eq (pe_exf (K := K) (pe_exv O_Shut_init (hr.mono (by decide)) rfl (pa_cons (pv 0) pa_nil)) rfl rfl) (pv 0) (nomark _)) pa_nil))) pa_nil))) (pss_cons (ps_expr (pe_bm PySem.F.plainAttrs_list PySem.F.slot_list_append PySem.F.type_list_append mt_append (pv 4) (pa_cons (pe_tup (pa_cons (pe_exv O_NotClosed_init (hr.mono (by decide)) rfl (pa_cons (pv 1) pa_nil)) (pa_cons (pe_cmpR op_eq (pe_exf (K := K) (pe_exv O_NotClosed_init (hr.mono (by decide)) rfl (pa_cons (pv 1) pa_nil)) rfl rfl) (pv 1) (nomark _)) pa_nil))) pa_nil))) (pss_cons (ps_expr (pe_bm PySem.F.plainAttrs_list PySem.F.slot_list_append PySem.F.type_list_append mt_append (pv 4) (pa_cons (pe_tup (pa_cons (pe_exv O_Unfit_init (hr.mono (by decide)) rfl (pa_cons (pe_lst (pa_cons (pv 2) (pa_cons (pv 0) pa_nil))) pa_nil)) (pa_cons (pe_cmpR (op_eqD (Room.units (hr.mono (Nat.zero_le _)))) (pe_exf (K := K) (pe_exv O_Unfit_init (hr.mono (by decide)) rfl (pa_cons (pe_lst (pa_cons (pv 2) (pa_cons (pv 0) pa_nil))) pa_nil)) rfl rfl) (pe_lst (pa_cons (pv 2) (pa_cons (pv 0) pa_nil))) (nomark _)) pa_nil))) pa_nil))) (pss_one (ps_ret (pv 4)))))))))))))), ?_⟩
    fail "rd"
    intro a1 n_a1
    generalize g_H1 : upd _ a1 _ = H1
    obtain ⟨s_H1, e_a1⟩ := gen_new n_a1 g_H1
    clear g_H1
    fail "rd"
    intro t1 n_t1
    generalize g_H2 : upd _ t1 _ = H2
    obtain ⟨s_H2, e_t1⟩ := gen_new n_t1 g_H2
    clear g_H2
    fail "rd"
    intro a2 n_a2
    generalize g_H3 : upd _ a2 _ = H3
    obtain ⟨s_H3, e_a2⟩ := gen_new n_a2 g_H3
    clear g_H3
    fail "rd"
    intro t2 n_t2
    generalize g_H4 : upd _ t2 _ = H4
    obtain ⟨s_H4, e_t2⟩ := gen_new n_t2 g_H4
    clear g_H4
    fail "rd"
    intro a3 n_a3
    generalize g_H5 : upd _ a3 _ = H5
    obtain ⟨s_H5, e_a3⟩ := gen_new n_a3 g_H5
    clear g_H5
    fail "rd"
    intro t3 n_t3
    generalize g_H6 : upd _ t3 _ = H6
    obtain ⟨s_H6, e_t3⟩ := gen_new n_t3 g_H6
    clear g_H6
    fail "rd"
    intro l n_l
    generalize g_H7 : upd _ l _ = H7
    obtain ⟨s_H7, e_l⟩ := gen_new n_l g_H7
    clear g_H7
    have L7 : LI ca H7 l [.ref t1, .ref t2, .ref t3] 3 := by
      refine ⟨e_l, rfl, fun t m => ?_⟩
      simp only [List.mem_cons, List.not_mem_nil, or_false] at m
      rcases m with rfl | rfl | rfl
      · have c := s_H3.trans (s_H4.trans (s_H5.trans (s_H6.trans s_H7)))
        exact ⟨t1, a1, rfl, c _ _ e_t1, 1, by decide, none, c _ _ (s_H2 _ _ e_a1), fun d q => by cases q⟩
      · have c := s_H5.trans (s_H6.trans s_H7)
        exact ⟨t2, a2, rfl, c _ _ e_t2, 17, by decide, none, c _ _ (s_H4 _ _ e_a2), fun d q => by cases q⟩
      · exact ⟨t3, a3, rfl, s_H7 _ _ e_t3, 20, by decide, none, s_H7 _ _ (s_H6 _ _ e_a3), fun d q => by cases q⟩
    have sA : Keep l H H7 := Keep.of (s_H1.trans (s_H2.trans (s_H3.trans (s_H4.trans (s_H5.trans (s_H6.trans s_H7))))))
    have nl : H l = none := (s_H1.trans (s_H2.trans (s_H3.trans (s_H4.trans (s_H5.trans s_H6))))).free n_l
    clear e_a1 e_t1 e_a2 e_t2 e_a3 e_t3 s_H1 s_H2 s_H3 s_H4 s_H5 s_H6 s_H7 n_a1 n_t1 n_a2 n_t2 n_a3 n_t3 n_l
    have e_l := L7.1
    fail "rd"
    refine ⟨by decide, fun ax1 dx1 H8 nax1 ndx1 nex1 sx1 eax1 edx1 => ?_⟩
    have ex1 : ErrF ca H8 ax1 13 dx1 [("missing", .int w), ("number", .int v), ("day", .int u)] := ⟨eax1, edx1⟩
    clear eax1 edx1
    have L8 := L7.same sx1
    have e_l := L8.1
    fail "rd"
    refine ⟨ax1, ca 13, dx1, _, .int u, rfl, T.xf_NotEnough, T.nf_NotEnough_day, ex1.at_, ex1.dd, rfl, ?_⟩
    fail "rd"
    refine ⟨ax1, ca 13, dx1, _, .int v, rfl, T.xf_NotEnough, T.nf_NotEnough_number, ex1.at_, ex1.dd, rfl, ?_⟩
    fail "rd"
    refine ⟨ax1, ca 13, dx1, _, .int w, rfl, T.xf_NotEnough, T.nf_NotEnough_missing, ex1.at_, ex1.dd, rfl, ?_⟩
    fail "rd"
    intro q1 n_q1
    generalize g_H9 : upd _ q1 _ = H9
    obtain ⟨s_H9, e_q1⟩ := gen_new n_q1 g_H9
    clear g_H9
    have L9 := L8.same s_H9
    have e_l := L9.1
    have ex1 := ex1.same s_H9
    fail "rd"
    intro r1 n_r1
    generalize g_H10 : upd _ r1 _ = H10
    obtain ⟨s_H10, e_r1⟩ := gen_new n_r1 g_H10
    clear g_H10
    have L10 := L9.same s_H10
    have e_l := L10.1
    have ex1 := ex1.same s_H10
    refine eqTF (s_H10 _ _ e_q1) e_r1 (by rfl) ?_
    fail "rd"
    intro t_1 n_t_1
    generalize g_H11 : upd _ t_1 _ = H11
    obtain ⟨s_H11, e_t_1⟩ := gen_new n_t_1 g_H11
    clear g_H11
    have L11 := L10.same s_H11
    have e_l := L11.1
    have ex1 := ex1.same s_H11
    fail "rd"
    refine ⟨l, _, _, rfl, rfl, L11.1, L11.size, ?_⟩
    generalize g_H12 : upd _ l _ = H12
    obtain ⟨k_H12, e_H12⟩ := gen_put g_H12
    clear g_H12
    have L12 := L11.add k_H12 e_H12 ⟨t_1, ax1, rfl, e_t_1, ex1.o⟩
    have sA := sA.trans (Keep.trans (Keep.of (sx1.trans (s_H9.trans (s_H10.trans (s_H11))))) k_H12)
    clear ex1 L7 L8 L9 L10 L11
    have e_l := L12.1
    fail "rd"
    refine ⟨by decide, fun ax2 dx2 H13 nax2 ndx2 nex2 sx2 eax2 edx2 => ?_⟩
    have ex2 : ErrF ca H13 ax2 14 dx2 [("left", .int w), ("number", .int v), ("day", .int u)] := ⟨eax2, edx2⟩
    clear eax2 edx2
    have L13 := L12.same sx2
    have e_l := L13.1
    fail "rd"
    refine ⟨ax2, ca 14, dx2, _, .int u, rfl, T.xf_TooMany, T.nf_TooMany_day, ex2.at_, ex2.dd, rfl, ?_⟩
    fail "rd"
    refine ⟨ax2, ca 14, dx2, _, .int v, rfl, T.xf_TooMany, T.nf_TooMany_number, ex2.at_, ex2.dd, rfl, ?_⟩
    fail "rd"
    refine ⟨ax2, ca 14, dx2, _, .int w, rfl, T.xf_TooMany, T.nf_TooMany_left, ex2.at_, ex2.dd, rfl, ?_⟩
    fail "rd"
    intro q2 n_q2
    generalize g_H14 : upd _ q2 _ = H14
    obtain ⟨s_H14, e_q2⟩ := gen_new n_q2 g_H14
    clear g_H14
    have L14 := L13.same s_H14
    have e_l := L14.1
    have ex2 := ex2.same s_H14
    fail "rd"
    intro r2 n_r2
    generalize g_H15 : upd _ r2 _ = H15
    obtain ⟨s_H15, e_r2⟩ := gen_new n_r2 g_H15
    clear g_H15
    have L15 := L14.same s_H15
    have e_l := L15.1
    have ex2 := ex2.same s_H15
    refine eqTF (s_H15 _ _ e_q2) e_r2 (by rfl) ?_
    fail "rd"
    intro t_2 n_t_2
    generalize g_H16 : upd _ t_2 _ = H16
    obtain ⟨s_H16, e_t_2⟩ := gen_new n_t_2 g_H16
    clear g_H16
    have L16 := L15.same s_H16
    have e_l := L16.1
    have ex2 := ex2.same s_H16
    fail "rd"
    refine ⟨l, _, _, rfl, rfl, L16.1, L16.size, ?_⟩
    generalize g_H17 : upd _ l _ = H17
    obtain ⟨k_H17, e_H17⟩ := gen_put g_H17
    clear g_H17
    have L17 := L16.add k_H17 e_H17 ⟨t_2, ax2, rfl, e_t_2, ex2.o⟩
    have sA := sA.trans (Keep.trans (Keep.of (sx2.trans (s_H14.trans (s_H15.trans (s_H16))))) k_H17)
    clear ex2 L12 L13 L14 L15 L16
    have e_l := L17.1
    fail "rd"
    refine ⟨by decide, fun ax3 dx3 H18 nax3 ndx3 nex3 sx3 eax3 edx3 => ?_⟩
    have ex3 : ErrF ca H18 ax3 9 dx3 [("word", .str z)] := ⟨eax3, edx3⟩
    clear eax3 edx3
    have L18 := L17.same sx3
    have e_l := L18.1
    fail "rd"
    refine ⟨by decide, fun ax3b dx3b H19 nax3b ndx3b nex3b sx3b eax3b edx3b => ?_⟩
    have ex3b : ErrF ca H19 ax3b 9 dx3b [("word", .str z)] := ⟨eax3b, edx3b⟩
    clear eax3b edx3b
    have L19 := L18.same sx3b
    have e_l := L19.1
    fail "rd"
    have ex3 := ex3.same sx3b
    refine ⟨ax3b, ca 9, dx3b, _, .str z, rfl, T.xf_BadRule, T.nf_BadRule_word, ex3b.at_, ex3b.dd, rfl, ?_⟩
    fail "rd"
    try rw [decide_eq_true rfl]
    intro t_3 n_t_3
    generalize g_H20 : upd _ t_3 _ = H20
    obtain ⟨s_H20, e_t_3⟩ := gen_new n_t_3 g_H20
    clear g_H20
    have L20 := L19.same s_H20
    have e_l := L20.1
    have ex3 := ex3.same s_H20
    fail "rd"
    refine ⟨l, _, _, rfl, rfl, L20.1, L20.size, ?_⟩
    generalize g_H21 : upd _ l _ = H21
    obtain ⟨k_H21, e_H21⟩ := gen_put g_H21
    clear g_H21
    have L21 := L20.add k_H21 e_H21 ⟨t_3, ax3, rfl, e_t_3, ex3.o⟩
    have sA := sA.trans (Keep.trans (Keep.of (sx3.trans (sx3b.trans (s_H20)))) k_H21)
    clear ex3 L17 L18 L19 L20
    have e_l := L21.1
    fail "rd"
    refine ⟨by decide, fun ax4 dx4 H22 nax4 ndx4 nex4 sx4 eax4 edx4 => ?_⟩
    have ex4 : ErrF ca H22 ax4 10 dx4 [("missing", .int w)] := ⟨eax4, edx4⟩
    clear eax4 edx4
    have L22 := L21.same sx4
    have e_l := L22.1
    fail "rd"
    refine ⟨by decide, fun ax4b dx4b H23 nax4b ndx4b nex4b sx4b eax4b edx4b => ?_⟩
    have ex4b : ErrF ca H23 ax4b 10 dx4b [("missing", .int w)] := ⟨eax4b, edx4b⟩
    clear eax4b edx4b
    have L23 := L22.same sx4b
    have e_l := L23.1
    fail "rd"
    have ex4 := ex4.same sx4b
    refine ⟨ax4b, ca 10, dx4b, _, .int w, rfl, T.xf_Short, T.nf_Short_missing, ex4b.at_, ex4b.dd, rfl, ?_⟩
    fail "rd"
    try rw [decide_eq_true rfl]
    intro t_4 n_t_4
    generalize g_H24 : upd _ t_4 _ = H24
    obtain ⟨s_H24, e_t_4⟩ := gen_new n_t_4 g_H24
    clear g_H24
    have L24 := L23.same s_H24
    have e_l := L24.1
    have ex4 := ex4.same s_H24
    fail "rd"
    refine ⟨l, _, _, rfl, rfl, L24.1, L24.size, ?_⟩
    generalize g_H25 : upd _ l _ = H25
    obtain ⟨k_H25, e_H25⟩ := gen_put g_H25
    clear g_H25
    have L25 := L24.add k_H25 e_H25 ⟨t_4, ax4, rfl, e_t_4, ex4.o⟩
    have sA := sA.trans (Keep.trans (Keep.of (sx4.trans (sx4b.trans (s_H24)))) k_H25)
    clear ex4 L21 L22 L23 L24
    have e_l := L25.1
    fail "rd"
    intro q5 n_q5
    generalize g_H26 : upd _ q5 _ = H26
    obtain ⟨s_H26, e_q5⟩ := gen_new n_q5 g_H26
    clear g_H26
    have L26 := L25.same s_H26
    have e_l := L26.1
    fail "rd"
    refine ⟨by decide, fun ax5 dx5 H27 nax5 ndx5 nex5 sx5 eax5 edx5 => ?_⟩
    have ex5 : ErrF ca H27 ax5 15 dx5 [("pair", .ref q5)] := ⟨eax5, edx5⟩
    clear eax5 edx5
    have L27 := L26.same sx5
    have e_l := L27.1
    fail "rd"
    have e_q5 := sx5 _ _ e_q5
    refine ⟨ax5, ca 15, dx5, _, .ref q5, rfl, T.xf_Contradiction, T.nf_Contradiction_pair, ex5.at_, ex5.dd, rfl, ?_⟩
    fail "rd"
    intro r5 n_r5
    generalize g_H28 : upd _ r5 _ = H28
    obtain ⟨s_H28, e_r5⟩ := gen_new n_r5 g_H28
    clear g_H28
    have L28 := L27.same s_H28
    have e_l := L28.1
    have ex5 := ex5.same s_H28
    refine eqTF (s_H28 _ _ e_q5) e_r5 (by simp [fdB, hz]; decide +kernel) ?_
    fail "rd"
    intro t_5 n_t_5
    generalize g_H29 : upd _ t_5 _ = H29
    obtain ⟨s_H29, e_t_5⟩ := gen_new n_t_5 g_H29
    clear g_H29
    have L29 := L28.same s_H29
    have e_l := L29.1
    have ex5 := ex5.same s_H29
    fail "rd"
    refine ⟨l, _, _, rfl, rfl, L29.1, L29.size, ?_⟩
    generalize g_H30 : upd _ l _ = H30
    obtain ⟨k_H30, e_H30⟩ := gen_put g_H30
    clear g_H30
    have L30 := L29.add k_H30 e_H30 ⟨t_5, ax5, rfl, e_t_5, ex5.o⟩
    have sA := sA.trans (Keep.trans (Keep.of (s_H26.trans (sx5.trans (s_H28.trans (s_H29))))) k_H30)
    clear ex5 L25 L26 L27 L28 L29
    have e_l := L30.1
    fail "rd"
    refine ⟨by decide, fun ax6 dx6 H31 nax6 ndx6 nex6 sx6 eax6 edx6 => ?_⟩
    have ex6 : ErrF ca H31 ax6 18 dx6 [("day", .int u)] := ⟨eax6, edx6⟩
    clear eax6 edx6
    have L31 := L30.same sx6
    have e_l := L31.1
    fail "rd"
    refine ⟨by decide, fun ax6b dx6b H32 nax6b ndx6b nex6b sx6b eax6b edx6b => ?_⟩
    have ex6b : ErrF ca H32 ax6b 18 dx6b [("day", .int u)] := ⟨eax6b, edx6b⟩
    clear eax6b edx6b
    have L32 := L31.same sx6b
    have e_l := L32.1
    fail "rd"
    have ex6 := ex6.same sx6b
    refine ⟨ax6b, ca 18, dx6b, _, .int u, rfl, T.xf_Shut, T.nf_Shut_day, ex6b.at_, ex6b.dd, rfl, ?_⟩
    fail "rd"
    try rw [decide_eq_true rfl]
    intro t_6 n_t_6
    generalize g_H33 : upd _ t_6 _ = H33
    obtain ⟨s_H33, e_t_6⟩ := gen_new n_t_6 g_H33
    clear g_H33
    have L33 := L32.same s_H33
    have e_l := L33.1
    have ex6 := ex6.same s_H33
    fail "rd"
    refine ⟨l, _, _, rfl, rfl, L33.1, L33.size, ?_⟩
    generalize g_H34 : upd _ l _ = H34
    obtain ⟨k_H34, e_H34⟩ := gen_put g_H34
    clear g_H34
    have L34 := L33.add k_H34 e_H34 ⟨t_6, ax6, rfl, e_t_6, ex6.o⟩
    have sA := sA.trans (Keep.trans (Keep.of (sx6.trans (sx6b.trans (s_H33)))) k_H34)
    clear ex6 L30 L31 L32 L33
    have e_l := L34.1
    fail "rd"
    refine ⟨by decide, fun ax7 dx7 H35 nax7 ndx7 nex7 sx7 eax7 edx7 => ?_⟩
    have ex7 : ErrF ca H35 ax7 19 dx7 [("day", .int v)] := ⟨eax7, edx7⟩
    clear eax7 edx7
    have L35 := L34.same sx7
    have e_l := L35.1
    fail "rd"
    refine ⟨by decide, fun ax7b dx7b H36 nax7b ndx7b nex7b sx7b eax7b edx7b => ?_⟩
    have ex7b : ErrF ca H36 ax7b 19 dx7b [("day", .int v)] := ⟨eax7b, edx7b⟩
    clear eax7b edx7b
    have L36 := L35.same sx7b
    have e_l := L36.1
    fail "rd"
    have ex7 := ex7.same sx7b
    refine ⟨ax7b, ca 19, dx7b, _, .int v, rfl, T.xf_NotClosed, T.nf_NotClosed_day, ex7b.at_, ex7b.dd, rfl, ?_⟩
    fail "rd"
    try rw [decide_eq_true rfl]
    intro t_7 n_t_7
    generalize g_H37 : upd _ t_7 _ = H37
    obtain ⟨s_H37, e_t_7⟩ := gen_new n_t_7 g_H37
    clear g_H37
    have L37 := L36.same s_H37
    have e_l := L37.1
    have ex7 := ex7.same s_H37
    fail "rd"
    refine ⟨l, _, _, rfl, rfl, L37.1, L37.size, ?_⟩
    generalize g_H38 : upd _ l _ = H38
    obtain ⟨k_H38, e_H38⟩ := gen_put g_H38
    clear g_H38
    have L38 := L37.add k_H38 e_H38 ⟨t_7, ax7, rfl, e_t_7, ex7.o⟩
    have sA := sA.trans (Keep.trans (Keep.of (sx7.trans (sx7b.trans (s_H37)))) k_H38)
    clear ex7 L34 L35 L36 L37
    have e_l := L38.1
    fail "rd"
    intro q8 n_q8
    generalize g_H39 : upd _ q8 _ = H39
    obtain ⟨s_H39, e_q8⟩ := gen_new n_q8 g_H39
    clear g_H39
    have L39 := L38.same s_H39
    have e_l := L39.1
    fail "rd"
    refine ⟨by decide, fun ax8 dx8 H40 nax8 ndx8 nex8 sx8 eax8 edx8 => ?_⟩
    have ex8 : ErrF ca H40 ax8 21 dx8 [("factors", .ref q8)] := ⟨eax8, edx8⟩
    clear eax8 edx8
    have L40 := L39.same sx8
    have e_l := L40.1
    fail "rd"
    intro p8 n_p8
    generalize g_H41 : upd _ p8 _ = H41
    obtain ⟨s_H41, e_p8⟩ := gen_new n_p8 g_H41
    clear g_H41
    have L41 := L40.same s_H41
    have e_l := L41.1
    have ex8 := ex8.same s_H41
    fail "rd"
    refine ⟨by decide, fun ax8b dx8b H42 nax8b ndx8b nex8b sx8b eax8b edx8b => ?_⟩
    have ex8b : ErrF ca H42 ax8b 21 dx8b [("factors", .ref p8)] := ⟨eax8b, edx8b⟩
    clear eax8b edx8b
    have L42 := L41.same sx8b
    have e_l := L42.1
    fail "rd"
    have ex8 := ex8.same sx8b
    have e_p8 := sx8b _ _ e_p8
    refine ⟨ax8b, ca 21, dx8b, _, .ref p8, rfl, T.xf_Unfit, T.nf_Unfit_factors, ex8b.at_, ex8b.dd, rfl, ?_⟩
    fail "rd"
    intro r8 n_r8
    generalize g_H43 : upd _ r8 _ = H43
    obtain ⟨s_H43, e_r8⟩ := gen_new n_r8 g_H43
    clear g_H43
    have L43 := L42.same s_H43
    have e_l := L43.1
    have ex8 := ex8.same s_H43
    refine eqLF (s_H43 _ _ e_p8) e_r8 (by rfl) ?_
    fail "rd"
    intro t_8 n_t_8
    generalize g_H44 : upd _ t_8 _ = H44
    obtain ⟨s_H44, e_t_8⟩ := gen_new n_t_8 g_H44
    clear g_H44
    have L44 := L43.same s_H44
    have e_l := L44.1
    have ex8 := ex8.same s_H44
    fail "rd"
    refine ⟨l, _, _, rfl, rfl, L44.1, L44.size, ?_⟩
    generalize g_H45 : upd _ l _ = H45
    obtain ⟨k_H45, e_H45⟩ := gen_put g_H45
    clear g_H45
    have L45 := L44.add k_H45 e_H45 ⟨t_8, ax8, rfl, e_t_8, ex8.o⟩
    have sA := sA.trans (Keep.trans (Keep.of (s_H39.trans (sx8.trans (s_H41.trans (sx8b.trans (s_H43.trans (s_H44))))))) k_H45)
    clear ex8 L38 L39 L40 L41 L42 L43 L44
    have e_l := L45.1
    fail "rd"
    exact k l _ _ (fun b o e => sA b o e (ne_of_none e nl)) L45.1 L45.2.1 L45.2.2

abbrev s_l_classes : Stmt := top 28
theorem sc_l_classes : FnScope ["_law_error", "_law_first", "_law_second", "_law_third", "_law_fourth", "_law_fifth", "_law_sixth", "_law_answers"] ["_law_error"] (defScope s_l_classes) := ⟨rfl, rfl, rfl, by decide +kernel, rfl, by decide +kernel, by decide +kernel⟩
theorem cls_one : ∀ c ∈ ERRS, cntB [decide (c = 7), decide (c = 4), decide (c = 9), decide (c = 15), decide (c = 11), decide (c = 6), decide (c = 8), decide (c = 5), decide (c = 1), decide (c = 19), decide (c = 13), decide (c = 16), decide (c = 17), decide (c = 20), decide (c = 10), decide (c = 18), decide (c = 14), decide (c = 21)] + b2i (decide (c = 12)) = 1 := by decide +kernel
def sp_l_classes (_ : PySem.W.Frag) (ca : Nat → Addr) : Sp := fun vs H Q _ => ∃ a : Addr, vs = [.ref a] ∧ ErrO ca H a ∧ ∀ H' : Hp, Same H H' → Q (.int 1) H'
theorem ok_l_classes {f : Addr} {fd : FuncData} (F : Fun K "_law_classes" "_law_classes" s_l_classes f fd) (T : Txt K mg ca)  : FnOk P w K mg base (L2.CX P w) 1 f fd ["_law_error"] (sp_l_classes K ca) := by
  refine F.okX sc_l_classes (fun vs H Q E h => ?_) (fun cdv A outer s H vs Q E hr h => ?_)
  · obtain ⟨_, rfl, _⟩ := h
    rfl
  · obtain ⟨a, rfl, hE, k⟩ := h
    refine ⟨_, pss_cons (ps_set (i := 1) sc_l_classes.nd rfl (Or.inl rfl) (pe_lst (pa_cons (pe_callB call_isX (by rfl) T.b_isinstance (by decide +kernel) (pa_cons (pv 0) (pa_cons (pe_glob (v := .ref (ca 7)) (by rfl) T.g_BadEntry rfl) pa_nil))) (pa_cons (pe_callB call_isX (by rfl) T.b_isinstance (by decide +kernel) (pa_cons (pv 0) (pa_cons (pe_glob (v := .ref (ca 4)) (by rfl) T.g_BadName rfl) pa_nil))) (pa_cons (pe_callB call_isX (by rfl) T.b_isinstance (by decide +kernel) (pa_cons (pv 0) (pa_cons (pe_glob (v := .ref (ca 9)) (by rfl) T.g_BadRule rfl) pa_nil))) pa_nil))))) (pss_cons (ps_set (i := 2) sc_l_classes.nd rfl (Or.inl rfl) (pe_lst (pa_cons (pe_callB call_isX (by rfl) T.b_isinstance (by decide +kernel) (pa_cons (pv 0) (pa_cons (pe_glob (v := .ref (ca 15)) (by rfl) T.g_Contradiction rfl) pa_nil))) (pa_cons (pe_callB call_isX (by rfl) T.b_isinstance (by decide +kernel) (pa_cons (pv 0) (pa_cons (pe_glob (v := .ref (ca 11)) (by rfl) T.g_NameTaken rfl) pa_nil))) (pa_cons (pe_callB call_isX (by rfl) T.b_isinstance (by decide +kernel) (pa_cons (pv 0) (pa_cons (pe_glob (v := .ref (ca 6)) (by rfl) T.g_Negative rfl) pa_nil))) pa_nil))))) (pss_cons (ps_set (i := 3) sc_l_classes.nd rfl (Or.inl rfl) (pe_lst (pa_cons (pe_callB call_isX (by rfl) T.b_isinstance (by decide +kernel) (pa_cons (pv 0) (pa_cons (pe_glob (v := .ref (ca 8)) (by rfl) T.g_NoEntry rfl) pa_nil))) (pa_cons (pe_callB call_isX (by rfl) T.b_isinstance (by decide +kernel) (pa_cons (pv 0) (pa_cons (pe_glob (v := .ref (ca 5)) (by rfl) T.g_NoPrice rfl) pa_nil))) (pa_cons (pe_callB call_isX (by rfl) T.b_isinstance (by decide +kernel) (pa_cons (pv 0) (pa_cons (pe_glob (v := .ref (ca 1)) (by rfl) T.g_NoRatio rfl) pa_nil))) pa_nil))))) (pss_cons (ps_set (i := 4) sc_l_classes.nd rfl (Or.inl rfl) (pe_lst (pa_cons (pe_callB call_isX (by rfl) T.b_isinstance (by decide +kernel) (pa_cons (pv 0) (pa_cons (pe_glob (v := .ref (ca 19)) (by rfl) T.g_NotClosed rfl) pa_nil))) (pa_cons (pe_callB call_isX (by rfl) T.b_isinstance (by decide +kernel) (pa_cons (pv 0) (pa_cons (pe_glob (v := .ref (ca 13)) (by rfl) T.g_NotEnough rfl) pa_nil))) (pa_cons (pe_callB call_isX (by rfl) T.b_isinstance (by decide +kernel) (pa_cons (pv 0) (pa_cons (pe_glob (v := .ref (ca 16)) (by rfl) T.g_NotPlain rfl) pa_nil))) pa_nil))))) (pss_cons (ps_set (i := 5) sc_l_classes.nd rfl (Or.inl rfl) (pe_lst (pa_cons (pe_callB call_isX (by rfl) T.b_isinstance (by decide +kernel) (pa_cons (pv 0) (pa_cons (pe_glob (v := .ref (ca 17)) (by rfl) T.g_NotPossible rfl) pa_nil))) (pa_cons (pe_callB call_isX (by rfl) T.b_isinstance (by decide +kernel) (pa_cons (pv 0) (pa_cons (pe_glob (v := .ref (ca 20)) (by rfl) T.g_NotTold rfl) pa_nil))) (pa_cons (pe_callB call_isX (by rfl) T.b_isinstance (by decide +kernel) (pa_cons (pv 0) (pa_cons (pe_glob (v := .ref (ca 10)) (by rfl) T.g_Short rfl) pa_nil))) pa_nil))))) (pss_cons (ps_set (i := 6) sc_l_classes.nd rfl (Or.inl rfl) (pe_lst (pa_cons (pe_callB call_isX (by rfl) T.b_isinstance (by decide +kernel) (pa_cons (pv 0) (pa_cons (pe_glob (v := .ref (ca 18)) (by rfl) T.g_Shut rfl) pa_nil))) (pa_cons (pe_callB call_isX (by rfl) T.b_isinstance (by decide +kernel) (pa_cons (pv 0) (pa_cons (pe_glob (v := .ref (ca 14)) (by rfl) T.g_TooMany rfl) pa_nil))) (pa_cons (pe_callB call_isX (by rfl) T.b_isinstance (by decide +kernel) (pa_cons (pv 0) (pa_cons (pe_glob (v := .ref (ca 21)) (by rfl) T.g_Unfit rfl) pa_nil))) pa_nil))))) (pss_cons (ps_set (i := 7) sc_l_classes.nd rfl (Or.inl rfl) (pe_op op_cat (pe_op op_cat (pe_op op_cat (pv 1) (pv 2)) (pv 3)) (pv 4))) (pss_one (ps_ret (pe_op op_add (pe_callB (cr_sumB rfl) (by rfl) T.b_sum (by decide +kernel) (pa_cons (pe_op op_cat (pe_op op_cat (pv 7) (pv 5)) (pv 6)) pa_nil)) (pe_callTy call_int1 (by rfl) T.b_int (by decide +kernel) (pa_cons (pe_callB call_isX (by rfl) T.b_isinstance (by decide +kernel) (pa_cons (pv 0) (pa_cons (pe_glob (v := .ref (ca 12)) (by rfl) T.g_UnknownName rfl) pa_nil))) pa_nil))))))))))), ?_⟩
    obtain ⟨c, hc, od, ha, hd⟩ := hE
    have KT := T.kt
    have hd : ∀ H' : Hp, Same H H' → ∀ d, od = some d → ∃ fs, H' d = some (exd d fs) := fun H' s d q => let ⟨fs, e⟩ := hd d q; ⟨fs, s _ _ e⟩
    have s0 : Same H H := Same.refl _
    fail "rd"
    refine ⟨a, ca c, od, _, _, decide (c = 7), rfl, ha, hd _ s0, KT.ec c hc, fun u r => r, KT.each c hc 7 (by decide), ?_⟩
    fail "rd"
    refine ⟨a, ca c, od, _, _, decide (c = 4), rfl, ha, hd _ s0, KT.ec c hc, fun u r => r, KT.each c hc 4 (by decide), ?_⟩
    fail "rd"
    refine ⟨a, ca c, od, _, _, decide (c = 9), rfl, ha, hd _ s0, KT.ec c hc, fun u r => r, KT.each c hc 9 (by decide), ?_⟩
    fail "rd"
    intro la n_la
    generalize g_H1 : upd _ la _ = H1
    obtain ⟨s_H1, e_la⟩ := gen_new n_la g_H1
    clear g_H1
    have s1 : Same H H1 := s0.trans s_H1
    fail "rd"
    refine ⟨a, ca c, od, _, _, decide (c = 15), rfl, (s1 _ _ ha), hd _ s1, KT.ec c hc, fun u r => r, KT.each c hc 15 (by decide), ?_⟩
    fail "rd"
    refine ⟨a, ca c, od, _, _, decide (c = 11), rfl, (s1 _ _ ha), hd _ s1, KT.ec c hc, fun u r => r, KT.each c hc 11 (by decide), ?_⟩
    fail "rd"
    refine ⟨a, ca c, od, _, _, decide (c = 6), rfl, (s1 _ _ ha), hd _ s1, KT.ec c hc, fun u r => r, KT.each c hc 6 (by decide), ?_⟩
    fail "rd"
    intro lb n_lb
    generalize g_H2 : upd _ lb _ = H2
    obtain ⟨s_H2, e_lb⟩ := gen_new n_lb g_H2
    clear g_H2
    have s2 : Same H H2 := s1.trans s_H2
    have e_la := s_H2 _ _ e_la
    fail "rd"
    refine ⟨a, ca c, od, _, _, decide (c = 8), rfl, (s2 _ _ ha), hd _ s2, KT.ec c hc, fun u r => r, KT.each c hc 8 (by decide), ?_⟩
    fail "rd"
    refine ⟨a, ca c, od, _, _, decide (c = 5), rfl, (s2 _ _ ha), hd _ s2, KT.ec c hc, fun u r => r, KT.each c hc 5 (by decide), ?_⟩
    fail "rd"
    refine ⟨a, ca c, od, _, _, decide (c = 1), rfl, (s2 _ _ ha), hd _ s2, KT.ec c hc, fun u r => r, KT.each c hc 1 (by decide), ?_⟩
    fail "rd"
    intro lc n_lc
    generalize g_H3 : upd _ lc _ = H3
    obtain ⟨s_H3, e_lc⟩ := gen_new n_lc g_H3
    clear g_H3
    have s3 : Same H H3 := s2.trans s_H3
    have e_la := s_H3 _ _ e_la
    have e_lb := s_H3 _ _ e_lb
    fail "rd"
    refine ⟨a, ca c, od, _, _, decide (c = 19), rfl, (s3 _ _ ha), hd _ s3, KT.ec c hc, fun u r => r, KT.each c hc 19 (by decide), ?_⟩
    fail "rd"
    refine ⟨a, ca c, od, _, _, decide (c = 13), rfl, (s3 _ _ ha), hd _ s3, KT.ec c hc, fun u r => r, KT.each c hc 13 (by decide), ?_⟩
    fail "rd"
    refine ⟨a, ca c, od, _, _, decide (c = 16), rfl, (s3 _ _ ha), hd _ s3, KT.ec c hc, fun u r => r, KT.each c hc 16 (by decide), ?_⟩
    fail "rd"
    intro ld n_ld
    generalize g_H4 : upd _ ld _ = H4
    obtain ⟨s_H4, e_ld⟩ := gen_new n_ld g_H4
    clear g_H4
    have s4 : Same H H4 := s3.trans s_H4
    have e_la := s_H4 _ _ e_la
    have e_lb := s_H4 _ _ e_lb
    have e_lc := s_H4 _ _ e_lc
    fail "rd"
    refine ⟨a, ca c, od, _, _, decide (c = 17), rfl, (s4 _ _ ha), hd _ s4, KT.ec c hc, fun u r => r, KT.each c hc 17 (by decide), ?_⟩
    fail "rd"
    refine ⟨a, ca c, od, _, _, decide (c = 20), rfl, (s4 _ _ ha), hd _ s4, KT.ec c hc, fun u r => r, KT.each c hc 20 (by decide), ?_⟩
    fail "rd"
    refine ⟨a, ca c, od, _, _, decide (c = 10), rfl, (s4 _ _ ha), hd _ s4, KT.ec c hc, fun u r => r, KT.each c hc 10 (by decide), ?_⟩
    fail "rd"
    intro le n_le
    generalize g_H5 : upd _ le _ = H5
    obtain ⟨s_H5, e_le⟩ := gen_new n_le g_H5
    clear g_H5
    have s5 : Same H H5 := s4.trans s_H5
    have e_la := s_H5 _ _ e_la
    have e_lb := s_H5 _ _ e_lb
    have e_lc := s_H5 _ _ e_lc
    have e_ld := s_H5 _ _ e_ld
    fail "rd"
    refine ⟨a, ca c, od, _, _, decide (c = 18), rfl, (s5 _ _ ha), hd _ s5, KT.ec c hc, fun u r => r, KT.each c hc 18 (by decide), ?_⟩
    fail "rd"
    refine ⟨a, ca c, od, _, _, decide (c = 14), rfl, (s5 _ _ ha), hd _ s5, KT.ec c hc, fun u r => r, KT.each c hc 14 (by decide), ?_⟩
    fail "rd"
    refine ⟨a, ca c, od, _, _, decide (c = 21), rfl, (s5 _ _ ha), hd _ s5, KT.ec c hc, fun u r => r, KT.each c hc 21 (by decide), ?_⟩
    fail "rd"
    intro lf n_lf
    generalize g_H6 : upd _ lf _ = H6
    obtain ⟨s_H6, e_lf⟩ := gen_new n_lf g_H6
    clear g_H6
    have s6 : Same H H6 := s5.trans s_H6
    have e_la := s_H6 _ _ e_la
    have e_lb := s_H6 _ _ e_lb
    have e_lc := s_H6 _ _ e_lc
    have e_ld := s_H6 _ _ e_ld
    have e_le := s_H6 _ _ e_le
    fail "rd"
    refine ⟨la, lb, _, _, rfl, rfl, e_la, e_lb, line_le (by simp), ?_⟩
    intro m0 n_m0
    generalize g_H7 : upd _ m0 _ = H7
    obtain ⟨s_H7, e_m0⟩ := gen_new n_m0 g_H7
    clear g_H7
    have s7 : Same H H7 := s6.trans s_H7
    have e_lc := s_H7 _ _ e_lc
    have e_ld := s_H7 _ _ e_ld
    have e_le := s_H7 _ _ e_le
    have e_lf := s_H7 _ _ e_lf
    fail "rd"
    refine ⟨m0, lc, _, _, rfl, rfl, e_m0, e_lc, line_le (by simp), ?_⟩
    intro m1 n_m1
    generalize g_H8 : upd _ m1 _ = H8
    obtain ⟨s_H8, e_m1⟩ := gen_new n_m1 g_H8
    clear g_H8
    have s8 : Same H H8 := s7.trans s_H8
    have e_ld := s_H8 _ _ e_ld
    have e_le := s_H8 _ _ e_le
    have e_lf := s_H8 _ _ e_lf
    fail "rd"
    refine ⟨m1, ld, _, _, rfl, rfl, e_m1, e_ld, line_le (by simp), ?_⟩
    intro m2 n_m2
    generalize g_H9 : upd _ m2 _ = H9
    obtain ⟨s_H9, e_m2⟩ := gen_new n_m2 g_H9
    clear g_H9
    have s9 : Same H H9 := s8.trans s_H9
    have e_le := s_H9 _ _ e_le
    have e_lf := s_H9 _ _ e_lf
    fail "rd"
    refine ⟨m2, le, _, _, rfl, rfl, e_m2, e_le, line_le (by simp), ?_⟩
    intro m3 n_m3
    generalize g_H10 : upd _ m3 _ = H10
    obtain ⟨s_H10, e_m3⟩ := gen_new n_m3 g_H10
    clear g_H10
    have s10 : Same H H10 := s9.trans s_H10
    have e_lf := s_H10 _ _ e_lf
    fail "rd"
    refine ⟨m3, lf, _, _, rfl, rfl, e_m3, e_lf, line_le (by simp), ?_⟩
    intro m4 n_m4
    generalize g_H11 : upd _ m4 _ = H11
    obtain ⟨s_H11, e_m4⟩ := gen_new n_m4 g_H11
    clear g_H11
    have s11 : Same H H11 := s10.trans s_H11
    fail "rd"
    refine ⟨m4, [decide (c = 7), decide (c = 4), decide (c = 9), decide (c = 15), decide (c = 11), decide (c = 6), decide (c = 8), decide (c = 5), decide (c = 1), decide (c = 19), decide (c = 13), decide (c = 16), decide (c = 17), decide (c = 20), decide (c = 10), decide (c = 18), decide (c = 14), decide (c = 21)], rfl, SqL.of e_m4, ?_⟩
    fail "rd"
    refine ⟨a, ca c, od, _, _, decide (c = 12), rfl, s11 _ _ ha, hd _ s11, KT.ec c hc, fun u r => r, KT.each c hc 12 (by decide), ?_⟩
    fail "rd"
    show Q (.int (cntB [decide (c = 7), decide (c = 4), decide (c = 9), decide (c = 15), decide (c = 11), decide (c = 6), decide (c = 8), decide (c = 5), decide (c = 1), decide (c = 19), decide (c = 13), decide (c = 16), decide (c = 17), decide (c = 20), decide (c = 10), decide (c = 18), decide (c = 14), decide (c = 21)] + b2i (decide (c = 12)))) H11
    rw [cls_one c hc]
    exact k H11 s11

abbrev s_law : Stmt := top 29
theorem sc_law : FnScope ["_law_script", "_law_bag_here", "_law_name", "_law_day", "_law_number", "_law_units", "_law_errors", "_law_error", "_law_kept"] ["_law_script"] (defScope s_law) := ⟨rfl, rfl, rfl, by decide +kernel, rfl, by decide +kernel, by decide +kernel⟩
theorem ok_law {f : Addr} {fd : FuncData} (F : Fun K "law" "law" s_law f fd) (T : Txt K mg ca) (O__law_bag : Own P w K mg base 1 "_law_bag" ["_law_script"] (sp_l_bag K ca)) (O__law_draw : Own P w K mg base 1 "_law_draw" ["_law_bag_here", "_law_size"] (sp_l_draw K ca)) (O__law_names : Own P w K mg base 2 "_law_names" ["_law_bag_here", "_law_count", "_law_words"] (sp_l_names K ca)) (O__law_named : Own P w K mg base 3 "_law_named" ["_law_name"] (sp_l_named K ca)) (O__law_placed : Own P w K mg base 3 "_law_placed" ["_law_day", "_law_number"] (sp_l_placed K ca)) (O__law_others : Own P w K mg base 3 "_law_others" ["_law_day", "_law_number", "_law_units", "_law_name"] (sp_l_others K ca)) (O__law_classes : Own P w K mg base 1 "_law_classes" ["_law_error"] (sp_l_classes K ca)) : FnOk P w K mg base (L2.CX P w) 4 f fd ["_law_script"] (sp_law K ca) := by
  refine F.okX sc_law (fun vs H Q E h => ?_) (fun cdv A outer s H vs Q E hr h => ?_)
  · obtain ⟨_, _, rfl, _⟩ := h
    rfl
  · obtain ⟨s0, ns, rfl, hs, k⟩ := h
    refine ⟨_, pss_cons (ps_set (i := 1) sc_law.nd rfl (Or.inl rfl) (pe_own O__law_bag (hr.mono (by decide)) rfl pas0 (pa_cons (pv 0) pa_nil))) (pss_cons (ps_set (i := 2) sc_law.nd rfl (Or.inl rfl) (pe_ix ix_list (pe_own O__law_names (hr.mono (by decide)) rfl pas0 (pa_cons (pv 1) (pa_cons pe_int (pa_cons (pe_lst (pa_cons pe_str pa_nil)) pa_nil)))) pe_int (fun _ _ => rfl))) (pss_cons (ps_set (i := 3) sc_law.nd rfl (Or.inl rfl) (pe_own O__law_draw (hr.mono (by decide)) rfl pas0 (pa_cons (pv 1) (pa_cons pe_int pa_nil)))) (pss_cons (ps_set (i := 4) sc_law.nd rfl (Or.inl rfl) (pe_own O__law_draw (hr.mono (by decide)) rfl pas0 (pa_cons (pv 1) (pa_cons pe_int pa_nil)))) (pss_cons (ps_set (i := 5) sc_law.nd rfl (Or.inl rfl) (pe_op op_add pe_int (pe_own O__law_draw (hr.mono (by decide)) rfl pas0 (pa_cons (pv 1) (pa_cons pe_int pa_nil))))) (pss_cons (ps_set (i := 6) sc_law.nd rfl (Or.inl rfl) (pe_op op_cat (pe_own O__law_named (hr.mono (by decide)) rfl pas0 (pa_cons (pv 2) pa_nil)) (pe_own O__law_placed (hr.mono (by decide)) rfl pas0 (pa_cons (pv 3) (pa_cons (pv 4) pa_nil))))) (pss_cons (ps_set (i := 6) sc_law.nd rfl (Or.inl rfl) (pe_op op_cat (pv 6) (pe_own O__law_others (hr.mono (by decide)) rfl pas0 (pa_cons (pv 3) (pa_cons (pv 4) (pa_cons (pv 5) (pa_cons (pv 2) pa_nil))))))) (pss_cons (ps_for (passes_of rfl) rfl (pi_list (pv 6)) (pg_tup rfl (pgs_cons (pg_name (i := 7) sc_law.nd rfl (Or.inl rfl)) (pgs_cons (pg_name (i := 8) sc_law.nd rfl (Or.inl rfl)) pgs_nil))) (pss_cons (ps_if (PW.pt (pw_or (pt_not (pt_val (pv 8))) (pw_or1 (pt_cmpR op_ne (pe_own O__law_classes (hr.mono (by decide)) rfl pas0 (pa_cons (pv 7) pa_nil)) pe_int (nomark _))))) (pss_one (ps_ret pe_bl)) pss_nil) (pss_one (ps_if (PW.pt (pw_or (pt_not (pt_val (pe_callB call_isX (by rfl) T.b_isinstance (by decide +kernel) (pa_cons (pv 7) (pa_cons (pe_glob (v := .ref (ca 0)) (by rfl) T.g_CostError rfl) pa_nil))))) (pw_or1 (pt_not (pt_val (pe_callB call_isX (by rfl) T.b_isinstance (by decide +kernel) (pa_cons (pv 7) (pa_cons (pe_bltn (v := .ty "ValueError") (by rfl) T.b_ValueError (by decide +kernel) rfl) pa_nil)))))))) (pss_one (ps_ret pe_bl)) pss_nil)))) (pss_one (ps_ret (pe_cmpR op_eq (pe_callB call_len_seq (by rfl) T.b_len (by decide +kernel) (pa_cons (pv 6) pa_nil)) pe_int (nomark _))))))))))), ?_⟩
    fail "rd"
    refine ⟨s0, ns, rfl, hs, fun L bag H1 nb nL s1 B1 => ?_⟩
    fail "rd"
    intro lw n_lw
    generalize g_H2 : upd _ lw _ = H2
    obtain ⟨s_H2, e_lw⟩ := gen_new n_lw g_H2
    clear g_H2
    have B2 := B1.same s_H2
    fail "rd"
    refine ⟨bag, lw, 1, ["late"], rfl, L, B2, e_lw, B1.ne n_lw, namesB_ok (by decide +kernel), by simp, by simp, by omega, by omega, fun N ln H4 hlen hok n4 k4 B4 e4 => ?_⟩
    obtain ⟨z, rfl⟩ : ∃ z, N = [z] := match N, hlen with | [z], _ => ⟨z, rfl⟩
    have zok := hok z List.mem_cons_self
    fail "rd"
    refine ⟨L, B4, by decide, by decide, fun u H5 u0 u1 k5 B5 => ?_⟩
    fail "rd"
    refine ⟨L, B5, by decide, by decide, fun v H6 v0 v1 k6 B6 => ?_⟩
    fail "rd"
    refine ⟨L, B6, by decide, by decide, fun w H7 w0 w1 k7 B7 => ?_⟩
    fail "rd"
    refine fun p1 H8 ts1 s8 e1 l1 t1 => ?_
    fail "rd"
    refine fun p2 H9 ts2 s9 e2 l2 t2 => ?_
    have e1 := s9 _ _ e1
    fail "rd"
    refine ⟨p1, p2, _, _, rfl, rfl, e1, e2, line_le (by omega), ?_⟩
    intro p3 n_p3
    generalize g_H10 : upd _ p3 _ = H10
    obtain ⟨s_H10, e_p3⟩ := gen_new n_p3 g_H10
    clear g_H10
    have t12 : ∀ t ∈ ts1 ++ ts2, ErrT ca H10 t := fun t m => by
      rcases List.mem_append.mp m with m | m
      · exact ((t1 t m).same s9).same s_H10
      · exact (t2 t m).same s_H10
    have l12 : (ts1 ++ ts2).length = 8 := by rw [List.length_append, l1, l2]
    generalize ts1 ++ ts2 = ts at *
    fail "rd"
    refine ⟨u, v, _, z, rfl, (strs_lay (zs := [z]) (fun y m => (List.mem_singleton.mp m) ▸ zok.ls)).1 |> fun q => by simpa [PyData.canLayAll0, PyData.canLay0] using q, fun p4 H11 ts4 s11 e4 l4 t4 => ?_⟩
    have e_p3 := s11 _ _ e_p3
    fail "rd"
    refine ⟨p3, p4, _, _, rfl, rfl, e_p3, e4, line_le (by omega), ?_⟩
    intro p5 n_p5
    generalize g_H12 : upd _ p5 _ = H12
    obtain ⟨s_H12, e_p5⟩ := gen_new n_p5 g_H12
    clear g_H12
    have tA : ∀ t ∈ ts ++ ts4, ErrT ca H12 t := fun t m => by
      rcases List.mem_append.mp m with m | m
      · exact ((t12 t m).same s11).same s_H12
      · exact (t4 t m).same s_H12
    have lA : (ts ++ ts4).length = 19 := by rw [List.length_append, l12, l4]
    generalize ts ++ ts4 = us at *
    fail "rd"
    refine for_list (K := K) (a := p5) (xs := us) (fun i σ' H' => ∃ v1 v2, σ' = [some (.ref s0), some (.ref bag), some (.str z), some (.int u), some (.int v), some (.int (1 + w)), some (.ref p5), v1, v2] ∧ Same H12 H') ⟨none, none, rfl, Same.refl _⟩
      (fun i σ' H' _ ⟨_, _, _, s⟩ => SqL.of (s _ _ e_p5)) ?_ ?_
    · rintro i x σ' H13 hx ⟨v1, v2, rfl, s13⟩
      obtain ⟨q, a, rfl, eq, hE⟩ := (tA x (List.mem_of_getElem? hx)).same s13
      fail "rd"
      refine ⟨hE, fun H14 s14 => ?_⟩
      obtain ⟨c, hc, od, ha, hd⟩ := hE.same s14
      have KT := T.kt
      fail "rd"
      refine ⟨a, ca c, od, _, _, true, rfl, ha, hd, KT.ec c hc, fun u r => r, KT.base c hc, ?_⟩
      fail "rd"
      refine ⟨a, ca c, od, _, _, true, rfl, ha, hd, KT.ec c hc, fun u r => r, KT.val c hc, ?_⟩
      fail "rd"
      exact s13.trans s14
    · rintro σ' H13 ⟨v1, v2, rfl, s13⟩
      fail "rd"
      have e19 : V.int ((us.length : Nat) : Int) = V.int 19 := by rw [lA]; rfl
      show Q (.bl (decide (V.int ((us.length : Nat) : Int) = V.int 19))) H13
      rw [decide_eq_true e19]
      exact k H13

end
theorem all_mk {l : PySem.W.OpenLaw} {w : World} {K : PySem.W.Frag} {h : Heap} {mg : Str → Option Value} {fa : Addr} (X : K.In h) (G : h.Ns mainGlobals mg) (hfa : mg "law" = some (.ref fa))
    {C0 C1 C4 C5 C6 C7 C8 C9 C10 C11 C12 C13 C14 C15 C16 C17 C18 C19 C20 C21 : Addr}
    {xnm4 xq4 : Str} {xN4 : Addr} {xbs4 : List Value} {xsn4 : List Str} {xsub4 : List Value} {xab4 : Bool} {xcol4 : Option Bool} {xdd4 : Option Addr} {xm04 xm14 xm24 xm34 xm54 : Option Value}
    {xnm5 xq5 : Str} {xN5 : Addr} {xbs5 : List Value} {xsn5 : List Str} {xsub5 : List Value} {xab5 : Bool} {xcol5 : Option Bool} {xdd5 : Option Addr} {xm05 xm15 xm25 xm35 xm55 : Option Value}
    {xnm6 xq6 : Str} {xN6 : Addr} {xbs6 : List Value} {xsn6 : List Str} {xsub6 : List Value} {xab6 : Bool} {xcol6 : Option Bool} {xdd6 : Option Addr} {xm06 xm16 xm26 xm36 xm56 : Option Value}
    {xnm7 xq7 : Str} {xN7 : Addr} {xbs7 : List Value} {xsn7 : List Str} {xsub7 : List Value} {xab7 : Bool} {xcol7 : Option Bool} {xdd7 : Option Addr} {xm07 xm17 xm27 xm37 xm57 : Option Value}
    {xnm8 xq8 : Str} {xN8 : Addr} {xbs8 : List Value} {xsn8 : List Str} {xsub8 : List Value} {xab8 : Bool} {xcol8 : Option Bool} {xdd8 : Option Addr} {xm08 xm18 xm28 xm38 xm58 : Option Value}
    {xnm9 xq9 : Str} {xN9 : Addr} {xbs9 : List Value} {xsn9 : List Str} {xsub9 : List Value} {xab9 : Bool} {xcol9 : Option Bool} {xdd9 : Option Addr} {xm09 xm19 xm29 xm39 xm59 : Option Value}
    {xnm10 xq10 : Str} {xN10 : Addr} {xbs10 : List Value} {xsn10 : List Str} {xsub10 : List Value} {xab10 : Bool} {xcol10 : Option Bool} {xdd10 : Option Addr} {xm010 xm110 xm210 xm310 xm510 : Option Value}
    {xnm11 xq11 : Str} {xN11 : Addr} {xbs11 : List Value} {xsn11 : List Str} {xsub11 : List Value} {xab11 : Bool} {xcol11 : Option Bool} {xdd11 : Option Addr} {xm011 xm111 xm211 xm311 xm511 : Option Value}
    {xnm12 xq12 : Str} {xN12 : Addr} {xbs12 : List Value} {xsn12 : List Str} {xsub12 : List Value} {xab12 : Bool} {xcol12 : Option Bool} {xdd12 : Option Addr} {xm012 xm112 xm212 xm312 xm512 : Option Value}
    {xnm13 xq13 : Str} {xN13 : Addr} {xbs13 : List Value} {xsn13 : List Str} {xsub13 : List Value} {xab13 : Bool} {xcol13 : Option Bool} {xdd13 : Option Addr} {xm013 xm113 xm213 xm313 xm513 : Option Value}
    {xnm14 xq14 : Str} {xN14 : Addr} {xbs14 : List Value} {xsn14 : List Str} {xsub14 : List Value} {xab14 : Bool} {xcol14 : Option Bool} {xdd14 : Option Addr} {xm014 xm114 xm214 xm314 xm514 : Option Value}
    {xnm15 xq15 : Str} {xN15 : Addr} {xbs15 : List Value} {xsn15 : List Str} {xsub15 : List Value} {xab15 : Bool} {xcol15 : Option Bool} {xdd15 : Option Addr} {xm015 xm115 xm215 xm315 xm515 : Option Value}
    {xnm16 xq16 : Str} {xN16 : Addr} {xbs16 : List Value} {xsn16 : List Str} {xsub16 : List Value} {xab16 : Bool} {xcol16 : Option Bool} {xdd16 : Option Addr} {xm016 xm116 xm216 xm316 xm516 : Option Value}
    {xnm18 xq18 : Str} {xN18 : Addr} {xbs18 : List Value} {xsn18 : List Str} {xsub18 : List Value} {xab18 : Bool} {xcol18 : Option Bool} {xdd18 : Option Addr} {xm018 xm118 xm218 xm318 xm518 : Option Value}
    {xnm19 xq19 : Str} {xN19 : Addr} {xbs19 : List Value} {xsn19 : List Str} {xsub19 : List Value} {xab19 : Bool} {xcol19 : Option Bool} {xdd19 : Option Addr} {xm019 xm119 xm219 xm319 xm519 : Option Value}
    {xnm21 xq21 : Str} {xN21 : Addr} {xbs21 : List Value} {xsn21 : List Str} {xsub21 : List Value} {xab21 : Bool} {xcol21 : Option Bool} {xdd21 : Option Addr} {xm021 xm121 xm221 xm321 xm521 : Option Value}
    {kd0 : ClassData}
    {kd1 : ClassData}
    {kd4 : ClassData}
    {kd5 : ClassData}
    {kd6 : ClassData}
    {kd7 : ClassData}
    {kd8 : ClassData}
    {kd9 : ClassData}
    {kd10 : ClassData}
    {kd11 : ClassData}
    {kd12 : ClassData}
    {kd13 : ClassData}
    {kd14 : ClassData}
    {kd15 : ClassData}
    {kd16 : ClassData}
    {kd17 : ClassData}
    {kd18 : ClassData}
    {kd19 : ClassData}
    {kd20 : ClassData}
    {kd21 : ClassData}
    {f0 : Addr} {od0 an0 : Option Addr} {sl0 : Array (Option Value)} {oc0 kV0 dc0 pm0 cd0 ct0 : Value}
    {f1 : Addr} {od1 an1 : Option Addr} {sl1 : Array (Option Value)} {oc1 kV1 dc1 pm1 cd1 ct1 : Value}
    {f2 : Addr} {od2 an2 : Option Addr} {sl2 : Array (Option Value)} {oc2 kV2 dc2 pm2 cd2 ct2 : Value}
    {f3 : Addr} {od3 an3 : Option Addr} {sl3 : Array (Option Value)} {oc3 kV3 dc3 pm3 cd3 ct3 : Value}
    {f4 : Addr} {od4 an4 : Option Addr} {sl4 : Array (Option Value)} {oc4 kV4 dc4 pm4 cd4 ct4 : Value}
    {f5 : Addr} {od5 an5 : Option Addr} {sl5 : Array (Option Value)} {oc5 kV5 dc5 pm5 cd5 ct5 : Value}
    {f6 : Addr} {od6 an6 : Option Addr} {sl6 : Array (Option Value)} {oc6 kV6 dc6 pm6 cd6 ct6 : Value}
    {f7 : Addr} {od7 an7 : Option Addr} {sl7 : Array (Option Value)} {oc7 kV7 dc7 pm7 cd7 ct7 : Value}
    {f8 : Addr} {od8 an8 : Option Addr} {sl8 : Array (Option Value)} {oc8 kV8 dc8 pm8 cd8 ct8 : Value}
    {f9 : Addr} {od9 an9 : Option Addr} {sl9 : Array (Option Value)} {oc9 kV9 dc9 pm9 cd9 ct9 : Value}
    {f10 : Addr} {od10 an10 : Option Addr} {sl10 : Array (Option Value)} {oc10 kV10 dc10 pm10 cd10 ct10 : Value}
    {f11 : Addr} {od11 an11 : Option Addr} {sl11 : Array (Option Value)} {oc11 kV11 dc11 pm11 cd11 ct11 : Value}
    {f12 : Addr} {od12 an12 : Option Addr} {sl12 : Array (Option Value)} {oc12 kV12 dc12 pm12 cd12 ct12 : Value}
    {f13 : Addr} {od13 an13 : Option Addr} {sl13 : Array (Option Value)} {oc13 kV13 dc13 pm13 cd13 ct13 : Value}
    {f14 : Addr} {od14 an14 : Option Addr} {sl14 : Array (Option Value)} {oc14 kV14 dc14 pm14 cd14 ct14 : Value}
    {f15 : Addr} {od15 an15 : Option Addr} {sl15 : Array (Option Value)} {oc15 kV15 dc15 pm15 cd15 ct15 : Value}
    {f16 : Addr} {od16 an16 : Option Addr} {sl16 : Array (Option Value)} {oc16 kV16 dc16 pm16 cd16 ct16 : Value}
    {f17 : Addr} {od17 an17 : Option Addr} {sl17 : Array (Option Value)} {oc17 kV17 dc17 pm17 cd17 ct17 : Value}
    {f18 : Addr} {od18 an18 : Option Addr} {sl18 : Array (Option Value)} {oc18 kV18 dc18 pm18 cd18 ct18 : Value}
    {f19 : Addr} {od19 an19 : Option Addr} {sl19 : Array (Option Value)} {oc19 kV19 dc19 pm19 cd19 ct19 : Value}
    {f20 : Addr} {od20 an20 : Option Addr} {sl20 : Array (Option Value)} {oc20 kV20 dc20 pm20 cd20 ct20 : Value}
    {f21 : Addr} {od21 an21 : Option Addr} {sl21 : Array (Option Value)} {oc21 kV21 dc21 pm21 cd21 ct21 : Value}
    {f22 : Addr} {od22 an22 : Option Addr} {sl22 : Array (Option Value)} {oc22 kV22 dc22 pm22 cd22 ct22 : Value}
    {f23 : Addr} {od23 an23 : Option Addr} {sl23 : Array (Option Value)} {oc23 kV23 dc23 pm23 cd23 ct23 : Value}
    (aC0 : PySem.W.nsIn K mainGlobals "CostError" = some (some (.ref C0)))
    (aC1 : PySem.W.nsIn K mainGlobals "NoRatio" = some (some (.ref C1)))
    (aC4 : PySem.W.nsIn K mainGlobals "BadName" = some (some (.ref C4)))
    (aC5 : PySem.W.nsIn K mainGlobals "NoPrice" = some (some (.ref C5)))
    (aC6 : PySem.W.nsIn K mainGlobals "Negative" = some (some (.ref C6)))
    (aC7 : PySem.W.nsIn K mainGlobals "BadEntry" = some (some (.ref C7)))
    (aC8 : PySem.W.nsIn K mainGlobals "NoEntry" = some (some (.ref C8)))
    (aC9 : PySem.W.nsIn K mainGlobals "BadRule" = some (some (.ref C9)))
    (aC10 : PySem.W.nsIn K mainGlobals "Short" = some (some (.ref C10)))
    (aC11 : PySem.W.nsIn K mainGlobals "NameTaken" = some (some (.ref C11)))
    (aC12 : PySem.W.nsIn K mainGlobals "UnknownName" = some (some (.ref C12)))
    (aC13 : PySem.W.nsIn K mainGlobals "NotEnough" = some (some (.ref C13)))
    (aC14 : PySem.W.nsIn K mainGlobals "TooMany" = some (some (.ref C14)))
    (aC15 : PySem.W.nsIn K mainGlobals "Contradiction" = some (some (.ref C15)))
    (aC16 : PySem.W.nsIn K mainGlobals "NotPlain" = some (some (.ref C16)))
    (aC17 : PySem.W.nsIn K mainGlobals "NotPossible" = some (some (.ref C17)))
    (aC18 : PySem.W.nsIn K mainGlobals "Shut" = some (some (.ref C18)))
    (aC19 : PySem.W.nsIn K mainGlobals "NotClosed" = some (some (.ref C19)))
    (aC20 : PySem.W.nsIn K mainGlobals "NotTold" = some (some (.ref C20)))
    (aC21 : PySem.W.nsIn K mainGlobals "Unfit" = some (some (.ref C21)))
    (z_ValueError : PySem.W.nsIn K mainGlobals "ValueError" = some none)
    (z_abs : PySem.W.nsIn K mainGlobals "abs" = some none)
    (z_int : PySem.W.nsIn K mainGlobals "int" = some none)
    (z_isinstance : PySem.W.nsIn K mainGlobals "isinstance" = some none)
    (z_len : PySem.W.nsIn K mainGlobals "len" = some none)
    (z_list : PySem.W.nsIn K mainGlobals "list" = some none)
    (z_range : PySem.W.nsIn K mainGlobals "range" = some none)
    (z_sum : PySem.W.nsIn K mainGlobals "sum" = some none)
    (fkp_NoRatio : PySem.W.keepIn K (.ref C1) = true)
    (fex_NoRatio : PySem.W.excIn K C1 [.type "ValueError", .type "Exception", .type "BaseException", .type "object"] "ValueError.__new__" = true)
    (xl_BadName : K.lookup C4 = some (excClassObj xnm4 xq4 C4 xN4 xbs4 [.ref C0, .type "ValueError", .type "Exception", .type "BaseException", .type "object"] true xsn4 xsub4 xab4 xcol4 xdd4 xm04 xm14 xm24 xm34 xm54 "ValueError.__new__"))
    (fxr_BadName : PySem.HandSPX.refsVE [.ref C0, .type "ValueError", .type "Exception", .type "BaseException", .type "object"] = true)
    (sa_BadName : PySem.W.findIn K (.ref C4) "__setattr__" = some (some (.builtin "object.__setattr__")))
    (kpr_BadName : PySem.W.keepIn K (.ref C4) = true)
    (fsb_BadName : PySem.W.subIn K (.ref C4) (.type "BaseException") = some true)
    (fty_BadName : PySem.W.typeIn K (.ref C4) = some (.type "type"))
    (fy1_BadName : PySem.W.findIn K (.ref C4) "__getattribute__" = some (some (.builtin "BaseException.__getattribute__")))
    (fy2_BadName : PySem.W.findIn K (.ref C4) "__getattr__" = some none)
    (fy3_BadName : PySem.W.hasDictIn K C4 = true)
    (fnf_BadName_name : PySem.W.findIn K (.ref C4) "name" = some none)
    (xl_NoPrice : K.lookup C5 = some (excClassObj xnm5 xq5 C5 xN5 xbs5 [.ref C0, .type "ValueError", .type "Exception", .type "BaseException", .type "object"] true xsn5 xsub5 xab5 xcol5 xdd5 xm05 xm15 xm25 xm35 xm55 "ValueError.__new__"))
    (fxr_NoPrice : PySem.HandSPX.refsVE [.ref C0, .type "ValueError", .type "Exception", .type "BaseException", .type "object"] = true)
    (sa_NoPrice : PySem.W.findIn K (.ref C5) "__setattr__" = some (some (.builtin "object.__setattr__")))
    (kpr_NoPrice : PySem.W.keepIn K (.ref C5) = true)
    (fsb_NoPrice : PySem.W.subIn K (.ref C5) (.type "BaseException") = some true)
    (fty_NoPrice : PySem.W.typeIn K (.ref C5) = some (.type "type"))
    (fy1_NoPrice : PySem.W.findIn K (.ref C5) "__getattribute__" = some (some (.builtin "BaseException.__getattribute__")))
    (fy2_NoPrice : PySem.W.findIn K (.ref C5) "__getattr__" = some none)
    (fy3_NoPrice : PySem.W.hasDictIn K C5 = true)
    (fnf_NoPrice_name : PySem.W.findIn K (.ref C5) "name" = some none)
    (xl_Negative : K.lookup C6 = some (excClassObj xnm6 xq6 C6 xN6 xbs6 [.ref C0, .type "ValueError", .type "Exception", .type "BaseException", .type "object"] true xsn6 xsub6 xab6 xcol6 xdd6 xm06 xm16 xm26 xm36 xm56 "ValueError.__new__"))
    (fxr_Negative : PySem.HandSPX.refsVE [.ref C0, .type "ValueError", .type "Exception", .type "BaseException", .type "object"] = true)
    (sa_Negative : PySem.W.findIn K (.ref C6) "__setattr__" = some (some (.builtin "object.__setattr__")))
    (kpr_Negative : PySem.W.keepIn K (.ref C6) = true)
    (fsb_Negative : PySem.W.subIn K (.ref C6) (.type "BaseException") = some true)
    (fty_Negative : PySem.W.typeIn K (.ref C6) = some (.type "type"))
    (fy1_Negative : PySem.W.findIn K (.ref C6) "__getattribute__" = some (some (.builtin "BaseException.__getattribute__")))
    (fy2_Negative : PySem.W.findIn K (.ref C6) "__getattr__" = some none)
    (fy3_Negative : PySem.W.hasDictIn K C6 = true)
    (fnf_Negative_name : PySem.W.findIn K (.ref C6) "name" = some none)
    (xl_BadEntry : K.lookup C7 = some (excClassObj xnm7 xq7 C7 xN7 xbs7 [.ref C0, .type "ValueError", .type "Exception", .type "BaseException", .type "object"] true xsn7 xsub7 xab7 xcol7 xdd7 xm07 xm17 xm27 xm37 xm57 "ValueError.__new__"))
    (fxr_BadEntry : PySem.HandSPX.refsVE [.ref C0, .type "ValueError", .type "Exception", .type "BaseException", .type "object"] = true)
    (sa_BadEntry : PySem.W.findIn K (.ref C7) "__setattr__" = some (some (.builtin "object.__setattr__")))
    (kpr_BadEntry : PySem.W.keepIn K (.ref C7) = true)
    (fsb_BadEntry : PySem.W.subIn K (.ref C7) (.type "BaseException") = some true)
    (fty_BadEntry : PySem.W.typeIn K (.ref C7) = some (.type "type"))
    (fy1_BadEntry : PySem.W.findIn K (.ref C7) "__getattribute__" = some (some (.builtin "BaseException.__getattribute__")))
    (fy2_BadEntry : PySem.W.findIn K (.ref C7) "__getattr__" = some none)
    (fy3_BadEntry : PySem.W.hasDictIn K C7 = true)
    (fnf_BadEntry_day : PySem.W.findIn K (.ref C7) "day" = some none)
    (fnf_BadEntry_number : PySem.W.findIn K (.ref C7) "number" = some none)
    (xl_NoEntry : K.lookup C8 = some (excClassObj xnm8 xq8 C8 xN8 xbs8 [.ref C0, .type "ValueError", .type "Exception", .type "BaseException", .type "object"] true xsn8 xsub8 xab8 xcol8 xdd8 xm08 xm18 xm28 xm38 xm58 "ValueError.__new__"))
    (fxr_NoEntry : PySem.HandSPX.refsVE [.ref C0, .type "ValueError", .type "Exception", .type "BaseException", .type "object"] = true)
    (sa_NoEntry : PySem.W.findIn K (.ref C8) "__setattr__" = some (some (.builtin "object.__setattr__")))
    (kpr_NoEntry : PySem.W.keepIn K (.ref C8) = true)
    (fsb_NoEntry : PySem.W.subIn K (.ref C8) (.type "BaseException") = some true)
    (fty_NoEntry : PySem.W.typeIn K (.ref C8) = some (.type "type"))
    (fy1_NoEntry : PySem.W.findIn K (.ref C8) "__getattribute__" = some (some (.builtin "BaseException.__getattribute__")))
    (fy2_NoEntry : PySem.W.findIn K (.ref C8) "__getattr__" = some none)
    (fy3_NoEntry : PySem.W.hasDictIn K C8 = true)
    (fnf_NoEntry_day : PySem.W.findIn K (.ref C8) "day" = some none)
    (fnf_NoEntry_number : PySem.W.findIn K (.ref C8) "number" = some none)
    (xl_BadRule : K.lookup C9 = some (excClassObj xnm9 xq9 C9 xN9 xbs9 [.ref C0, .type "ValueError", .type "Exception", .type "BaseException", .type "object"] true xsn9 xsub9 xab9 xcol9 xdd9 xm09 xm19 xm29 xm39 xm59 "ValueError.__new__"))
    (fxr_BadRule : PySem.HandSPX.refsVE [.ref C0, .type "ValueError", .type "Exception", .type "BaseException", .type "object"] = true)
    (sa_BadRule : PySem.W.findIn K (.ref C9) "__setattr__" = some (some (.builtin "object.__setattr__")))
    (kpr_BadRule : PySem.W.keepIn K (.ref C9) = true)
    (fsb_BadRule : PySem.W.subIn K (.ref C9) (.type "BaseException") = some true)
    (fty_BadRule : PySem.W.typeIn K (.ref C9) = some (.type "type"))
    (fy1_BadRule : PySem.W.findIn K (.ref C9) "__getattribute__" = some (some (.builtin "BaseException.__getattribute__")))
    (fy2_BadRule : PySem.W.findIn K (.ref C9) "__getattr__" = some none)
    (fy3_BadRule : PySem.W.hasDictIn K C9 = true)
    (fnf_BadRule_word : PySem.W.findIn K (.ref C9) "word" = some none)
    (xl_Short : K.lookup C10 = some (excClassObj xnm10 xq10 C10 xN10 xbs10 [.ref C0, .type "ValueError", .type "Exception", .type "BaseException", .type "object"] true xsn10 xsub10 xab10 xcol10 xdd10 xm010 xm110 xm210 xm310 xm510 "ValueError.__new__"))
    (fxr_Short : PySem.HandSPX.refsVE [.ref C0, .type "ValueError", .type "Exception", .type "BaseException", .type "object"] = true)
    (sa_Short : PySem.W.findIn K (.ref C10) "__setattr__" = some (some (.builtin "object.__setattr__")))
    (kpr_Short : PySem.W.keepIn K (.ref C10) = true)
    (fsb_Short : PySem.W.subIn K (.ref C10) (.type "BaseException") = some true)
    (fty_Short : PySem.W.typeIn K (.ref C10) = some (.type "type"))
    (fy1_Short : PySem.W.findIn K (.ref C10) "__getattribute__" = some (some (.builtin "BaseException.__getattribute__")))
    (fy2_Short : PySem.W.findIn K (.ref C10) "__getattr__" = some none)
    (fy3_Short : PySem.W.hasDictIn K C10 = true)
    (fnf_Short_missing : PySem.W.findIn K (.ref C10) "missing" = some none)
    (xl_NameTaken : K.lookup C11 = some (excClassObj xnm11 xq11 C11 xN11 xbs11 [.ref C0, .type "ValueError", .type "Exception", .type "BaseException", .type "object"] true xsn11 xsub11 xab11 xcol11 xdd11 xm011 xm111 xm211 xm311 xm511 "ValueError.__new__"))
    (fxr_NameTaken : PySem.HandSPX.refsVE [.ref C0, .type "ValueError", .type "Exception", .type "BaseException", .type "object"] = true)
    (sa_NameTaken : PySem.W.findIn K (.ref C11) "__setattr__" = some (some (.builtin "object.__setattr__")))
    (kpr_NameTaken : PySem.W.keepIn K (.ref C11) = true)
    (fsb_NameTaken : PySem.W.subIn K (.ref C11) (.type "BaseException") = some true)
    (fty_NameTaken : PySem.W.typeIn K (.ref C11) = some (.type "type"))
    (fy1_NameTaken : PySem.W.findIn K (.ref C11) "__getattribute__" = some (some (.builtin "BaseException.__getattribute__")))
    (fy2_NameTaken : PySem.W.findIn K (.ref C11) "__getattr__" = some none)
    (fy3_NameTaken : PySem.W.hasDictIn K C11 = true)
    (fnf_NameTaken_name : PySem.W.findIn K (.ref C11) "name" = some none)
    (xl_UnknownName : K.lookup C12 = some (excClassObj xnm12 xq12 C12 xN12 xbs12 [.ref C0, .type "ValueError", .type "Exception", .type "BaseException", .type "object"] true xsn12 xsub12 xab12 xcol12 xdd12 xm012 xm112 xm212 xm312 xm512 "ValueError.__new__"))
    (fxr_UnknownName : PySem.HandSPX.refsVE [.ref C0, .type "ValueError", .type "Exception", .type "BaseException", .type "object"] = true)
    (sa_UnknownName : PySem.W.findIn K (.ref C12) "__setattr__" = some (some (.builtin "object.__setattr__")))
    (kpr_UnknownName : PySem.W.keepIn K (.ref C12) = true)
    (fsb_UnknownName : PySem.W.subIn K (.ref C12) (.type "BaseException") = some true)
    (fty_UnknownName : PySem.W.typeIn K (.ref C12) = some (.type "type"))
    (fy1_UnknownName : PySem.W.findIn K (.ref C12) "__getattribute__" = some (some (.builtin "BaseException.__getattribute__")))
    (fy2_UnknownName : PySem.W.findIn K (.ref C12) "__getattr__" = some none)
    (fy3_UnknownName : PySem.W.hasDictIn K C12 = true)
    (fnf_UnknownName_name : PySem.W.findIn K (.ref C12) "name" = some none)
    (xl_NotEnough : K.lookup C13 = some (excClassObj xnm13 xq13 C13 xN13 xbs13 [.ref C0, .type "ValueError", .type "Exception", .type "BaseException", .type "object"] true xsn13 xsub13 xab13 xcol13 xdd13 xm013 xm113 xm213 xm313 xm513 "ValueError.__new__"))
    (fxr_NotEnough : PySem.HandSPX.refsVE [.ref C0, .type "ValueError", .type "Exception", .type "BaseException", .type "object"] = true)
    (sa_NotEnough : PySem.W.findIn K (.ref C13) "__setattr__" = some (some (.builtin "object.__setattr__")))
    (kpr_NotEnough : PySem.W.keepIn K (.ref C13) = true)
    (fsb_NotEnough : PySem.W.subIn K (.ref C13) (.type "BaseException") = some true)
    (fty_NotEnough : PySem.W.typeIn K (.ref C13) = some (.type "type"))
    (fy1_NotEnough : PySem.W.findIn K (.ref C13) "__getattribute__" = some (some (.builtin "BaseException.__getattribute__")))
    (fy2_NotEnough : PySem.W.findIn K (.ref C13) "__getattr__" = some none)
    (fy3_NotEnough : PySem.W.hasDictIn K C13 = true)
    (fnf_NotEnough_day : PySem.W.findIn K (.ref C13) "day" = some none)
    (fnf_NotEnough_number : PySem.W.findIn K (.ref C13) "number" = some none)
    (fnf_NotEnough_missing : PySem.W.findIn K (.ref C13) "missing" = some none)
    (xl_TooMany : K.lookup C14 = some (excClassObj xnm14 xq14 C14 xN14 xbs14 [.ref C0, .type "ValueError", .type "Exception", .type "BaseException", .type "object"] true xsn14 xsub14 xab14 xcol14 xdd14 xm014 xm114 xm214 xm314 xm514 "ValueError.__new__"))
    (fxr_TooMany : PySem.HandSPX.refsVE [.ref C0, .type "ValueError", .type "Exception", .type "BaseException", .type "object"] = true)
    (sa_TooMany : PySem.W.findIn K (.ref C14) "__setattr__" = some (some (.builtin "object.__setattr__")))
    (kpr_TooMany : PySem.W.keepIn K (.ref C14) = true)
    (fsb_TooMany : PySem.W.subIn K (.ref C14) (.type "BaseException") = some true)
    (fty_TooMany : PySem.W.typeIn K (.ref C14) = some (.type "type"))
    (fy1_TooMany : PySem.W.findIn K (.ref C14) "__getattribute__" = some (some (.builtin "BaseException.__getattribute__")))
    (fy2_TooMany : PySem.W.findIn K (.ref C14) "__getattr__" = some none)
    (fy3_TooMany : PySem.W.hasDictIn K C14 = true)
    (fnf_TooMany_day : PySem.W.findIn K (.ref C14) "day" = some none)
    (fnf_TooMany_number : PySem.W.findIn K (.ref C14) "number" = some none)
    (fnf_TooMany_left : PySem.W.findIn K (.ref C14) "left" = some none)
    (xl_Contradiction : K.lookup C15 = some (excClassObj xnm15 xq15 C15 xN15 xbs15 [.ref C0, .type "ValueError", .type "Exception", .type "BaseException", .type "object"] true xsn15 xsub15 xab15 xcol15 xdd15 xm015 xm115 xm215 xm315 xm515 "ValueError.__new__"))
    (fxr_Contradiction : PySem.HandSPX.refsVE [.ref C0, .type "ValueError", .type "Exception", .type "BaseException", .type "object"] = true)
    (sa_Contradiction : PySem.W.findIn K (.ref C15) "__setattr__" = some (some (.builtin "object.__setattr__")))
    (kpr_Contradiction : PySem.W.keepIn K (.ref C15) = true)
    (fsb_Contradiction : PySem.W.subIn K (.ref C15) (.type "BaseException") = some true)
    (fty_Contradiction : PySem.W.typeIn K (.ref C15) = some (.type "type"))
    (fy1_Contradiction : PySem.W.findIn K (.ref C15) "__getattribute__" = some (some (.builtin "BaseException.__getattribute__")))
    (fy2_Contradiction : PySem.W.findIn K (.ref C15) "__getattr__" = some none)
    (fy3_Contradiction : PySem.W.hasDictIn K C15 = true)
    (fnf_Contradiction_pair : PySem.W.findIn K (.ref C15) "pair" = some none)
    (xl_NotPlain : K.lookup C16 = some (excClassObj xnm16 xq16 C16 xN16 xbs16 [.ref C0, .type "ValueError", .type "Exception", .type "BaseException", .type "object"] true xsn16 xsub16 xab16 xcol16 xdd16 xm016 xm116 xm216 xm316 xm516 "ValueError.__new__"))
    (fxr_NotPlain : PySem.HandSPX.refsVE [.ref C0, .type "ValueError", .type "Exception", .type "BaseException", .type "object"] = true)
    (sa_NotPlain : PySem.W.findIn K (.ref C16) "__setattr__" = some (some (.builtin "object.__setattr__")))
    (kpr_NotPlain : PySem.W.keepIn K (.ref C16) = true)
    (fsb_NotPlain : PySem.W.subIn K (.ref C16) (.type "BaseException") = some true)
    (fty_NotPlain : PySem.W.typeIn K (.ref C16) = some (.type "type"))
    (fy1_NotPlain : PySem.W.findIn K (.ref C16) "__getattribute__" = some (some (.builtin "BaseException.__getattribute__")))
    (fy2_NotPlain : PySem.W.findIn K (.ref C16) "__getattr__" = some none)
    (fy3_NotPlain : PySem.W.hasDictIn K C16 = true)
    (fnf_NotPlain_day : PySem.W.findIn K (.ref C16) "day" = some none)
    (fnf_NotPlain_number : PySem.W.findIn K (.ref C16) "number" = some none)
    (fkp_NotPossible : PySem.W.keepIn K (.ref C17) = true)
    (fex_NotPossible : PySem.W.excIn K C17 [.type "ValueError", .type "Exception", .type "BaseException", .type "object"] "ValueError.__new__" = true)
    (xl_Shut : K.lookup C18 = some (excClassObj xnm18 xq18 C18 xN18 xbs18 [.ref C0, .type "ValueError", .type "Exception", .type "BaseException", .type "object"] true xsn18 xsub18 xab18 xcol18 xdd18 xm018 xm118 xm218 xm318 xm518 "ValueError.__new__"))
    (fxr_Shut : PySem.HandSPX.refsVE [.ref C0, .type "ValueError", .type "Exception", .type "BaseException", .type "object"] = true)
    (sa_Shut : PySem.W.findIn K (.ref C18) "__setattr__" = some (some (.builtin "object.__setattr__")))
    (kpr_Shut : PySem.W.keepIn K (.ref C18) = true)
    (fsb_Shut : PySem.W.subIn K (.ref C18) (.type "BaseException") = some true)
    (fty_Shut : PySem.W.typeIn K (.ref C18) = some (.type "type"))
    (fy1_Shut : PySem.W.findIn K (.ref C18) "__getattribute__" = some (some (.builtin "BaseException.__getattribute__")))
    (fy2_Shut : PySem.W.findIn K (.ref C18) "__getattr__" = some none)
    (fy3_Shut : PySem.W.hasDictIn K C18 = true)
    (fnf_Shut_day : PySem.W.findIn K (.ref C18) "day" = some none)
    (xl_NotClosed : K.lookup C19 = some (excClassObj xnm19 xq19 C19 xN19 xbs19 [.ref C0, .type "ValueError", .type "Exception", .type "BaseException", .type "object"] true xsn19 xsub19 xab19 xcol19 xdd19 xm019 xm119 xm219 xm319 xm519 "ValueError.__new__"))
    (fxr_NotClosed : PySem.HandSPX.refsVE [.ref C0, .type "ValueError", .type "Exception", .type "BaseException", .type "object"] = true)
    (sa_NotClosed : PySem.W.findIn K (.ref C19) "__setattr__" = some (some (.builtin "object.__setattr__")))
    (kpr_NotClosed : PySem.W.keepIn K (.ref C19) = true)
    (fsb_NotClosed : PySem.W.subIn K (.ref C19) (.type "BaseException") = some true)
    (fty_NotClosed : PySem.W.typeIn K (.ref C19) = some (.type "type"))
    (fy1_NotClosed : PySem.W.findIn K (.ref C19) "__getattribute__" = some (some (.builtin "BaseException.__getattribute__")))
    (fy2_NotClosed : PySem.W.findIn K (.ref C19) "__getattr__" = some none)
    (fy3_NotClosed : PySem.W.hasDictIn K C19 = true)
    (fnf_NotClosed_day : PySem.W.findIn K (.ref C19) "day" = some none)
    (fkp_NotTold : PySem.W.keepIn K (.ref C20) = true)
    (fex_NotTold : PySem.W.excIn K C20 [.type "ValueError", .type "Exception", .type "BaseException", .type "object"] "ValueError.__new__" = true)
    (xl_Unfit : K.lookup C21 = some (excClassObj xnm21 xq21 C21 xN21 xbs21 [.ref C0, .type "ValueError", .type "Exception", .type "BaseException", .type "object"] true xsn21 xsub21 xab21 xcol21 xdd21 xm021 xm121 xm221 xm321 xm521 "ValueError.__new__"))
    (fxr_Unfit : PySem.HandSPX.refsVE [.ref C0, .type "ValueError", .type "Exception", .type "BaseException", .type "object"] = true)
    (sa_Unfit : PySem.W.findIn K (.ref C21) "__setattr__" = some (some (.builtin "object.__setattr__")))
    (kpr_Unfit : PySem.W.keepIn K (.ref C21) = true)
    (fsb_Unfit : PySem.W.subIn K (.ref C21) (.type "BaseException") = some true)
    (fty_Unfit : PySem.W.typeIn K (.ref C21) = some (.type "type"))
    (fy1_Unfit : PySem.W.findIn K (.ref C21) "__getattribute__" = some (some (.builtin "BaseException.__getattribute__")))
    (fy2_Unfit : PySem.W.findIn K (.ref C21) "__getattr__" = some none)
    (fy3_Unfit : PySem.W.hasDictIn K C21 = true)
    (fnf_Unfit_factors : PySem.W.findIn K (.ref C21) "factors" = some none)
    (ct_Unfit : PySem.W.clsIn K C21 = some kd21)
    (cm_Unfit : kd21.mro = [.ref C21, .ref C0, .type "ValueError", .type "Exception", .type "BaseException", .type "object"])
    (fy4_Unfit : PySem.W.findIn K (.ref C21) "__class__" = some (some (.builtin "object.__class__")))
    (fo5 : PySem.W.specialIn K (.builtin "object.__class__") "__get__" = some (some (.builtin "getset_descriptor.__get__")))
    (fo6 : PySem.W.takesIn K (.builtin "object.__class__") = some true)
    (fy7_Unfit : PySem.W.mroIn K C21 (.type "object") = some true)
    (ct_NotTold : PySem.W.clsIn K C20 = some kd20)
    (cm_NotTold : kd20.mro = [.ref C20, .ref C0, .type "ValueError", .type "Exception", .type "BaseException", .type "object"])
    (fty_NotTold : PySem.W.typeIn K (.ref C20) = some (.type "type"))
    (fy1_NotTold : PySem.W.findIn K (.ref C20) "__getattribute__" = some (some (.builtin "BaseException.__getattribute__")))
    (fy2_NotTold : PySem.W.findIn K (.ref C20) "__getattr__" = some none)
    (fsb_NotTold : PySem.W.subIn K (.ref C20) (.type "BaseException") = some true)
    (fy3_NotTold : PySem.W.hasDictIn K C20 = true)
    (fy4_NotTold : PySem.W.findIn K (.ref C20) "__class__" = some (some (.builtin "object.__class__")))
    (fy7_NotTold : PySem.W.mroIn K C20 (.type "object") = some true)
    (ct_NotClosed : PySem.W.clsIn K C19 = some kd19)
    (cm_NotClosed : kd19.mro = [.ref C19, .ref C0, .type "ValueError", .type "Exception", .type "BaseException", .type "object"])
    (fy4_NotClosed : PySem.W.findIn K (.ref C19) "__class__" = some (some (.builtin "object.__class__")))
    (fy7_NotClosed : PySem.W.mroIn K C19 (.type "object") = some true)
    (ct_Shut : PySem.W.clsIn K C18 = some kd18)
    (cm_Shut : kd18.mro = [.ref C18, .ref C0, .type "ValueError", .type "Exception", .type "BaseException", .type "object"])
    (fy4_Shut : PySem.W.findIn K (.ref C18) "__class__" = some (some (.builtin "object.__class__")))
    (fy7_Shut : PySem.W.mroIn K C18 (.type "object") = some true)
    (ct_NotPossible : PySem.W.clsIn K C17 = some kd17)
    (cm_NotPossible : kd17.mro = [.ref C17, .ref C0, .type "ValueError", .type "Exception", .type "BaseException", .type "object"])
    (fty_NotPossible : PySem.W.typeIn K (.ref C17) = some (.type "type"))
    (fy1_NotPossible : PySem.W.findIn K (.ref C17) "__getattribute__" = some (some (.builtin "BaseException.__getattribute__")))
    (fy2_NotPossible : PySem.W.findIn K (.ref C17) "__getattr__" = some none)
    (fsb_NotPossible : PySem.W.subIn K (.ref C17) (.type "BaseException") = some true)
    (fy3_NotPossible : PySem.W.hasDictIn K C17 = true)
    (fy4_NotPossible : PySem.W.findIn K (.ref C17) "__class__" = some (some (.builtin "object.__class__")))
    (fy7_NotPossible : PySem.W.mroIn K C17 (.type "object") = some true)
    (ct_NotPlain : PySem.W.clsIn K C16 = some kd16)
    (cm_NotPlain : kd16.mro = [.ref C16, .ref C0, .type "ValueError", .type "Exception", .type "BaseException", .type "object"])
    (fy4_NotPlain : PySem.W.findIn K (.ref C16) "__class__" = some (some (.builtin "object.__class__")))
    (fy7_NotPlain : PySem.W.mroIn K C16 (.type "object") = some true)
    (ct_Contradiction : PySem.W.clsIn K C15 = some kd15)
    (cm_Contradiction : kd15.mro = [.ref C15, .ref C0, .type "ValueError", .type "Exception", .type "BaseException", .type "object"])
    (fy4_Contradiction : PySem.W.findIn K (.ref C15) "__class__" = some (some (.builtin "object.__class__")))
    (fy7_Contradiction : PySem.W.mroIn K C15 (.type "object") = some true)
    (ct_TooMany : PySem.W.clsIn K C14 = some kd14)
    (cm_TooMany : kd14.mro = [.ref C14, .ref C0, .type "ValueError", .type "Exception", .type "BaseException", .type "object"])
    (fy4_TooMany : PySem.W.findIn K (.ref C14) "__class__" = some (some (.builtin "object.__class__")))
    (fy7_TooMany : PySem.W.mroIn K C14 (.type "object") = some true)
    (ct_NotEnough : PySem.W.clsIn K C13 = some kd13)
    (cm_NotEnough : kd13.mro = [.ref C13, .ref C0, .type "ValueError", .type "Exception", .type "BaseException", .type "object"])
    (fy4_NotEnough : PySem.W.findIn K (.ref C13) "__class__" = some (some (.builtin "object.__class__")))
    (fy7_NotEnough : PySem.W.mroIn K C13 (.type "object") = some true)
    (ct_UnknownName : PySem.W.clsIn K C12 = some kd12)
    (cm_UnknownName : kd12.mro = [.ref C12, .ref C0, .type "ValueError", .type "Exception", .type "BaseException", .type "object"])
    (fy4_UnknownName : PySem.W.findIn K (.ref C12) "__class__" = some (some (.builtin "object.__class__")))
    (fy7_UnknownName : PySem.W.mroIn K C12 (.type "object") = some true)
    (ct_NameTaken : PySem.W.clsIn K C11 = some kd11)
    (cm_NameTaken : kd11.mro = [.ref C11, .ref C0, .type "ValueError", .type "Exception", .type "BaseException", .type "object"])
    (fy4_NameTaken : PySem.W.findIn K (.ref C11) "__class__" = some (some (.builtin "object.__class__")))
    (fy7_NameTaken : PySem.W.mroIn K C11 (.type "object") = some true)
    (ct_Short : PySem.W.clsIn K C10 = some kd10)
    (cm_Short : kd10.mro = [.ref C10, .ref C0, .type "ValueError", .type "Exception", .type "BaseException", .type "object"])
    (fy4_Short : PySem.W.findIn K (.ref C10) "__class__" = some (some (.builtin "object.__class__")))
    (fy7_Short : PySem.W.mroIn K C10 (.type "object") = some true)
    (ct_BadRule : PySem.W.clsIn K C9 = some kd9)
    (cm_BadRule : kd9.mro = [.ref C9, .ref C0, .type "ValueError", .type "Exception", .type "BaseException", .type "object"])
    (fy4_BadRule : PySem.W.findIn K (.ref C9) "__class__" = some (some (.builtin "object.__class__")))
    (fy7_BadRule : PySem.W.mroIn K C9 (.type "object") = some true)
    (ct_NoEntry : PySem.W.clsIn K C8 = some kd8)
    (cm_NoEntry : kd8.mro = [.ref C8, .ref C0, .type "ValueError", .type "Exception", .type "BaseException", .type "object"])
    (fy4_NoEntry : PySem.W.findIn K (.ref C8) "__class__" = some (some (.builtin "object.__class__")))
    (fy7_NoEntry : PySem.W.mroIn K C8 (.type "object") = some true)
    (ct_BadEntry : PySem.W.clsIn K C7 = some kd7)
    (cm_BadEntry : kd7.mro = [.ref C7, .ref C0, .type "ValueError", .type "Exception", .type "BaseException", .type "object"])
    (fy4_BadEntry : PySem.W.findIn K (.ref C7) "__class__" = some (some (.builtin "object.__class__")))
    (fy7_BadEntry : PySem.W.mroIn K C7 (.type "object") = some true)
    (ct_Negative : PySem.W.clsIn K C6 = some kd6)
    (cm_Negative : kd6.mro = [.ref C6, .ref C0, .type "ValueError", .type "Exception", .type "BaseException", .type "object"])
    (fy4_Negative : PySem.W.findIn K (.ref C6) "__class__" = some (some (.builtin "object.__class__")))
    (fy7_Negative : PySem.W.mroIn K C6 (.type "object") = some true)
    (ct_NoPrice : PySem.W.clsIn K C5 = some kd5)
    (cm_NoPrice : kd5.mro = [.ref C5, .ref C0, .type "ValueError", .type "Exception", .type "BaseException", .type "object"])
    (fy4_NoPrice : PySem.W.findIn K (.ref C5) "__class__" = some (some (.builtin "object.__class__")))
    (fy7_NoPrice : PySem.W.mroIn K C5 (.type "object") = some true)
    (ct_BadName : PySem.W.clsIn K C4 = some kd4)
    (cm_BadName : kd4.mro = [.ref C4, .ref C0, .type "ValueError", .type "Exception", .type "BaseException", .type "object"])
    (fy4_BadName : PySem.W.findIn K (.ref C4) "__class__" = some (some (.builtin "object.__class__")))
    (fy7_BadName : PySem.W.mroIn K C4 (.type "object") = some true)
    (ct_NoRatio : PySem.W.clsIn K C1 = some kd1)
    (cm_NoRatio : kd1.mro = [.ref C1, .ref C0, .type "ValueError", .type "Exception", .type "BaseException", .type "object"])
    (fty_NoRatio : PySem.W.typeIn K (.ref C1) = some (.type "type"))
    (fy1_NoRatio : PySem.W.findIn K (.ref C1) "__getattribute__" = some (some (.builtin "BaseException.__getattribute__")))
    (fy2_NoRatio : PySem.W.findIn K (.ref C1) "__getattr__" = some none)
    (fsb_NoRatio : PySem.W.subIn K (.ref C1) (.type "BaseException") = some true)
    (fy3_NoRatio : PySem.W.hasDictIn K C1 = true)
    (fy4_NoRatio : PySem.W.findIn K (.ref C1) "__class__" = some (some (.builtin "object.__class__")))
    (fy7_NoRatio : PySem.W.mroIn K C1 (.type "object") = some true)
    (fnd : [C0, C1, C4, C5, C6, C7, C8, C9, C10, C11, C12, C13, C14, C15, C16, C17, C18, C19, C20, C21].Nodup)
    (ct_CostError : PySem.W.clsIn K C0 = some kd0)
    (fty_CostError : PySem.W.typeIn K (.ref C0) = some (.type "type"))
    (a0 : PySem.W.nsIn K mainGlobals "_law_bag" = some (some (.ref f0)))
    (l0 : K.lookup f0 = some ⟨oc0, od0, .func (PySem.W.fnOf "_law_bag" "_law_bag" (defArgs s_l_bag) (defBody s_l_bag) (defScope s_l_bag) .none kV0 dc0 pm0 an0 cd0 ct0), sl0⟩)
    (c0 : PySem.W.codeIn K cd0 "_law_bag" = true)
    (k0 : PySem.W.keepIn K (.ref f0) = true)
    (a1 : PySem.W.nsIn K mainGlobals "_law_draw" = some (some (.ref f1)))
    (l1 : K.lookup f1 = some ⟨oc1, od1, .func (PySem.W.fnOf "_law_draw" "_law_draw" (defArgs s_l_draw) (defBody s_l_draw) (defScope s_l_draw) .none kV1 dc1 pm1 an1 cd1 ct1), sl1⟩)
    (c1 : PySem.W.codeIn K cd1 "_law_draw" = true)
    (k1 : PySem.W.keepIn K (.ref f1) = true)
    (a2 : PySem.W.nsIn K mainGlobals "_law_names" = some (some (.ref f2)))
    (l2 : K.lookup f2 = some ⟨oc2, od2, .func (PySem.W.fnOf "_law_names" "_law_names" (defArgs s_l_names) (defBody s_l_names) (defScope s_l_names) .none kV2 dc2 pm2 an2 cd2 ct2), sl2⟩)
    (c2 : PySem.W.codeIn K cd2 "_law_names" = true)
    (k2 : PySem.W.keepIn K (.ref f2) = true)
    (a3 : PySem.W.findIn K (.ref C5) "__init__" = some (some (.ref f3)))
    (i3 : PySem.W.isFn K (.ref f3) = true)
    (ti3 : PySem.W.typeIn K (.ref f3) = some (.type "function"))
    (l3 : K.lookup f3 = some ⟨oc3, od3, .func (PySem.W.fnOf "__init__" "NoPrice.__init__" (defArgs s_NoPrice_init) (defBody s_NoPrice_init) (defScope s_NoPrice_init) .none kV3 dc3 pm3 an3 cd3 ct3), sl3⟩)
    (c3 : PySem.W.codeIn K cd3 "NoPrice.__init__" = true)
    (k3 : PySem.W.keepIn K (.ref f3) = true)
    (a4 : PySem.W.findIn K (.ref C6) "__init__" = some (some (.ref f4)))
    (i4 : PySem.W.isFn K (.ref f4) = true)
    (ti4 : PySem.W.typeIn K (.ref f4) = some (.type "function"))
    (l4 : K.lookup f4 = some ⟨oc4, od4, .func (PySem.W.fnOf "__init__" "Negative.__init__" (defArgs s_Negative_init) (defBody s_Negative_init) (defScope s_Negative_init) .none kV4 dc4 pm4 an4 cd4 ct4), sl4⟩)
    (c4 : PySem.W.codeIn K cd4 "Negative.__init__" = true)
    (k4 : PySem.W.keepIn K (.ref f4) = true)
    (a5 : PySem.W.findIn K (.ref C4) "__init__" = some (some (.ref f5)))
    (i5 : PySem.W.isFn K (.ref f5) = true)
    (ti5 : PySem.W.typeIn K (.ref f5) = some (.type "function"))
    (l5 : K.lookup f5 = some ⟨oc5, od5, .func (PySem.W.fnOf "__init__" "BadName.__init__" (defArgs s_BadName_init) (defBody s_BadName_init) (defScope s_BadName_init) .none kV5 dc5 pm5 an5 cd5 ct5), sl5⟩)
    (c5 : PySem.W.codeIn K cd5 "BadName.__init__" = true)
    (k5 : PySem.W.keepIn K (.ref f5) = true)
    (a6 : PySem.W.findIn K (.ref C11) "__init__" = some (some (.ref f6)))
    (i6 : PySem.W.isFn K (.ref f6) = true)
    (ti6 : PySem.W.typeIn K (.ref f6) = some (.type "function"))
    (l6 : K.lookup f6 = some ⟨oc6, od6, .func (PySem.W.fnOf "__init__" "NameTaken.__init__" (defArgs s_NameTaken_init) (defBody s_NameTaken_init) (defScope s_NameTaken_init) .none kV6 dc6 pm6 an6 cd6 ct6), sl6⟩)
    (c6 : PySem.W.codeIn K cd6 "NameTaken.__init__" = true)
    (k6 : PySem.W.keepIn K (.ref f6) = true)
    (a7 : PySem.W.findIn K (.ref C12) "__init__" = some (some (.ref f7)))
    (i7 : PySem.W.isFn K (.ref f7) = true)
    (ti7 : PySem.W.typeIn K (.ref f7) = some (.type "function"))
    (l7 : K.lookup f7 = some ⟨oc7, od7, .func (PySem.W.fnOf "__init__" "UnknownName.__init__" (defArgs s_UnknownName_init) (defBody s_UnknownName_init) (defScope s_UnknownName_init) .none kV7 dc7 pm7 an7 cd7 ct7), sl7⟩)
    (c7 : PySem.W.codeIn K cd7 "UnknownName.__init__" = true)
    (k7 : PySem.W.keepIn K (.ref f7) = true)
    (a8 : PySem.W.nsIn K mainGlobals "_law_named" = some (some (.ref f8)))
    (l8 : K.lookup f8 = some ⟨oc8, od8, .func (PySem.W.fnOf "_law_named" "_law_named" (defArgs s_l_named) (defBody s_l_named) (defScope s_l_named) .none kV8 dc8 pm8 an8 cd8 ct8), sl8⟩)
    (c8 : PySem.W.codeIn K cd8 "_law_named" = true)
    (k8 : PySem.W.keepIn K (.ref f8) = true)
    (a9 : PySem.W.findIn K (.ref C7) "__init__" = some (some (.ref f9)))
    (i9 : PySem.W.isFn K (.ref f9) = true)
    (ti9 : PySem.W.typeIn K (.ref f9) = some (.type "function"))
    (l9 : K.lookup f9 = some ⟨oc9, od9, .func (PySem.W.fnOf "__init__" "BadEntry.__init__" (defArgs s_BadEntry_init) (defBody s_BadEntry_init) (defScope s_BadEntry_init) .none kV9 dc9 pm9 an9 cd9 ct9), sl9⟩)
    (c9 : PySem.W.codeIn K cd9 "BadEntry.__init__" = true)
    (k9 : PySem.W.keepIn K (.ref f9) = true)
    (a10 : PySem.W.findIn K (.ref C8) "__init__" = some (some (.ref f10)))
    (i10 : PySem.W.isFn K (.ref f10) = true)
    (ti10 : PySem.W.typeIn K (.ref f10) = some (.type "function"))
    (l10 : K.lookup f10 = some ⟨oc10, od10, .func (PySem.W.fnOf "__init__" "NoEntry.__init__" (defArgs s_NoEntry_init) (defBody s_NoEntry_init) (defScope s_NoEntry_init) .none kV10 dc10 pm10 an10 cd10 ct10), sl10⟩)
    (c10 : PySem.W.codeIn K cd10 "NoEntry.__init__" = true)
    (k10 : PySem.W.keepIn K (.ref f10) = true)
    (a11 : PySem.W.findIn K (.ref C16) "__init__" = some (some (.ref f11)))
    (i11 : PySem.W.isFn K (.ref f11) = true)
    (ti11 : PySem.W.typeIn K (.ref f11) = some (.type "function"))
    (l11 : K.lookup f11 = some ⟨oc11, od11, .func (PySem.W.fnOf "__init__" "NotPlain.__init__" (defArgs s_NotPlain_init) (defBody s_NotPlain_init) (defScope s_NotPlain_init) .none kV11 dc11 pm11 an11 cd11 ct11), sl11⟩)
    (c11 : PySem.W.codeIn K cd11 "NotPlain.__init__" = true)
    (k11 : PySem.W.keepIn K (.ref f11) = true)
    (a12 : PySem.W.nsIn K mainGlobals "_law_placed" = some (some (.ref f12)))
    (l12 : K.lookup f12 = some ⟨oc12, od12, .func (PySem.W.fnOf "_law_placed" "_law_placed" (defArgs s_l_placed) (defBody s_l_placed) (defScope s_l_placed) .none kV12 dc12 pm12 an12 cd12 ct12), sl12⟩)
    (c12 : PySem.W.codeIn K cd12 "_law_placed" = true)
    (k12 : PySem.W.keepIn K (.ref f12) = true)
    (a13 : PySem.W.findIn K (.ref C13) "__init__" = some (some (.ref f13)))
    (i13 : PySem.W.isFn K (.ref f13) = true)
    (ti13 : PySem.W.typeIn K (.ref f13) = some (.type "function"))
    (l13 : K.lookup f13 = some ⟨oc13, od13, .func (PySem.W.fnOf "__init__" "NotEnough.__init__" (defArgs s_NotEnough_init) (defBody s_NotEnough_init) (defScope s_NotEnough_init) .none kV13 dc13 pm13 an13 cd13 ct13), sl13⟩)
    (c13 : PySem.W.codeIn K cd13 "NotEnough.__init__" = true)
    (k13 : PySem.W.keepIn K (.ref f13) = true)
    (a14 : PySem.W.findIn K (.ref C14) "__init__" = some (some (.ref f14)))
    (i14 : PySem.W.isFn K (.ref f14) = true)
    (ti14 : PySem.W.typeIn K (.ref f14) = some (.type "function"))
    (l14 : K.lookup f14 = some ⟨oc14, od14, .func (PySem.W.fnOf "__init__" "TooMany.__init__" (defArgs s_TooMany_init) (defBody s_TooMany_init) (defScope s_TooMany_init) .none kV14 dc14 pm14 an14 cd14 ct14), sl14⟩)
    (c14 : PySem.W.codeIn K cd14 "TooMany.__init__" = true)
    (k14 : PySem.W.keepIn K (.ref f14) = true)
    (a15 : PySem.W.findIn K (.ref C15) "__init__" = some (some (.ref f15)))
    (i15 : PySem.W.isFn K (.ref f15) = true)
    (ti15 : PySem.W.typeIn K (.ref f15) = some (.type "function"))
    (l15 : K.lookup f15 = some ⟨oc15, od15, .func (PySem.W.fnOf "__init__" "Contradiction.__init__" (defArgs s_Contradiction_init) (defBody s_Contradiction_init) (defScope s_Contradiction_init) .none kV15 dc15 pm15 an15 cd15 ct15), sl15⟩)
    (c15 : PySem.W.codeIn K cd15 "Contradiction.__init__" = true)
    (k15 : PySem.W.keepIn K (.ref f15) = true)
    (a16 : PySem.W.findIn K (.ref C9) "__init__" = some (some (.ref f16)))
    (i16 : PySem.W.isFn K (.ref f16) = true)
    (ti16 : PySem.W.typeIn K (.ref f16) = some (.type "function"))
    (l16 : K.lookup f16 = some ⟨oc16, od16, .func (PySem.W.fnOf "__init__" "BadRule.__init__" (defArgs s_BadRule_init) (defBody s_BadRule_init) (defScope s_BadRule_init) .none kV16 dc16 pm16 an16 cd16 ct16), sl16⟩)
    (c16 : PySem.W.codeIn K cd16 "BadRule.__init__" = true)
    (k16 : PySem.W.keepIn K (.ref f16) = true)
    (a17 : PySem.W.findIn K (.ref C10) "__init__" = some (some (.ref f17)))
    (i17 : PySem.W.isFn K (.ref f17) = true)
    (ti17 : PySem.W.typeIn K (.ref f17) = some (.type "function"))
    (l17 : K.lookup f17 = some ⟨oc17, od17, .func (PySem.W.fnOf "__init__" "Short.__init__" (defArgs s_Short_init) (defBody s_Short_init) (defScope s_Short_init) .none kV17 dc17 pm17 an17 cd17 ct17), sl17⟩)
    (c17 : PySem.W.codeIn K cd17 "Short.__init__" = true)
    (k17 : PySem.W.keepIn K (.ref f17) = true)
    (a18 : PySem.W.findIn K (.ref C18) "__init__" = some (some (.ref f18)))
    (i18 : PySem.W.isFn K (.ref f18) = true)
    (ti18 : PySem.W.typeIn K (.ref f18) = some (.type "function"))
    (l18 : K.lookup f18 = some ⟨oc18, od18, .func (PySem.W.fnOf "__init__" "Shut.__init__" (defArgs s_Shut_init) (defBody s_Shut_init) (defScope s_Shut_init) .none kV18 dc18 pm18 an18 cd18 ct18), sl18⟩)
    (c18 : PySem.W.codeIn K cd18 "Shut.__init__" = true)
    (k18 : PySem.W.keepIn K (.ref f18) = true)
    (a19 : PySem.W.findIn K (.ref C19) "__init__" = some (some (.ref f19)))
    (i19 : PySem.W.isFn K (.ref f19) = true)
    (ti19 : PySem.W.typeIn K (.ref f19) = some (.type "function"))
    (l19 : K.lookup f19 = some ⟨oc19, od19, .func (PySem.W.fnOf "__init__" "NotClosed.__init__" (defArgs s_NotClosed_init) (defBody s_NotClosed_init) (defScope s_NotClosed_init) .none kV19 dc19 pm19 an19 cd19 ct19), sl19⟩)
    (c19 : PySem.W.codeIn K cd19 "NotClosed.__init__" = true)
    (k19 : PySem.W.keepIn K (.ref f19) = true)
    (a20 : PySem.W.findIn K (.ref C21) "__init__" = some (some (.ref f20)))
    (i20 : PySem.W.isFn K (.ref f20) = true)
    (ti20 : PySem.W.typeIn K (.ref f20) = some (.type "function"))
    (l20 : K.lookup f20 = some ⟨oc20, od20, .func (PySem.W.fnOf "__init__" "Unfit.__init__" (defArgs s_Unfit_init) (defBody s_Unfit_init) (defScope s_Unfit_init) .none kV20 dc20 pm20 an20 cd20 ct20), sl20⟩)
    (c20 : PySem.W.codeIn K cd20 "Unfit.__init__" = true)
    (k20 : PySem.W.keepIn K (.ref f20) = true)
    (a21 : PySem.W.nsIn K mainGlobals "_law_others" = some (some (.ref f21)))
    (l21 : K.lookup f21 = some ⟨oc21, od21, .func (PySem.W.fnOf "_law_others" "_law_others" (defArgs s_l_others) (defBody s_l_others) (defScope s_l_others) .none kV21 dc21 pm21 an21 cd21 ct21), sl21⟩)
    (c21 : PySem.W.codeIn K cd21 "_law_others" = true)
    (k21 : PySem.W.keepIn K (.ref f21) = true)
    (a22 : PySem.W.nsIn K mainGlobals "_law_classes" = some (some (.ref f22)))
    (l22 : K.lookup f22 = some ⟨oc22, od22, .func (PySem.W.fnOf "_law_classes" "_law_classes" (defArgs s_l_classes) (defBody s_l_classes) (defScope s_l_classes) .none kV22 dc22 pm22 an22 cd22 ct22), sl22⟩)
    (c22 : PySem.W.codeIn K cd22 "_law_classes" = true)
    (k22 : PySem.W.keepIn K (.ref f22) = true)
    (a23 : PySem.W.nsIn K mainGlobals "law" = some (some (.ref f23)))
    (l23 : K.lookup f23 = some ⟨oc23, od23, .func (PySem.W.fnOf "law" "law" (defArgs s_law) (defBody s_law) (defScope s_law) .none kV23 dc23 pm23 an23 cd23 ct23), sl23⟩)
    (c23 : PySem.W.codeIn K cd23 "law" = true)
    (k23 : PySem.W.keepIn K (.ref f23) = true)
    : ∃ fd : FuncData, (∀ (s : Shared) (v : Value), BindsTo s fd ⟨[v], []⟩ [("_law_script", v)]) ∧ ∀ base : Heap, K.In base → base.Ns mainGlobals mg → FnOk l.prog w K mg base (L2.CX l.prog w) 4 fa fd ["_law_script"] (sp_law K fun _ => 0) := by
  have e := hfa.symm.trans (PySem.W.mg_of X G a23)
  cases e
  have T : Txt K mg (fun n => if n = 0 then C0 else if n = 1 then C1 else if n = 4 then C4 else if n = 5 then C5 else if n = 6 then C6 else if n = 7 then C7 else if n = 8 then C8 else if n = 9 then C9 else if n = 10 then C10 else if n = 11 then C11 else if n = 12 then C12 else if n = 13 then C13 else if n = 14 then C14 else if n = 15 then C15 else if n = 16 then C16 else if n = 17 then C17 else if n = 18 then C18 else if n = 19 then C19 else if n = 20 then C20 else if n = 21 then C21 else 0) := ⟨PySem.W.mg_none_of X G z_ValueError, PySem.W.mg_none_of X G z_abs, PySem.W.mg_none_of X G z_int, PySem.W.mg_none_of X G z_isinstance, PySem.W.mg_none_of X G z_len, PySem.W.mg_none_of X G z_list, PySem.W.mg_none_of X G z_range, PySem.W.mg_none_of X G z_sum, PySem.W.mg_of X G aC0, PySem.W.mg_of X G aC1, fkp_NoRatio, fex_NoRatio, PySem.W.mg_of X G aC4, ⟨⟨_, _, _, _, _, _, _, _, _, _, _, _, _, _, _, xl_BadName, fxr_BadName⟩, sa_BadName, fsb_BadName, fty_BadName, kpr_BadName⟩, ⟨fy1_BadName, fy2_BadName, fsb_BadName, fy3_BadName⟩, fnf_BadName_name, PySem.W.mg_of X G aC5, ⟨⟨_, _, _, _, _, _, _, _, _, _, _, _, _, _, _, xl_NoPrice, fxr_NoPrice⟩, sa_NoPrice, fsb_NoPrice, fty_NoPrice, kpr_NoPrice⟩, ⟨fy1_NoPrice, fy2_NoPrice, fsb_NoPrice, fy3_NoPrice⟩, fnf_NoPrice_name, PySem.W.mg_of X G aC6, ⟨⟨_, _, _, _, _, _, _, _, _, _, _, _, _, _, _, xl_Negative, fxr_Negative⟩, sa_Negative, fsb_Negative, fty_Negative, kpr_Negative⟩, ⟨fy1_Negative, fy2_Negative, fsb_Negative, fy3_Negative⟩, fnf_Negative_name, PySem.W.mg_of X G aC7, ⟨⟨_, _, _, _, _, _, _, _, _, _, _, _, _, _, _, xl_BadEntry, fxr_BadEntry⟩, sa_BadEntry, fsb_BadEntry, fty_BadEntry, kpr_BadEntry⟩, ⟨fy1_BadEntry, fy2_BadEntry, fsb_BadEntry, fy3_BadEntry⟩, fnf_BadEntry_day, fnf_BadEntry_number, PySem.W.mg_of X G aC8, ⟨⟨_, _, _, _, _, _, _, _, _, _, _, _, _, _, _, xl_NoEntry, fxr_NoEntry⟩, sa_NoEntry, fsb_NoEntry, fty_NoEntry, kpr_NoEntry⟩, ⟨fy1_NoEntry, fy2_NoEntry, fsb_NoEntry, fy3_NoEntry⟩, fnf_NoEntry_day, fnf_NoEntry_number, PySem.W.mg_of X G aC9, ⟨⟨_, _, _, _, _, _, _, _, _, _, _, _, _, _, _, xl_BadRule, fxr_BadRule⟩, sa_BadRule, fsb_BadRule, fty_BadRule, kpr_BadRule⟩, ⟨fy1_BadRule, fy2_BadRule, fsb_BadRule, fy3_BadRule⟩, fnf_BadRule_word, PySem.W.mg_of X G aC10, ⟨⟨_, _, _, _, _, _, _, _, _, _, _, _, _, _, _, xl_Short, fxr_Short⟩, sa_Short, fsb_Short, fty_Short, kpr_Short⟩, ⟨fy1_Short, fy2_Short, fsb_Short, fy3_Short⟩, fnf_Short_missing, PySem.W.mg_of X G aC11, ⟨⟨_, _, _, _, _, _, _, _, _, _, _, _, _, _, _, xl_NameTaken, fxr_NameTaken⟩, sa_NameTaken, fsb_NameTaken, fty_NameTaken, kpr_NameTaken⟩, ⟨fy1_NameTaken, fy2_NameTaken, fsb_NameTaken, fy3_NameTaken⟩, fnf_NameTaken_name, PySem.W.mg_of X G aC12, ⟨⟨_, _, _, _, _, _, _, _, _, _, _, _, _, _, _, xl_UnknownName, fxr_UnknownName⟩, sa_UnknownName, fsb_UnknownName, fty_UnknownName, kpr_UnknownName⟩, ⟨fy1_UnknownName, fy2_UnknownName, fsb_UnknownName, fy3_UnknownName⟩, fnf_UnknownName_name, PySem.W.mg_of X G aC13, ⟨⟨_, _, _, _, _, _, _, _, _, _, _, _, _, _, _, xl_NotEnough, fxr_NotEnough⟩, sa_NotEnough, fsb_NotEnough, fty_NotEnough, kpr_NotEnough⟩, ⟨fy1_NotEnough, fy2_NotEnough, fsb_NotEnough, fy3_NotEnough⟩, fnf_NotEnough_day, fnf_NotEnough_number, fnf_NotEnough_missing, PySem.W.mg_of X G aC14, ⟨⟨_, _, _, _, _, _, _, _, _, _, _, _, _, _, _, xl_TooMany, fxr_TooMany⟩, sa_TooMany, fsb_TooMany, fty_TooMany, kpr_TooMany⟩, ⟨fy1_TooMany, fy2_TooMany, fsb_TooMany, fy3_TooMany⟩, fnf_TooMany_day, fnf_TooMany_number, fnf_TooMany_left, PySem.W.mg_of X G aC15, ⟨⟨_, _, _, _, _, _, _, _, _, _, _, _, _, _, _, xl_Contradiction, fxr_Contradiction⟩, sa_Contradiction, fsb_Contradiction, fty_Contradiction, kpr_Contradiction⟩, ⟨fy1_Contradiction, fy2_Contradiction, fsb_Contradiction, fy3_Contradiction⟩, fnf_Contradiction_pair, PySem.W.mg_of X G aC16, ⟨⟨_, _, _, _, _, _, _, _, _, _, _, _, _, _, _, xl_NotPlain, fxr_NotPlain⟩, sa_NotPlain, fsb_NotPlain, fty_NotPlain, kpr_NotPlain⟩, ⟨fy1_NotPlain, fy2_NotPlain, fsb_NotPlain, fy3_NotPlain⟩, fnf_NotPlain_day, fnf_NotPlain_number, PySem.W.mg_of X G aC17, fkp_NotPossible, fex_NotPossible, PySem.W.mg_of X G aC18, ⟨⟨_, _, _, _, _, _, _, _, _, _, _, _, _, _, _, xl_Shut, fxr_Shut⟩, sa_Shut, fsb_Shut, fty_Shut, kpr_Shut⟩, ⟨fy1_Shut, fy2_Shut, fsb_Shut, fy3_Shut⟩, fnf_Shut_day, PySem.W.mg_of X G aC19, ⟨⟨_, _, _, _, _, _, _, _, _, _, _, _, _, _, _, xl_NotClosed, fxr_NotClosed⟩, sa_NotClosed, fsb_NotClosed, fty_NotClosed, kpr_NotClosed⟩, ⟨fy1_NotClosed, fy2_NotClosed, fsb_NotClosed, fy3_NotClosed⟩, fnf_NotClosed_day, PySem.W.mg_of X G aC20, fkp_NotTold, fex_NotTold, PySem.W.mg_of X G aC21, ⟨⟨_, _, _, _, _, _, _, _, _, _, _, _, _, _, _, xl_Unfit, fxr_Unfit⟩, sa_Unfit, fsb_Unfit, fty_Unfit, kpr_Unfit⟩, ⟨fy1_Unfit, fy2_Unfit, fsb_Unfit, fy3_Unfit⟩, fnf_Unfit_factors, kit_tab (ca := fun n => if n = 0 then C0 else if n = 1 then C1 else if n = 4 then C4 else if n = 5 then C5 else if n = 6 then C6 else if n = 7 then C7 else if n = 8 then C8 else if n = 9 then C9 else if n = 10 then C10 else if n = 11 then C11 else if n = 12 then C12 else if n = 13 then C13 else if n = 14 then C14 else if n = 15 then C15 else if n = 16 then C16 else if n = 17 then C17 else if n = 18 then C18 else if n = 19 then C19 else if n = 20 then C20 else if n = 21 then C21 else 0) (ns := [1, 4, 5, 6, 7, 8, 9, 10, 11, 12, 13, 14, 15, 16, 17, 18, 19, 20, 21]) fnd ⟨_, ct_CostError, fty_CostError⟩ (ct_cons (ca := fun n => if n = 0 then C0 else if n = 1 then C1 else if n = 4 then C4 else if n = 5 then C5 else if n = 6 then C6 else if n = 7 then C7 else if n = 8 then C8 else if n = 9 then C9 else if n = 10 then C10 else if n = 11 then C11 else if n = 12 then C12 else if n = 13 then C13 else if n = 14 then C14 else if n = 15 then C15 else if n = 16 then C16 else if n = 17 then C17 else if n = 18 then C18 else if n = 19 then C19 else if n = 20 then C20 else if n = 21 then C21 else 0) (n := 1) (l := [4, 5, 6, 7, 8, 9, 10, 11, 12, 13, 14, 15, 16, 17, 18, 19, 20, 21]) ⟨_, ct_NoRatio, cm_NoRatio, fty_NoRatio, ⟨fy1_NoRatio, fy2_NoRatio, fsb_NoRatio, fy3_NoRatio, fy4_NoRatio, fo5, fo6, fy7_NoRatio⟩⟩ (ct_cons (ca := fun n => if n = 0 then C0 else if n = 1 then C1 else if n = 4 then C4 else if n = 5 then C5 else if n = 6 then C6 else if n = 7 then C7 else if n = 8 then C8 else if n = 9 then C9 else if n = 10 then C10 else if n = 11 then C11 else if n = 12 then C12 else if n = 13 then C13 else if n = 14 then C14 else if n = 15 then C15 else if n = 16 then C16 else if n = 17 then C17 else if n = 18 then C18 else if n = 19 then C19 else if n = 20 then C20 else if n = 21 then C21 else 0) (n := 4) (l := [5, 6, 7, 8, 9, 10, 11, 12, 13, 14, 15, 16, 17, 18, 19, 20, 21]) ⟨_, ct_BadName, cm_BadName, fty_BadName, ⟨fy1_BadName, fy2_BadName, fsb_BadName, fy3_BadName, fy4_BadName, fo5, fo6, fy7_BadName⟩⟩ (ct_cons (ca := fun n => if n = 0 then C0 else if n = 1 then C1 else if n = 4 then C4 else if n = 5 then C5 else if n = 6 then C6 else if n = 7 then C7 else if n = 8 then C8 else if n = 9 then C9 else if n = 10 then C10 else if n = 11 then C11 else if n = 12 then C12 else if n = 13 then C13 else if n = 14 then C14 else if n = 15 then C15 else if n = 16 then C16 else if n = 17 then C17 else if n = 18 then C18 else if n = 19 then C19 else if n = 20 then C20 else if n = 21 then C21 else 0) (n := 5) (l := [6, 7, 8, 9, 10, 11, 12, 13, 14, 15, 16, 17, 18, 19, 20, 21]) ⟨_, ct_NoPrice, cm_NoPrice, fty_NoPrice, ⟨fy1_NoPrice, fy2_NoPrice, fsb_NoPrice, fy3_NoPrice, fy4_NoPrice, fo5, fo6, fy7_NoPrice⟩⟩ (ct_cons (ca := fun n => if n = 0 then C0 else if n = 1 then C1 else if n = 4 then C4 else if n = 5 then C5 else if n = 6 then C6 else if n = 7 then C7 else if n = 8 then C8 else if n = 9 then C9 else if n = 10 then C10 else if n = 11 then C11 else if n = 12 then C12 else if n = 13 then C13 else if n = 14 then C14 else if n = 15 then C15 else if n = 16 then C16 else if n = 17 then C17 else if n = 18 then C18 else if n = 19 then C19 else if n = 20 then C20 else if n = 21 then C21 else 0) (n := 6) (l := [7, 8, 9, 10, 11, 12, 13, 14, 15, 16, 17, 18, 19, 20, 21]) ⟨_, ct_Negative, cm_Negative, fty_Negative, ⟨fy1_Negative, fy2_Negative, fsb_Negative, fy3_Negative, fy4_Negative, fo5, fo6, fy7_Negative⟩⟩ (ct_cons (ca := fun n => if n = 0 then C0 else if n = 1 then C1 else if n = 4 then C4 else if n = 5 then C5 else if n = 6 then C6 else if n = 7 then C7 else if n = 8 then C8 else if n = 9 then C9 else if n = 10 then C10 else if n = 11 then C11 else if n = 12 then C12 else if n = 13 then C13 else if n = 14 then C14 else if n = 15 then C15 else if n = 16 then C16 else if n = 17 then C17 else if n = 18 then C18 else if n = 19 then C19 else if n = 20 then C20 else if n = 21 then C21 else 0) (n := 7) (l := [8, 9, 10, 11, 12, 13, 14, 15, 16, 17, 18, 19, 20, 21]) ⟨_, ct_BadEntry, cm_BadEntry, fty_BadEntry, ⟨fy1_BadEntry, fy2_BadEntry, fsb_BadEntry, fy3_BadEntry, fy4_BadEntry, fo5, fo6, fy7_BadEntry⟩⟩ (ct_cons (ca := fun n => if n = 0 then C0 else if n = 1 then C1 else if n = 4 then C4 else if n = 5 then C5 else if n = 6 then C6 else if n = 7 then C7 else if n = 8 then C8 else if n = 9 then C9 else if n = 10 then C10 else if n = 11 then C11 else if n = 12 then C12 else if n = 13 then C13 else if n = 14 then C14 else if n = 15 then C15 else if n = 16 then C16 else if n = 17 then C17 else if n = 18 then C18 else if n = 19 then C19 else if n = 20 then C20 else if n = 21 then C21 else 0) (n := 8) (l := [9, 10, 11, 12, 13, 14, 15, 16, 17, 18, 19, 20, 21]) ⟨_, ct_NoEntry, cm_NoEntry, fty_NoEntry, ⟨fy1_NoEntry, fy2_NoEntry, fsb_NoEntry, fy3_NoEntry, fy4_NoEntry, fo5, fo6, fy7_NoEntry⟩⟩ (ct_cons (ca := fun n => if n = 0 then C0 else if n = 1 then C1 else if n = 4 then C4 else if n = 5 then C5 else if n = 6 then C6 else if n = 7 then C7 else if n = 8 then C8 else if n = 9 then C9 else if n = 10 then C10 else if n = 11 then C11 else if n = 12 then C12 else if n = 13 then C13 else if n = 14 then C14 else if n = 15 then C15 else if n = 16 then C16 else if n = 17 then C17 else if n = 18 then C18 else if n = 19 then C19 else if n = 20 then C20 else if n = 21 then C21 else 0) (n := 9) (l := [10, 11, 12, 13, 14, 15, 16, 17, 18, 19, 20, 21]) ⟨_, ct_BadRule, cm_BadRule, fty_BadRule, ⟨fy1_BadRule, fy2_BadRule, fsb_BadRule, fy3_BadRule, fy4_BadRule, fo5, fo6, fy7_BadRule⟩⟩ (ct_cons (ca := fun n => if n = 0 then C0 else if n = 1 then C1 else if n = 4 then C4 else if n = 5 then C5 else if n = 6 then C6 else if n = 7 then C7 else if n = 8 then C8 else if n = 9 then C9 else if n = 10 then C10 else if n = 11 then C11 else if n = 12 then C12 else if n = 13 then C13 else if n = 14 then C14 else if n = 15 then C15 else if n = 16 then C16 else if n = 17 then C17 else if n = 18 then C18 else if n = 19 then C19 else if n = 20 then C20 else if n = 21 then C21 else 0) (n := 10) (l := [11, 12, 13, 14, 15, 16, 17, 18, 19, 20, 21]) ⟨_, ct_Short, cm_Short, fty_Short, ⟨fy1_Short, fy2_Short, fsb_Short, fy3_Short, fy4_Short, fo5, fo6, fy7_Short⟩⟩ (ct_cons (ca := fun n => if n = 0 then C0 else if n = 1 then C1 else if n = 4 then C4 else if n = 5 then C5 else if n = 6 then C6 else if n = 7 then C7 else if n = 8 then C8 else if n = 9 then C9 else if n = 10 then C10 else if n = 11 then C11 else if n = 12 then C12 else if n = 13 then C13 else if n = 14 then C14 else if n = 15 then C15 else if n = 16 then C16 else if n = 17 then C17 else if n = 18 then C18 else if n = 19 then C19 else if n = 20 then C20 else if n = 21 then C21 else 0) (n := 11) (l := [12, 13, 14, 15, 16, 17, 18, 19, 20, 21]) ⟨_, ct_NameTaken, cm_NameTaken, fty_NameTaken, ⟨fy1_NameTaken, fy2_NameTaken, fsb_NameTaken, fy3_NameTaken, fy4_NameTaken, fo5, fo6, fy7_NameTaken⟩⟩ (ct_cons (ca := fun n => if n = 0 then C0 else if n = 1 then C1 else if n = 4 then C4 else if n = 5 then C5 else if n = 6 then C6 else if n = 7 then C7 else if n = 8 then C8 else if n = 9 then C9 else if n = 10 then C10 else if n = 11 then C11 else if n = 12 then C12 else if n = 13 then C13 else if n = 14 then C14 else if n = 15 then C15 else if n = 16 then C16 else if n = 17 then C17 else if n = 18 then C18 else if n = 19 then C19 else if n = 20 then C20 else if n = 21 then C21 else 0) (n := 12) (l := [13, 14, 15, 16, 17, 18, 19, 20, 21]) ⟨_, ct_UnknownName, cm_UnknownName, fty_UnknownName, ⟨fy1_UnknownName, fy2_UnknownName, fsb_UnknownName, fy3_UnknownName, fy4_UnknownName, fo5, fo6, fy7_UnknownName⟩⟩ (ct_cons (ca := fun n => if n = 0 then C0 else if n = 1 then C1 else if n = 4 then C4 else if n = 5 then C5 else if n = 6 then C6 else if n = 7 then C7 else if n = 8 then C8 else if n = 9 then C9 else if n = 10 then C10 else if n = 11 then C11 else if n = 12 then C12 else if n = 13 then C13 else if n = 14 then C14 else if n = 15 then C15 else if n = 16 then C16 else if n = 17 then C17 else if n = 18 then C18 else if n = 19 then C19 else if n = 20 then C20 else if n = 21 then C21 else 0) (n := 13) (l := [14, 15, 16, 17, 18, 19, 20, 21]) ⟨_, ct_NotEnough, cm_NotEnough, fty_NotEnough, ⟨fy1_NotEnough, fy2_NotEnough, fsb_NotEnough, fy3_NotEnough, fy4_NotEnough, fo5, fo6, fy7_NotEnough⟩⟩ (ct_cons (ca := fun n => if n = 0 then C0 else if n = 1 then C1 else if n = 4 then C4 else if n = 5 then C5 else if n = 6 then C6 else if n = 7 then C7 else if n = 8 then C8 else if n = 9 then C9 else if n = 10 then C10 else if n = 11 then C11 else if n = 12 then C12 else if n = 13 then C13 else if n = 14 then C14 else if n = 15 then C15 else if n = 16 then C16 else if n = 17 then C17 else if n = 18 then C18 else if n = 19 then C19 else if n = 20 then C20 else if n = 21 then C21 else 0) (n := 14) (l := [15, 16, 17, 18, 19, 20, 21]) ⟨_, ct_TooMany, cm_TooMany, fty_TooMany, ⟨fy1_TooMany, fy2_TooMany, fsb_TooMany, fy3_TooMany, fy4_TooMany, fo5, fo6, fy7_TooMany⟩⟩ (ct_cons (ca := fun n => if n = 0 then C0 else if n = 1 then C1 else if n = 4 then C4 else if n = 5 then C5 else if n = 6 then C6 else if n = 7 then C7 else if n = 8 then C8 else if n = 9 then C9 else if n = 10 then C10 else if n = 11 then C11 else if n = 12 then C12 else if n = 13 then C13 else if n = 14 then C14 else if n = 15 then C15 else if n = 16 then C16 else if n = 17 then C17 else if n = 18 then C18 else if n = 19 then C19 else if n = 20 then C20 else if n = 21 then C21 else 0) (n := 15) (l := [16, 17, 18, 19, 20, 21]) ⟨_, ct_Contradiction, cm_Contradiction, fty_Contradiction, ⟨fy1_Contradiction, fy2_Contradiction, fsb_Contradiction, fy3_Contradiction, fy4_Contradiction, fo5, fo6, fy7_Contradiction⟩⟩ (ct_cons (ca := fun n => if n = 0 then C0 else if n = 1 then C1 else if n = 4 then C4 else if n = 5 then C5 else if n = 6 then C6 else if n = 7 then C7 else if n = 8 then C8 else if n = 9 then C9 else if n = 10 then C10 else if n = 11 then C11 else if n = 12 then C12 else if n = 13 then C13 else if n = 14 then C14 else if n = 15 then C15 else if n = 16 then C16 else if n = 17 then C17 else if n = 18 then C18 else if n = 19 then C19 else if n = 20 then C20 else if n = 21 then C21 else 0) (n := 16) (l := [17, 18, 19, 20, 21]) ⟨_, ct_NotPlain, cm_NotPlain, fty_NotPlain, ⟨fy1_NotPlain, fy2_NotPlain, fsb_NotPlain, fy3_NotPlain, fy4_NotPlain, fo5, fo6, fy7_NotPlain⟩⟩ (ct_cons (ca := fun n => if n = 0 then C0 else if n = 1 then C1 else if n = 4 then C4 else if n = 5 then C5 else if n = 6 then C6 else if n = 7 then C7 else if n = 8 then C8 else if n = 9 then C9 else if n = 10 then C10 else if n = 11 then C11 else if n = 12 then C12 else if n = 13 then C13 else if n = 14 then C14 else if n = 15 then C15 else if n = 16 then C16 else if n = 17 then C17 else if n = 18 then C18 else if n = 19 then C19 else if n = 20 then C20 else if n = 21 then C21 else 0) (n := 17) (l := [18, 19, 20, 21]) ⟨_, ct_NotPossible, cm_NotPossible, fty_NotPossible, ⟨fy1_NotPossible, fy2_NotPossible, fsb_NotPossible, fy3_NotPossible, fy4_NotPossible, fo5, fo6, fy7_NotPossible⟩⟩ (ct_cons (ca := fun n => if n = 0 then C0 else if n = 1 then C1 else if n = 4 then C4 else if n = 5 then C5 else if n = 6 then C6 else if n = 7 then C7 else if n = 8 then C8 else if n = 9 then C9 else if n = 10 then C10 else if n = 11 then C11 else if n = 12 then C12 else if n = 13 then C13 else if n = 14 then C14 else if n = 15 then C15 else if n = 16 then C16 else if n = 17 then C17 else if n = 18 then C18 else if n = 19 then C19 else if n = 20 then C20 else if n = 21 then C21 else 0) (n := 18) (l := [19, 20, 21]) ⟨_, ct_Shut, cm_Shut, fty_Shut, ⟨fy1_Shut, fy2_Shut, fsb_Shut, fy3_Shut, fy4_Shut, fo5, fo6, fy7_Shut⟩⟩ (ct_cons (ca := fun n => if n = 0 then C0 else if n = 1 then C1 else if n = 4 then C4 else if n = 5 then C5 else if n = 6 then C6 else if n = 7 then C7 else if n = 8 then C8 else if n = 9 then C9 else if n = 10 then C10 else if n = 11 then C11 else if n = 12 then C12 else if n = 13 then C13 else if n = 14 then C14 else if n = 15 then C15 else if n = 16 then C16 else if n = 17 then C17 else if n = 18 then C18 else if n = 19 then C19 else if n = 20 then C20 else if n = 21 then C21 else 0) (n := 19) (l := [20, 21]) ⟨_, ct_NotClosed, cm_NotClosed, fty_NotClosed, ⟨fy1_NotClosed, fy2_NotClosed, fsb_NotClosed, fy3_NotClosed, fy4_NotClosed, fo5, fo6, fy7_NotClosed⟩⟩ (ct_cons (ca := fun n => if n = 0 then C0 else if n = 1 then C1 else if n = 4 then C4 else if n = 5 then C5 else if n = 6 then C6 else if n = 7 then C7 else if n = 8 then C8 else if n = 9 then C9 else if n = 10 then C10 else if n = 11 then C11 else if n = 12 then C12 else if n = 13 then C13 else if n = 14 then C14 else if n = 15 then C15 else if n = 16 then C16 else if n = 17 then C17 else if n = 18 then C18 else if n = 19 then C19 else if n = 20 then C20 else if n = 21 then C21 else 0) (n := 20) (l := [21]) ⟨_, ct_NotTold, cm_NotTold, fty_NotTold, ⟨fy1_NotTold, fy2_NotTold, fsb_NotTold, fy3_NotTold, fy4_NotTold, fo5, fo6, fy7_NotTold⟩⟩ (ct_cons (ca := fun n => if n = 0 then C0 else if n = 1 then C1 else if n = 4 then C4 else if n = 5 then C5 else if n = 6 then C6 else if n = 7 then C7 else if n = 8 then C8 else if n = 9 then C9 else if n = 10 then C10 else if n = 11 then C11 else if n = 12 then C12 else if n = 13 then C13 else if n = 14 then C14 else if n = 15 then C15 else if n = 16 then C16 else if n = 17 then C17 else if n = 18 then C18 else if n = 19 then C19 else if n = 20 then C20 else if n = 21 then C21 else 0) (n := 21) (l := []) ⟨_, ct_Unfit, cm_Unfit, fty_Unfit, ⟨fy1_Unfit, fy2_Unfit, fsb_Unfit, fy3_Unfit, fy4_Unfit, fo5, fo6, fy7_Unfit⟩⟩ ct_nil)))))))))))))))))))⟩
  have F0 := fun_mk (st := s_l_bag) l0 c0 k0
  have b0 := F0.binds (ps := ["_law_script"]) fun _ _ _ _ _ _ us hl => match us, hl with | [_], _ => rfl
  have F1 := fun_mk (st := s_l_draw) l1 c1 k1
  have b1 := F1.binds (ps := ["_law_bag_here", "_law_size"]) fun _ _ _ _ _ _ us hl => match us, hl with | [_, _], _ => rfl
  have F2 := fun_mk (st := s_l_names) l2 c2 k2
  have b2 := F2.binds (ps := ["_law_bag_here", "_law_count", "_law_words"]) fun _ _ _ _ _ _ us hl => match us, hl with | [_, _, _], _ => rfl
  have F3 := fun_mk (st := s_NoPrice_init) l3 c3 k3
  have b3 := F3.binds (ps := ["self", "name"]) fun _ _ _ _ _ _ us hl => match us, hl with | [_, _], _ => rfl
  have F4 := fun_mk (st := s_Negative_init) l4 c4 k4
  have b4 := F4.binds (ps := ["self", "name"]) fun _ _ _ _ _ _ us hl => match us, hl with | [_, _], _ => rfl
  have F5 := fun_mk (st := s_BadName_init) l5 c5 k5
  have b5 := F5.binds (ps := ["self", "name"]) fun _ _ _ _ _ _ us hl => match us, hl with | [_, _], _ => rfl
  have F6 := fun_mk (st := s_NameTaken_init) l6 c6 k6
  have b6 := F6.binds (ps := ["self", "name"]) fun _ _ _ _ _ _ us hl => match us, hl with | [_, _], _ => rfl
  have F7 := fun_mk (st := s_UnknownName_init) l7 c7 k7
  have b7 := F7.binds (ps := ["self", "name"]) fun _ _ _ _ _ _ us hl => match us, hl with | [_, _], _ => rfl
  have F8 := fun_mk (st := s_l_named) l8 c8 k8
  have b8 := F8.binds (ps := ["_law_name"]) fun _ _ _ _ _ _ us hl => match us, hl with | [_], _ => rfl
  have F9 := fun_mk (st := s_BadEntry_init) l9 c9 k9
  have b9 := F9.binds (ps := ["self", "day", "number"]) fun _ _ _ _ _ _ us hl => match us, hl with | [_, _, _], _ => rfl
  have F10 := fun_mk (st := s_NoEntry_init) l10 c10 k10
  have b10 := F10.binds (ps := ["self", "day", "number"]) fun _ _ _ _ _ _ us hl => match us, hl with | [_, _, _], _ => rfl
  have F11 := fun_mk (st := s_NotPlain_init) l11 c11 k11
  have b11 := F11.binds (ps := ["self", "day", "number"]) fun _ _ _ _ _ _ us hl => match us, hl with | [_, _, _], _ => rfl
  have F12 := fun_mk (st := s_l_placed) l12 c12 k12
  have b12 := F12.binds (ps := ["_law_day", "_law_number"]) fun _ _ _ _ _ _ us hl => match us, hl with | [_, _], _ => rfl
  have F13 := fun_mk (st := s_NotEnough_init) l13 c13 k13
  have b13 := F13.binds (ps := ["self", "day", "number", "missing"]) fun _ _ _ _ _ _ us hl => match us, hl with | [_, _, _, _], _ => rfl
  have F14 := fun_mk (st := s_TooMany_init) l14 c14 k14
  have b14 := F14.binds (ps := ["self", "day", "number", "left"]) fun _ _ _ _ _ _ us hl => match us, hl with | [_, _, _, _], _ => rfl
  have F15 := fun_mk (st := s_Contradiction_init) l15 c15 k15
  have b15 := F15.binds (ps := ["self", "pair"]) fun _ _ _ _ _ _ us hl => match us, hl with | [_, _], _ => rfl
  have F16 := fun_mk (st := s_BadRule_init) l16 c16 k16
  have b16 := F16.binds (ps := ["self", "word"]) fun _ _ _ _ _ _ us hl => match us, hl with | [_, _], _ => rfl
  have F17 := fun_mk (st := s_Short_init) l17 c17 k17
  have b17 := F17.binds (ps := ["self", "missing"]) fun _ _ _ _ _ _ us hl => match us, hl with | [_, _], _ => rfl
  have F18 := fun_mk (st := s_Shut_init) l18 c18 k18
  have b18 := F18.binds (ps := ["self", "day"]) fun _ _ _ _ _ _ us hl => match us, hl with | [_, _], _ => rfl
  have F19 := fun_mk (st := s_NotClosed_init) l19 c19 k19
  have b19 := F19.binds (ps := ["self", "day"]) fun _ _ _ _ _ _ us hl => match us, hl with | [_, _], _ => rfl
  have F20 := fun_mk (st := s_Unfit_init) l20 c20 k20
  have b20 := F20.binds (ps := ["self", "factors"]) fun _ _ _ _ _ _ us hl => match us, hl with | [_, _], _ => rfl
  have F21 := fun_mk (st := s_l_others) l21 c21 k21
  have b21 := F21.binds (ps := ["_law_day", "_law_number", "_law_units", "_law_name"]) fun _ _ _ _ _ _ us hl => match us, hl with | [_, _, _, _], _ => rfl
  have F22 := fun_mk (st := s_l_classes) l22 c22 k22
  have b22 := F22.binds (ps := ["_law_error"]) fun _ _ _ _ _ _ us hl => match us, hl with | [_], _ => rfl
  have F23 := fun_mk (st := s_law) l23 c23 k23
  have b23 := F23.binds (ps := ["_law_script"]) fun _ _ _ _ _ _ us hl => match us, hl with | [_], _ => rfl
  refine ⟨PySem.W.fnOf "law" "law" (defArgs s_law) (defBody s_law) (defScope s_law) .none kV23 dc23 pm23 an23 cd23 ct23, fun s v => .of_eq rfl, fun base _ _ => ?_⟩
  have O0 : Own l.prog w K mg base 1 "_law_bag" ["_law_script"] (sp_l_bag K (fun n => if n = 0 then C0 else if n = 1 then C1 else if n = 4 then C4 else if n = 5 then C5 else if n = 6 then C6 else if n = 7 then C7 else if n = 8 then C8 else if n = 9 then C9 else if n = 10 then C10 else if n = 11 then C11 else if n = 12 then C12 else if n = 13 then C13 else if n = 14 then C14 else if n = 15 then C15 else if n = 16 then C16 else if n = 17 then C17 else if n = 18 then C18 else if n = 19 then C19 else if n = 20 then C20 else if n = 21 then C21 else 0)) := ⟨⟨f0, _, ok_l_bag F0 T , PySem.W.mg_of X G a0, k0, b0⟩⟩
  have O1 : Own l.prog w K mg base 1 "_law_draw" ["_law_bag_here", "_law_size"] (sp_l_draw K (fun n => if n = 0 then C0 else if n = 1 then C1 else if n = 4 then C4 else if n = 5 then C5 else if n = 6 then C6 else if n = 7 then C7 else if n = 8 then C8 else if n = 9 then C9 else if n = 10 then C10 else if n = 11 then C11 else if n = 12 then C12 else if n = 13 then C13 else if n = 14 then C14 else if n = 15 then C15 else if n = 16 then C16 else if n = 17 then C17 else if n = 18 then C18 else if n = 19 then C19 else if n = 20 then C20 else if n = 21 then C21 else 0)) := ⟨⟨f1, _, ok_l_draw F1 T , PySem.W.mg_of X G a1, k1, b1⟩⟩
  have O2 : Own l.prog w K mg base 2 "_law_names" ["_law_bag_here", "_law_count", "_law_words"] (sp_l_names K (fun n => if n = 0 then C0 else if n = 1 then C1 else if n = 4 then C4 else if n = 5 then C5 else if n = 6 then C6 else if n = 7 then C7 else if n = 8 then C8 else if n = 9 then C9 else if n = 10 then C10 else if n = 11 then C11 else if n = 12 then C12 else if n = 13 then C13 else if n = 14 then C14 else if n = 15 then C15 else if n = 16 then C16 else if n = 17 then C17 else if n = 18 then C18 else if n = 19 then C19 else if n = 20 then C20 else if n = 21 then C21 else 0)) := ⟨⟨f2, _, ok_l_names F2 T O1, PySem.W.mg_of X G a2, k2, b2⟩⟩
  have O3 : OwnE l.prog w K mg base "NoPrice" C5 ["name"] := ⟨T.ox_NoPrice, ⟨f3, _, _, ok_NoPrice_init F3 T , a3, ti3, PySem.W.mg_of X G aC5, b3⟩⟩
  have O4 : OwnE l.prog w K mg base "Negative" C6 ["name"] := ⟨T.ox_Negative, ⟨f4, _, _, ok_Negative_init F4 T , a4, ti4, PySem.W.mg_of X G aC6, b4⟩⟩
  have O5 : OwnE l.prog w K mg base "BadName" C4 ["name"] := ⟨T.ox_BadName, ⟨f5, _, _, ok_BadName_init F5 T , a5, ti5, PySem.W.mg_of X G aC4, b5⟩⟩
  have O6 : OwnE l.prog w K mg base "NameTaken" C11 ["name"] := ⟨T.ox_NameTaken, ⟨f6, _, _, ok_NameTaken_init F6 T , a6, ti6, PySem.W.mg_of X G aC11, b6⟩⟩
  have O7 : OwnE l.prog w K mg base "UnknownName" C12 ["name"] := ⟨T.ox_UnknownName, ⟨f7, _, _, ok_UnknownName_init F7 T , a7, ti7, PySem.W.mg_of X G aC12, b7⟩⟩
  have O8 : Own l.prog w K mg base 3 "_law_named" ["_law_name"] (sp_l_named K (fun n => if n = 0 then C0 else if n = 1 then C1 else if n = 4 then C4 else if n = 5 then C5 else if n = 6 then C6 else if n = 7 then C7 else if n = 8 then C8 else if n = 9 then C9 else if n = 10 then C10 else if n = 11 then C11 else if n = 12 then C12 else if n = 13 then C13 else if n = 14 then C14 else if n = 15 then C15 else if n = 16 then C16 else if n = 17 then C17 else if n = 18 then C18 else if n = 19 then C19 else if n = 20 then C20 else if n = 21 then C21 else 0)) := ⟨⟨f8, _, ok_l_named F8 T O3 O4 O5 O6 O7, PySem.W.mg_of X G a8, k8, b8⟩⟩
  have O9 : OwnE l.prog w K mg base "BadEntry" C7 ["day", "number"] := ⟨T.ox_BadEntry, ⟨f9, _, _, ok_BadEntry_init F9 T , a9, ti9, PySem.W.mg_of X G aC7, b9⟩⟩
  have O10 : OwnE l.prog w K mg base "NoEntry" C8 ["day", "number"] := ⟨T.ox_NoEntry, ⟨f10, _, _, ok_NoEntry_init F10 T , a10, ti10, PySem.W.mg_of X G aC8, b10⟩⟩
  have O11 : OwnE l.prog w K mg base "NotPlain" C16 ["day", "number"] := ⟨T.ox_NotPlain, ⟨f11, _, _, ok_NotPlain_init F11 T , a11, ti11, PySem.W.mg_of X G aC16, b11⟩⟩
  have O12 : Own l.prog w K mg base 3 "_law_placed" ["_law_day", "_law_number"] (sp_l_placed K (fun n => if n = 0 then C0 else if n = 1 then C1 else if n = 4 then C4 else if n = 5 then C5 else if n = 6 then C6 else if n = 7 then C7 else if n = 8 then C8 else if n = 9 then C9 else if n = 10 then C10 else if n = 11 then C11 else if n = 12 then C12 else if n = 13 then C13 else if n = 14 then C14 else if n = 15 then C15 else if n = 16 then C16 else if n = 17 then C17 else if n = 18 then C18 else if n = 19 then C19 else if n = 20 then C20 else if n = 21 then C21 else 0)) := ⟨⟨f12, _, ok_l_placed F12 T O9 O10 O11, PySem.W.mg_of X G a12, k12, b12⟩⟩
  have O13 : OwnE l.prog w K mg base "NotEnough" C13 ["day", "number", "missing"] := ⟨T.ox_NotEnough, ⟨f13, _, _, ok_NotEnough_init F13 T , a13, ti13, PySem.W.mg_of X G aC13, b13⟩⟩
  have O14 : OwnE l.prog w K mg base "TooMany" C14 ["day", "number", "left"] := ⟨T.ox_TooMany, ⟨f14, _, _, ok_TooMany_init F14 T , a14, ti14, PySem.W.mg_of X G aC14, b14⟩⟩
  have O15 : OwnE l.prog w K mg base "Contradiction" C15 ["pair"] := ⟨T.ox_Contradiction, ⟨f15, _, _, ok_Contradiction_init F15 T , a15, ti15, PySem.W.mg_of X G aC15, b15⟩⟩
  have O16 : OwnE l.prog w K mg base "BadRule" C9 ["word"] := ⟨T.ox_BadRule, ⟨f16, _, _, ok_BadRule_init F16 T , a16, ti16, PySem.W.mg_of X G aC9, b16⟩⟩
  have O17 : OwnE l.prog w K mg base "Short" C10 ["missing"] := ⟨T.ox_Short, ⟨f17, _, _, ok_Short_init F17 T , a17, ti17, PySem.W.mg_of X G aC10, b17⟩⟩
  have O18 : OwnE l.prog w K mg base "Shut" C18 ["day"] := ⟨T.ox_Shut, ⟨f18, _, _, ok_Shut_init F18 T , a18, ti18, PySem.W.mg_of X G aC18, b18⟩⟩
  have O19 : OwnE l.prog w K mg base "NotClosed" C19 ["day"] := ⟨T.ox_NotClosed, ⟨f19, _, _, ok_NotClosed_init F19 T , a19, ti19, PySem.W.mg_of X G aC19, b19⟩⟩
  have O20 : OwnE l.prog w K mg base "Unfit" C21 ["factors"] := ⟨T.ox_Unfit, ⟨f20, _, _, ok_Unfit_init F20 T , a20, ti20, PySem.W.mg_of X G aC21, b20⟩⟩
  have O21 : Own l.prog w K mg base 3 "_law_others" ["_law_day", "_law_number", "_law_units", "_law_name"] (sp_l_others K (fun n => if n = 0 then C0 else if n = 1 then C1 else if n = 4 then C4 else if n = 5 then C5 else if n = 6 then C6 else if n = 7 then C7 else if n = 8 then C8 else if n = 9 then C9 else if n = 10 then C10 else if n = 11 then C11 else if n = 12 then C12 else if n = 13 then C13 else if n = 14 then C14 else if n = 15 then C15 else if n = 16 then C16 else if n = 17 then C17 else if n = 18 then C18 else if n = 19 then C19 else if n = 20 then C20 else if n = 21 then C21 else 0)) := ⟨⟨f21, _, ok_l_others F21 T O13 O14 O15 O16 O17 O18 O19 O20, PySem.W.mg_of X G a21, k21, b21⟩⟩
  have O22 : Own l.prog w K mg base 1 "_law_classes" ["_law_error"] (sp_l_classes K (fun n => if n = 0 then C0 else if n = 1 then C1 else if n = 4 then C4 else if n = 5 then C5 else if n = 6 then C6 else if n = 7 then C7 else if n = 8 then C8 else if n = 9 then C9 else if n = 10 then C10 else if n = 11 then C11 else if n = 12 then C12 else if n = 13 then C13 else if n = 14 then C14 else if n = 15 then C15 else if n = 16 then C16 else if n = 17 then C17 else if n = 18 then C18 else if n = 19 then C19 else if n = 20 then C20 else if n = 21 then C21 else 0)) := ⟨⟨f22, _, ok_l_classes F22 T , PySem.W.mg_of X G a22, k22, b22⟩⟩
  have z : FnOk l.prog w K mg base (L2.CX l.prog w) 4 _ _ ["_law_script"] (sp_law K (fun n => if n = 0 then C0 else if n = 1 then C1 else if n = 4 then C4 else if n = 5 then C5 else if n = 6 then C6 else if n = 7 then C7 else if n = 8 then C8 else if n = 9 then C9 else if n = 10 then C10 else if n = 11 then C11 else if n = 12 then C12 else if n = 13 then C13 else if n = 14 then C14 else if n = 15 then C15 else if n = 16 then C16 else if n = 17 then C17 else if n = 18 then C18 else if n = 19 then C19 else if n = 20 then C20 else if n = 21 then C21 else 0)) := ok_law F23 T O0 O1 O2 O8 O12 O21 O22
  exact z
end Lo
open PySem PySem.W PyProof.Rows in
set_option maxRecDepth 100000 in
set_option maxHeartbeats 0 in
theorem PySem.Challenge.cw_lotcosts_k14_classes_of_errors_holds : PySem.Challenge.rw_lotcosts_k14_classes_of_errors.Holds := by
  w_on; o_law; k_head; (case hw => w_witness2)
  k_fill
  refine Lo.walk (l := PySem.Challenge.rw_lotcosts_k14_classes_of_errors) 4 ⟨rfl, by decide, by decide⟩ rfl rfl (fun w h Y => PySem.W.kIn_of Y) ?F
  case F =>
    intro w mg fa h KX G hmg
    refine' Lo.all_mk KX G hmg ?aC0 ?aC1 ?aC4 ?aC5 ?aC6 ?aC7 ?aC8 ?aC9 ?aC10 ?aC11 ?aC12 ?aC13 ?aC14 ?aC15 ?aC16 ?aC17 ?aC18 ?aC19 ?aC20 ?aC21 ?z_ValueError ?z_abs ?z_int ?z_isinstance ?z_len ?z_list ?z_range ?z_sum ?fkp_NoRatio ?fex_NoRatio ?xl_BadName ?fxr_BadName ?sa_BadName ?kpr_BadName ?fsb_BadName ?fty_BadName ?fy1_BadName ?fy2_BadName ?fy3_BadName ?fnf_BadName_name ?xl_NoPrice ?fxr_NoPrice ?sa_NoPrice ?kpr_NoPrice ?fsb_NoPrice ?fty_NoPrice ?fy1_NoPrice ?fy2_NoPrice ?fy3_NoPrice ?fnf_NoPrice_name ?xl_Negative ?fxr_Negative ?sa_Negative ?kpr_Negative ?fsb_Negative ?fty_Negative ?fy1_Negative ?fy2_Negative ?fy3_Negative ?fnf_Negative_name ?xl_BadEntry ?fxr_BadEntry ?sa_BadEntry ?kpr_BadEntry ?fsb_BadEntry ?fty_BadEntry ?fy1_BadEntry ?fy2_BadEntry ?fy3_BadEntry ?fnf_BadEntry_day ?fnf_BadEntry_number ?xl_NoEntry ?fxr_NoEntry ?sa_NoEntry ?kpr_NoEntry ?fsb_NoEntry ?fty_NoEntry ?fy1_NoEntry ?fy2_NoEntry ?fy3_NoEntry ?fnf_NoEntry_day ?fnf_NoEntry_number ?xl_BadRule ?fxr_BadRule ?sa_BadRule ?kpr_BadRule ?fsb_BadRule ?fty_BadRule ?fy1_BadRule ?fy2_BadRule ?fy3_BadRule ?fnf_BadRule_word ?xl_Short ?fxr_Short ?sa_Short ?kpr_Short ?fsb_Short ?fty_Short ?fy1_Short ?fy2_Short ?fy3_Short ?fnf_Short_missing ?xl_NameTaken ?fxr_NameTaken ?sa_NameTaken ?kpr_NameTaken ?fsb_NameTaken ?fty_NameTaken ?fy1_NameTaken ?fy2_NameTaken ?fy3_NameTaken ?fnf_NameTaken_name ?xl_UnknownName ?fxr_UnknownName ?sa_UnknownName ?kpr_UnknownName ?fsb_UnknownName ?fty_UnknownName ?fy1_UnknownName ?fy2_UnknownName ?fy3_UnknownName ?fnf_UnknownName_name ?xl_NotEnough ?fxr_NotEnough ?sa_NotEnough ?kpr_NotEnough ?fsb_NotEnough ?fty_NotEnough ?fy1_NotEnough ?fy2_NotEnough ?fy3_NotEnough ?fnf_NotEnough_day ?fnf_NotEnough_number ?fnf_NotEnough_missing ?xl_TooMany ?fxr_TooMany ?sa_TooMany ?kpr_TooMany ?fsb_TooMany ?fty_TooMany ?fy1_TooMany ?fy2_TooMany ?fy3_TooMany ?fnf_TooMany_day ?fnf_TooMany_number ?fnf_TooMany_left ?xl_Contradiction ?fxr_Contradiction ?sa_Contradiction ?kpr_Contradiction ?fsb_Contradiction ?fty_Contradiction ?fy1_Contradiction ?fy2_Contradiction ?fy3_Contradiction ?fnf_Contradiction_pair ?xl_NotPlain ?fxr_NotPlain ?sa_NotPlain ?kpr_NotPlain ?fsb_NotPlain ?fty_NotPlain ?fy1_NotPlain ?fy2_NotPlain ?fy3_NotPlain ?fnf_NotPlain_day ?fnf_NotPlain_number ?fkp_NotPossible ?fex_NotPossible ?xl_Shut ?fxr_Shut ?sa_Shut ?kpr_Shut ?fsb_Shut ?fty_Shut ?fy1_Shut ?fy2_Shut ?fy3_Shut ?fnf_Shut_day ?xl_NotClosed ?fxr_NotClosed ?sa_NotClosed ?kpr_NotClosed ?fsb_NotClosed ?fty_NotClosed ?fy1_NotClosed ?fy2_NotClosed ?fy3_NotClosed ?fnf_NotClosed_day ?fkp_NotTold ?fex_NotTold ?xl_Unfit ?fxr_Unfit ?sa_Unfit ?kpr_Unfit ?fsb_Unfit ?fty_Unfit ?fy1_Unfit ?fy2_Unfit ?fy3_Unfit ?fnf_Unfit_factors ?ct_Unfit ?cm_Unfit ?fy4_Unfit ?fo5 ?fo6 ?fy7_Unfit ?ct_NotTold ?cm_NotTold ?fty_NotTold ?fy1_NotTold ?fy2_NotTold ?fsb_NotTold ?fy3_NotTold ?fy4_NotTold ?fy7_NotTold ?ct_NotClosed ?cm_NotClosed ?fy4_NotClosed ?fy7_NotClosed ?ct_Shut ?cm_Shut ?fy4_Shut ?fy7_Shut ?ct_NotPossible ?cm_NotPossible ?fty_NotPossible ?fy1_NotPossible ?fy2_NotPossible ?fsb_NotPossible ?fy3_NotPossible ?fy4_NotPossible ?fy7_NotPossible ?ct_NotPlain ?cm_NotPlain ?fy4_NotPlain ?fy7_NotPlain ?ct_Contradiction ?cm_Contradiction ?fy4_Contradiction ?fy7_Contradiction ?ct_TooMany ?cm_TooMany ?fy4_TooMany ?fy7_TooMany ?ct_NotEnough ?cm_NotEnough ?fy4_NotEnough ?fy7_NotEnough ?ct_UnknownName ?cm_UnknownName ?fy4_UnknownName ?fy7_UnknownName ?ct_NameTaken ?cm_NameTaken ?fy4_NameTaken ?fy7_NameTaken ?ct_Short ?cm_Short ?fy4_Short ?fy7_Short ?ct_BadRule ?cm_BadRule ?fy4_BadRule ?fy7_BadRule ?ct_NoEntry ?cm_NoEntry ?fy4_NoEntry ?fy7_NoEntry ?ct_BadEntry ?cm_BadEntry ?fy4_BadEntry ?fy7_BadEntry ?ct_Negative ?cm_Negative ?fy4_Negative ?fy7_Negative ?ct_NoPrice ?cm_NoPrice ?fy4_NoPrice ?fy7_NoPrice ?ct_BadName ?cm_BadName ?fy4_BadName ?fy7_BadName ?ct_NoRatio ?cm_NoRatio ?fty_NoRatio ?fy1_NoRatio ?fy2_NoRatio ?fsb_NoRatio ?fy3_NoRatio ?fy4_NoRatio ?fy7_NoRatio ?fnd ?ct_CostError ?fty_CostError ?a0 ?l0 ?c0 ?k0 ?a1 ?l1 ?c1 ?k1 ?a2 ?l2 ?c2 ?k2 ?a3 ?i3 ?ti3 ?l3 ?c3 ?k3 ?a4 ?i4 ?ti4 ?l4 ?c4 ?k4 ?a5 ?i5 ?ti5 ?l5 ?c5 ?k5 ?a6 ?i6 ?ti6 ?l6 ?c6 ?k6 ?a7 ?i7 ?ti7 ?l7 ?c7 ?k7 ?a8 ?l8 ?c8 ?k8 ?a9 ?i9 ?ti9 ?l9 ?c9 ?k9 ?a10 ?i10 ?ti10 ?l10 ?c10 ?k10 ?a11 ?i11 ?ti11 ?l11 ?c11 ?k11 ?a12 ?l12 ?c12 ?k12 ?a13 ?i13 ?ti13 ?l13 ?c13 ?k13 ?a14 ?i14 ?ti14 ?l14 ?c14 ?k14 ?a15 ?i15 ?ti15 ?l15 ?c15 ?k15 ?a16 ?i16 ?ti16 ?l16 ?c16 ?k16 ?a17 ?i17 ?ti17 ?l17 ?c17 ?k17 ?a18 ?i18 ?ti18 ?l18 ?c18 ?k18 ?a19 ?i19 ?ti19 ?l19 ?c19 ?k19 ?a20 ?i20 ?ti20 ?l20 ?c20 ?k20 ?a21 ?l21 ?c21 ?k21 ?a22 ?l22 ?c22 ?k22 ?a23 ?l23 ?c23 ?k23
    (case aC0 => k_is)
    (case aC1 => k_is)
    (case aC4 => k_is)
    (case aC5 => k_is)
    (case aC6 => k_is)
    (case aC7 => k_is)
    (case aC8 => k_is)
    (case aC9 => k_is)
    (case aC10 => k_is)
    (case aC11 => k_is)
    (case aC12 => k_is)
    (case aC13 => k_is)
    (case aC14 => k_is)
    (case aC15 => k_is)
    (case aC16 => k_is)
    (case aC17 => k_is)
    (case aC18 => k_is)
    (case aC19 => k_is)
    (case aC20 => k_is)
    (case aC21 => k_is)
    (case z_ValueError => k_is)
    (case z_abs => k_is)
    (case z_int => k_is)
    (case z_isinstance => k_is)
    (case z_len => k_is)
    (case z_list => k_is)
    (case z_range => k_is)
    (case z_sum => k_is)
    (case fkp_NoRatio => k_is)
    (case fex_NoRatio => k_exc)
    (case xl_BadName => k_is)
    (case fxr_BadName => rfl)
    (case sa_BadName => k_is)
    (case kpr_BadName => k_is)
    (case fsb_BadName => k_is)
    (case fty_BadName => k_is)
    (case fy1_BadName => k_is)
    (case fy2_BadName => k_is)
    (case fy3_BadName => k_is)
    (case fnf_BadName_name => k_is)
    (case xl_NoPrice => k_is)
    (case fxr_NoPrice => rfl)
    (case sa_NoPrice => k_is)
    (case kpr_NoPrice => k_is)
    (case fsb_NoPrice => k_is)
    (case fty_NoPrice => k_is)
    (case fy1_NoPrice => k_is)
    (case fy2_NoPrice => k_is)
    (case fy3_NoPrice => k_is)
    (case fnf_NoPrice_name => k_is)
    (case xl_Negative => k_is)
    (case fxr_Negative => rfl)
    (case sa_Negative => k_is)
    (case kpr_Negative => k_is)
    (case fsb_Negative => k_is)
    (case fty_Negative => k_is)
    (case fy1_Negative => k_is)
    (case fy2_Negative => k_is)
    (case fy3_Negative => k_is)
    (case fnf_Negative_name => k_is)
    (case xl_BadEntry => k_is)
    (case fxr_BadEntry => rfl)
    (case sa_BadEntry => k_is)
    (case kpr_BadEntry => k_is)
    (case fsb_BadEntry => k_is)
    (case fty_BadEntry => k_is)
    (case fy1_BadEntry => k_is)
    (case fy2_BadEntry => k_is)
    (case fy3_BadEntry => k_is)
    (case fnf_BadEntry_day => k_is)
    (case fnf_BadEntry_number => k_is)
    (case xl_NoEntry => k_is)
    (case fxr_NoEntry => rfl)
    (case sa_NoEntry => k_is)
    (case kpr_NoEntry => k_is)
    (case fsb_NoEntry => k_is)
    (case fty_NoEntry => k_is)
    (case fy1_NoEntry => k_is)
    (case fy2_NoEntry => k_is)
    (case fy3_NoEntry => k_is)
    (case fnf_NoEntry_day => k_is)
    (case fnf_NoEntry_number => k_is)
    (case xl_BadRule => k_is)
    (case fxr_BadRule => rfl)
    (case sa_BadRule => k_is)
    (case kpr_BadRule => k_is)
    (case fsb_BadRule => k_is)
    (case fty_BadRule => k_is)
    (case fy1_BadRule => k_is)
    (case fy2_BadRule => k_is)
    (case fy3_BadRule => k_is)
    (case fnf_BadRule_word => k_is)
    (case xl_Short => k_is)
    (case fxr_Short => rfl)
    (case sa_Short => k_is)
    (case kpr_Short => k_is)
    (case fsb_Short => k_is)
    (case fty_Short => k_is)
    (case fy1_Short => k_is)
    (case fy2_Short => k_is)
    (case fy3_Short => k_is)
    (case fnf_Short_missing => k_is)
    (case xl_NameTaken => k_is)
    (case fxr_NameTaken => rfl)
    (case sa_NameTaken => k_is)
    (case kpr_NameTaken => k_is)
    (case fsb_NameTaken => k_is)
    (case fty_NameTaken => k_is)
    (case fy1_NameTaken => k_is)
    (case fy2_NameTaken => k_is)
    (case fy3_NameTaken => k_is)
    (case fnf_NameTaken_name => k_is)
    (case xl_UnknownName => k_is)
    (case fxr_UnknownName => rfl)
    (case sa_UnknownName => k_is)
    (case kpr_UnknownName => k_is)
    (case fsb_UnknownName => k_is)
    (case fty_UnknownName => k_is)
    (case fy1_UnknownName => k_is)
    (case fy2_UnknownName => k_is)
    (case fy3_UnknownName => k_is)
    (case fnf_UnknownName_name => k_is)
    (case xl_NotEnough => k_is)
    (case fxr_NotEnough => rfl)
    (case sa_NotEnough => k_is)
    (case kpr_NotEnough => k_is)
    (case fsb_NotEnough => k_is)
    (case fty_NotEnough => k_is)
    (case fy1_NotEnough => k_is)
    (case fy2_NotEnough => k_is)
    (case fy3_NotEnough => k_is)
    (case fnf_NotEnough_day => k_is)
    (case fnf_NotEnough_number => k_is)
    (case fnf_NotEnough_missing => k_is)
    (case xl_TooMany => k_is)
    (case fxr_TooMany => rfl)
    (case sa_TooMany => k_is)
    (case kpr_TooMany => k_is)
    (case fsb_TooMany => k_is)
    (case fty_TooMany => k_is)
    (case fy1_TooMany => k_is)
    (case fy2_TooMany => k_is)
    (case fy3_TooMany => k_is)
    (case fnf_TooMany_day => k_is)
    (case fnf_TooMany_number => k_is)
    (case fnf_TooMany_left => k_is)
    (case xl_Contradiction => k_is)
    (case fxr_Contradiction => rfl)
    (case sa_Contradiction => k_is)
    (case kpr_Contradiction => k_is)
    (case fsb_Contradiction => k_is)
    (case fty_Contradiction => k_is)
    (case fy1_Contradiction => k_is)
    (case fy2_Contradiction => k_is)
    (case fy3_Contradiction => k_is)
    (case fnf_Contradiction_pair => k_is)
    (case xl_NotPlain => k_is)
    (case fxr_NotPlain => rfl)
    (case sa_NotPlain => k_is)
    (case kpr_NotPlain => k_is)
    (case fsb_NotPlain => k_is)
    (case fty_NotPlain => k_is)
    (case fy1_NotPlain => k_is)
    (case fy2_NotPlain => k_is)
    (case fy3_NotPlain => k_is)
    (case fnf_NotPlain_day => k_is)
    (case fnf_NotPlain_number => k_is)
    (case fkp_NotPossible => k_is)
    (case fex_NotPossible => k_exc)
    (case xl_Shut => k_is)
    (case fxr_Shut => rfl)
    (case sa_Shut => k_is)
    (case kpr_Shut => k_is)
    (case fsb_Shut => k_is)
    (case fty_Shut => k_is)
    (case fy1_Shut => k_is)
    (case fy2_Shut => k_is)
    (case fy3_Shut => k_is)
    (case fnf_Shut_day => k_is)
    (case xl_NotClosed => k_is)
    (case fxr_NotClosed => rfl)
    (case sa_NotClosed => k_is)
    (case kpr_NotClosed => k_is)
    (case fsb_NotClosed => k_is)
    (case fty_NotClosed => k_is)
    (case fy1_NotClosed => k_is)
    (case fy2_NotClosed => k_is)
    (case fy3_NotClosed => k_is)
    (case fnf_NotClosed_day => k_is)
    (case fkp_NotTold => k_is)
    (case fex_NotTold => k_exc)
    (case xl_Unfit => k_is)
    (case fxr_Unfit => rfl)
    (case sa_Unfit => k_is)
    (case kpr_Unfit => k_is)
    (case fsb_Unfit => k_is)
    (case fty_Unfit => k_is)
    (case fy1_Unfit => k_is)
    (case fy2_Unfit => k_is)
    (case fy3_Unfit => k_is)
    (case fnf_Unfit_factors => k_is)
    (case ct_Unfit => k_is)
    (case cm_Unfit => rfl)
    (case fy4_Unfit => k_is)
    (case fo5 => k_is)
    (case fo6 => k_is)
    (case fy7_Unfit => k_is)
    (case ct_NotTold => k_is)
    (case cm_NotTold => rfl)
    (case fty_NotTold => k_is)
    (case fy1_NotTold => k_is)
    (case fy2_NotTold => k_is)
    (case fsb_NotTold => k_is)
    (case fy3_NotTold => k_is)
    (case fy4_NotTold => k_is)
    (case fy7_NotTold => k_is)
    (case ct_NotClosed => k_is)
    (case cm_NotClosed => rfl)
    (case fy4_NotClosed => k_is)
    (case fy7_NotClosed => k_is)
    (case ct_Shut => k_is)
    (case cm_Shut => rfl)
    (case fy4_Shut => k_is)
    (case fy7_Shut => k_is)
    (case ct_NotPossible => k_is)
    (case cm_NotPossible => rfl)
    (case fty_NotPossible => k_is)
    (case fy1_NotPossible => k_is)
    (case fy2_NotPossible => k_is)
    (case fsb_NotPossible => k_is)
    (case fy3_NotPossible => k_is)
    (case fy4_NotPossible => k_is)
    (case fy7_NotPossible => k_is)
    (case ct_NotPlain => k_is)
    (case cm_NotPlain => rfl)
    (case fy4_NotPlain => k_is)
    (case fy7_NotPlain => k_is)
    (case ct_Contradiction => k_is)
    (case cm_Contradiction => rfl)
    (case fy4_Contradiction => k_is)
    (case fy7_Contradiction => k_is)
    (case ct_TooMany => k_is)
    (case cm_TooMany => rfl)
    (case fy4_TooMany => k_is)
    (case fy7_TooMany => k_is)
    (case ct_NotEnough => k_is)
    (case cm_NotEnough => rfl)
    (case fy4_NotEnough => k_is)
    (case fy7_NotEnough => k_is)
    (case ct_UnknownName => k_is)
    (case cm_UnknownName => rfl)
    (case fy4_UnknownName => k_is)
    (case fy7_UnknownName => k_is)
    (case ct_NameTaken => k_is)
    (case cm_NameTaken => rfl)
    (case fy4_NameTaken => k_is)
    (case fy7_NameTaken => k_is)
    (case ct_Short => k_is)
    (case cm_Short => rfl)
    (case fy4_Short => k_is)
    (case fy7_Short => k_is)
    (case ct_BadRule => k_is)
    (case cm_BadRule => rfl)
    (case fy4_BadRule => k_is)
    (case fy7_BadRule => k_is)
    (case ct_NoEntry => k_is)
    (case cm_NoEntry => rfl)
    (case fy4_NoEntry => k_is)
    (case fy7_NoEntry => k_is)
    (case ct_BadEntry => k_is)
    (case cm_BadEntry => rfl)
    (case fy4_BadEntry => k_is)
    (case fy7_BadEntry => k_is)
    (case ct_Negative => k_is)
    (case cm_Negative => rfl)
    (case fy4_Negative => k_is)
    (case fy7_Negative => k_is)
    (case ct_NoPrice => k_is)
    (case cm_NoPrice => rfl)
    (case fy4_NoPrice => k_is)
    (case fy7_NoPrice => k_is)
    (case ct_BadName => k_is)
    (case cm_BadName => rfl)
    (case fy4_BadName => k_is)
    (case fy7_BadName => k_is)
    (case ct_NoRatio => k_is)
    (case cm_NoRatio => rfl)
    (case fty_NoRatio => k_is)
    (case fy1_NoRatio => k_is)
    (case fy2_NoRatio => k_is)
    (case fsb_NoRatio => k_is)
    (case fy3_NoRatio => k_is)
    (case fy4_NoRatio => k_is)
    (case fy7_NoRatio => k_is)
    (case fnd => decide)
    (case ct_CostError => k_is)
    (case fty_CostError => k_is)
    (case a0 => k_is)
    (case l0 => k_is)
    (case c0 => k_is)
    (case k0 => k_is)
    (case a1 => k_is)
    (case l1 => k_is)
    (case c1 => k_is)
    (case k1 => k_is)
    (case a2 => k_is)
    (case l2 => k_is)
    (case c2 => k_is)
    (case k2 => k_is)
    (case a3 => k_is)
    (case i3 => k_is)
    (case ti3 => k_is)
    (case l3 => k_is)
    (case c3 => k_is)
    (case k3 => k_is)
    (case a4 => k_is)
    (case i4 => k_is)
    (case ti4 => k_is)
    (case l4 => k_is)
    (case c4 => k_is)
    (case k4 => k_is)
    (case a5 => k_is)
    (case i5 => k_is)
    (case ti5 => k_is)
    (case l5 => k_is)
    (case c5 => k_is)
    (case k5 => k_is)
    (case a6 => k_is)
    (case i6 => k_is)
    (case ti6 => k_is)
    (case l6 => k_is)
    (case c6 => k_is)
    (case k6 => k_is)
    (case a7 => k_is)
    (case i7 => k_is)
    (case ti7 => k_is)
    (case l7 => k_is)
    (case c7 => k_is)
    (case k7 => k_is)
    (case a8 => k_is)
    (case l8 => k_is)
    (case c8 => k_is)
    (case k8 => k_is)
    (case a9 => k_is)
    (case i9 => k_is)
    (case ti9 => k_is)
    (case l9 => k_is)
    (case c9 => k_is)
    (case k9 => k_is)
    (case a10 => k_is)
    (case i10 => k_is)
    (case ti10 => k_is)
    (case l10 => k_is)
    (case c10 => k_is)
    (case k10 => k_is)
    (case a11 => k_is)
    (case i11 => k_is)
    (case ti11 => k_is)
    (case l11 => k_is)
    (case c11 => k_is)
    (case k11 => k_is)
    (case a12 => k_is)
    (case l12 => k_is)
    (case c12 => k_is)
    (case k12 => k_is)
    (case a13 => k_is)
    (case i13 => k_is)
    (case ti13 => k_is)
    (case l13 => k_is)
    (case c13 => k_is)
    (case k13 => k_is)
    (case a14 => k_is)
    (case i14 => k_is)
    (case ti14 => k_is)
    (case l14 => k_is)
    (case c14 => k_is)
    (case k14 => k_is)
    (case a15 => k_is)
    (case i15 => k_is)
    (case ti15 => k_is)
    (case l15 => k_is)
    (case c15 => k_is)
    (case k15 => k_is)
    (case a16 => k_is)
    (case i16 => k_is)
    (case ti16 => k_is)
    (case l16 => k_is)
    (case c16 => k_is)
    (case k16 => k_is)
    (case a17 => k_is)
    (case i17 => k_is)
    (case ti17 => k_is)
    (case l17 => k_is)
    (case c17 => k_is)
    (case k17 => k_is)
    (case a18 => k_is)
    (case i18 => k_is)
    (case ti18 => k_is)
    (case l18 => k_is)
    (case c18 => k_is)
    (case k18 => k_is)
    (case a19 => k_is)
    (case i19 => k_is)
    (case ti19 => k_is)
    (case l19 => k_is)
    (case c19 => k_is)
    (case k19 => k_is)
    (case a20 => k_is)
    (case i20 => k_is)
    (case ti20 => k_is)
    (case l20 => k_is)
    (case c20 => k_is)
    (case k20 => k_is)
    (case a21 => k_is)
    (case l21 => k_is)
    (case c21 => k_is)
    (case k21 => k_is)
    (case a22 => k_is)
    (case l22 => k_is)
    (case c22 => k_is)
    (case k22 => k_is)
    (case a23 => k_is)
    (case l23 => k_is)
    (case c23 => k_is)
    (case k23 => k_is)
#print axioms PySem.Challenge.cw_lotcosts_k14_classes_of_errors_holds
