import PyProof.Rows.All
import Wide.All
import OpenK.AllK
import Wide.FinOn
import HandS.ForMost
import HandS.ForExc
import HandS.Flow
import HandS.Wide
import HandS.Gcd
import HandS.IsInst
import HandS.EndBits
import HandS.Defaults
import HandS.Style
import HandS.TryMany
import HandS.ExcIs
import HandS.ExcCtx
import HandS.Small
import HandS.ClsMeth
import HandS.Evl
import KE.RegKIsAll
import KE.KOpsOwn
import HandS.OwnEq
import HandS.DictComp
import HandS.Walk
import HandS.StrMore
import HandS.More
import HandS.Finally
import HandS.NoneIn
import HandS.ExcInit
import HandS.ExcField
import HandS.SetKeys
import HandS.TupSets
import HandS.MakeKwOnly
import KE.KExcIs
import HandS.ExcValue
import PyProof.SumWalkG
import PyProof.WalkInts
import PyProof.TwoTypesSub
import PyProof.MinMaxWalk
import HandS.Hot
import HandS.HotCalls
import PyProof.CallStr
import HandS.RaiseMore
import PyProof.Walks
import KE.KMathG
import PyProof.NeKinds
import HandS.Conv
import HandS.TupLen
import HandS.DictTup
import KE.KDictSum
import PyProof.DictMoreH
import HandS.SortOrd
import HandS.SortRule
import HandS.Deep
import KE.DataMinMax
import KE.SortData
import HandS.SetBool
import HandS.Iter
import HandS.ExcInitHot
import PySem.Challenge.RW_lotcosts_k41_units_taken
set_option Elab.async false
set_option linter.all false
set_option maxRecDepth 100000
set_option maxHeartbeats 4000000
namespace Lo
open PySem PySem.Spec PyProof.Rows L2

/-! ### heaps -/
theorem sget {H H' : Hp} {a : Addr} {o : HO} (s : Same H H') (h : H a = some o) : H' a = some o := s a o h
/-- all but what stands at b is as it was -/
def Keep (b : Addr) (H H' : Hp) : Prop := ∀ a o, H a = some o → a ≠ b → H' a = some o
theorem Keep.of {b : Addr} {H H' : Hp} (s : Same H H') : Keep b H H' := fun a o h _ => s a o h
theorem Keep.trans {b : Addr} {H H1 H2 : Hp} (s : Keep b H H1) (t : Keep b H1 H2) : Keep b H H2 := fun a o h n => t a o (s a o h n) n
theorem kget {b : Addr} {H H' : Hp} {a : Addr} {o : HO} (s : Keep b H H') (n : a ≠ b) (h : H a = some o) : H' a = some o := s a o h n
theorem same_upd {H : Hp} {p : Addr} {o : HO} (h : H p = none) : Same H (upd H p o) := fun a u e => by rw [upd_ne (ne_of_none e h)]; exact e
theorem keep_upd {H : Hp} {p : Addr} {o : HO} : Keep p H (upd H p o) := fun a u e n => by rw [upd_ne n]; exact e
theorem same_put {H H' : Hp} {p : Addr} {o : HO} (n : H p = none) (s : Same H H') : Same H (upd H' p o) := fun a u e => by rw [upd_ne (ne_of_none e n)]; exact s a u e
theorem gen_new {H G : Hp} {p : Addr} {o : HO} (n : H p = none) (g : upd H p o = G) : Same H G ∧ G p = some o := by
  subst g
  exact ⟨same_upd n, upd_same⟩
theorem gen_put {H G : Hp} {p : Addr} {o : HO} (g : upd H p o = G) : Keep p H G ∧ G p = some o := by
  subst g
  exact ⟨keep_upd, upd_same⟩
theorem SqL.same {K : PySem.W.Frag} {H H' : Hp} {a : Addr} {xs : List V} (s : Same H H') (h : SqL K H a xs) : SqL K H' a xs := s.seq h

/-! ### a word between an expression and what follows -/
def tMid (t : TE) : TE := fun σ H Q => ∃ M : V → Hp → Prop, t σ H M ∧ ∀ v H', M v H' → Q v H'
theorem pe_mid {X : Cx} {e : Expr} {t : TE} (h : PE X e t) : PE X e (tMid t) := ⟨fun pins s σ H Q I ⟨M, hm, hq⟩ => thn (h.run pins s σ H M I hm) fun u s1 ⟨v, H1, I1, r, m⟩ => ⟨v, H1, I1, r, hq v H1 m⟩⟩
def tMidT (t : TT) : TT := fun σ H Q => ∃ M : Bool → Hp → Prop, t σ H M ∧ ∀ v H', M v H' → Q v H'
theorem pt_mid {X : Cx} {e : Expr} {t : TT} (h : PT X e t) : PT X e (tMidT t) := ⟨fun pins s σ H Q I ⟨M, hm, hq⟩ => thn (h.run pins s σ H M I hm) fun b s1 ⟨H1, I1, m⟩ => ⟨H1, I1, hq b H1 m⟩⟩
/-! ### own defs, as their callers see them -/
structure Own (P : Program) (w : World) (K : PySem.W.Frag) (mg : Str → Option Value) (base : Heap) (k : Nat) (x : Str) (ps : List Str) (sp : Sp) : Prop where
  ex : ∃ f fd, FnOk P w K mg base (L2N.CX P w) k f fd ps sp ∧ mg x = some (.ref f) ∧ PySem.W.keepIn K (.ref f) = true ∧ Binds K fd ps []
structure OwnM (P : Program) (w : World) (K : PySem.W.Frag) (mg : Str → Option Value) (base : Heap) (k : Nat) (C : Addr) (m : Str) (ps : List Str) (sp : Sp) : Prop where
  cl : Cls K C
  ex : ∃ f fd, FnOk P w K mg base (L2N.CX P w) k f fd ps sp ∧ Meth K C m f ∧ Binds K fd ps []
structure OwnI (P : Program) (w : World) (K : PySem.W.Frag) (mg : Str → Option Value) (base : Heap) (k : Nat) (x : Str) (C : Addr) (ps : List Str) (dvs : List V) (sp : Sp) : Prop where
  ex : ∃ f fd ds, FnOk P w K mg base (L2N.CX P w) k f fd ps sp ∧ Mk K C f ∧ mg x = some (.ref C) ∧ Binds K fd ps ds ∧ Vals dvs ds

section
variable {X : Cx} {k : Nat} {C : Addr} {ps : List Str} {sp : Sp} {E : L2.St → XK} {x m : Str} {p pos apos : Pos} {e o : Expr} {es : List Expr} {ta : TE} {t : TA} {dvs : List V}

theorem pas0 {X : Cx} : ∀ σ, PassesAt (L2N.CX X.prog X.w) X σ ((fun _ => E0) σ) := fun σ pins H s e s' I h => by
  obtain ⟨_, _, _, _, _, _, _, _, _, _, _, _, z⟩ := h
  exact z.elim
/-- a def by its body, whatever its callers learn of what leaves it -/
theorem okN {P : Program} {w : World} {K : PySem.W.Frag} {mg : Str → Option Value} {base : Heap} {x qual : Str} {st : Stmt} {f : Addr} {fd : FuncData} {N ps : List Str} {k : Nat} {sp : Sp} (F : Fun K x qual st f fd) (sc : FnScope N ps (defScope st))
    (ln : ∀ vs H Q E, sp vs H Q E → vs.length = ps.length) (bd : ∀ (cv : Value) (A : Around) (outer : List Env) (s : Shared) (H : Hp) (vs : List V) (Q : VK) (E : XK), Room k (A.deeper (envOfC qual (defScope st) s.heap.objs.size f cv)) → sp vs H Q E →
      ∃ t, PSs (cxOf (L2N.CX P w) P w K mg base N qual (defScope st) f cv A outer s H E) (defBody st) t ∧ t { nx := fun _ H' => Q .non H', rt := Q } (start N vs) H) :
    FnOk P w K mg base (L2N.CX P w) (k + 1) f fd ps sp := by
  have ⟨_, _, _, _, _, _, _, _, _, e, look, hcd⟩ := F.ex
  subst e
  exact fn_of look hcd sc ln fun A outer s H vs Q E hr h => bd _ A outer s H vs Q E hr h
theorem takesN {X : Cx} : L2N.Takes X (fun _ _ _ _ => False) := fun _ _ ⟨_, _, _, _, _, _, _, _, _, _, _, _, _, _, _, _, z⟩ => z.elim
theorem passN {X : Cx} : Passes (L2N.CX X.prog X.w) X E0 := fun pins σ => pas0 σ pins
theorem pasE {X : Cx} {E : XK} (tk : L2N.Takes X (fun cls d _ H => E cls d H)) : ∀ σ, PassesAt (L2N.CX X.prog X.w) X σ ((fun _ => E) σ) := fun σ => L2N.passAt (W := fun cls d _ H => E cls d H) tk σ
theorem pe_own (O : Own X.prog X.w X.K X.mg X.base k x ps sp) (hr : Room k X.A) (hg : Gl X x) (hx : ∀ σ, PassesAt (L2N.CX X.prog X.w) X σ (E σ)) (ha : PA X (e :: es) t)
    (hdb : (x == ("__debug__" : Str)) = false := by decide) (he : starEach (e :: es) X.env = (false, eval e X.env) :: starEach es X.env := by rfl) (hpl : (backTo pos (starEach es X.env)).any (·.1) = false := by rfl) :
    PE X (.Call (.Name x p) (e :: es) [] pos) (tCallS sp E t) := by
  obtain ⟨f, fd, F, hm, hk, hb⟩ := O.ex
  exact pe_callS F hr hg hm hk hb hx ha hdb he hpl

def tMethS (C : Addr) (m : Str) (sp : Sp) (E : L2.St → XK) (ta : TE) (t : TA) : TE := fun σ H Q => ta σ H fun x H1 => ∃ a dx fs, x = .ref a ∧ H1 a = some (.ins C dx fs) ∧ fs.lookup m = none ∧
  t σ H1 fun vs H2 => sp (x :: vs) H2 Q (E σ)
theorem pe_ownm {pl : Sem Bool} (O : OwnM X.prog X.w X.K X.mg X.base k C m ps sp) (he : PE X o ta) (hr : Room k X.A) (hx : ∀ σ, PassesAt (L2N.CX X.prog X.w) X σ (E σ)) (ha : PA X (e :: es) t)
    (hst : starEach (e :: es) X.env = (false, eval e X.env) :: starEach es X.env := by rfl) (hpl : (backTo pos (starEach es X.env)).any (·.1) = false := by rfl)
    (ht : eval (.Call (.Attribute o m apos) (e :: es) [] pos) X.env = (do
      let ov ← eval o X.env
      standAt apos.atName
      let (f, first) ← holding [ov] (getMethod ov m pl)
      callWith pos f first (backTo pos (starEach (e :: es) X.env)) (backToKw pos (keywordEach [] X.env))) := by rfl) :
    PE X (.Call (.Attribute o m apos) (e :: es) [] pos) (tMethS C m sp E ta t) := by
  obtain ⟨f, fd, F, hm, hb⟩ := O.ex
  refine ⟨fun pins s σ H Q I h => ?_⟩
  refine PySem.W.methodCall_KW (pl := pl) (thn (he.run pins s σ H _ I h) fun u s1 ⟨x, H1, I1, rx, a, dx, fs, ex, ea, l, q⟩ => ?_) ht
  subst ex
  obtain rfl : u = Value.ref a := rx
  refine getmeth_ok I1 ea O.cl hm l ?_
  refine PySem.W.callWith_K (first := [.ref a]) (h₀ := X.base) I.ok.mod.kin hm.kp (thn (ha.run pos pins s1 σ H1 _ I1 q) fun us s2 ⟨vs, H2, I2, r, q2⟩ => ⟨I2.kIn, ?_⟩) hst hpl
  exact run_fnS (us := .ref a :: us) (vs := .ref a :: vs) F hr hb (hx σ) I2 (.cons rfl r) q2
theorem pe_ownm0 {pl : Sem Bool} (O : OwnM X.prog X.w X.K X.mg X.base k C m ps sp) (he : PE X o ta) (hr : Room k X.A) (hx : ∀ σ, PassesAt (L2N.CX X.prog X.w) X σ (E σ))
    (ht : eval (.Call (.Attribute o m apos) [] [] pos) X.env = (do
      let ov ← eval o X.env
      standAt apos.atName
      let (f, first) ← holding [ov] (getMethod ov m pl)
      callWith pos f first (backTo pos (starEach [] X.env)) (backToKw pos (keywordEach [] X.env))) := by rfl) :
    PE X (.Call (.Attribute o m apos) [] [] pos) (tMethS C m sp E ta tNil) := by
  obtain ⟨f, fd, F, hm, hb⟩ := O.ex
  refine ⟨fun pins s σ H Q I h => ?_⟩
  refine PySem.W.methodCall_KW (pl := pl) (thn (he.run pins s σ H _ I h) fun u s1 ⟨x, H1, I1, rx, a, dx, fs, ex, ea, l, q⟩ => ?_) ht
  subst ex
  obtain rfl : u = Value.ref a := rx
  refine getmeth_ok I1 ea O.cl hm l ?_
  exact PySem.W.callWith_K0 (first := [.ref a]) I1.kIn hm.kp (run_fnS (us := [.ref a]) (vs := [.ref a]) F hr hb (hx σ) I1 (.cons rfl .nil) q)

def tMakeS (C : Addr) (sp : Sp) (dvs : List V) (E : L2.St → XK) (t : TA) : TE := fun σ H Q => t σ H fun vs H1 => ∀ x dx, H1 x = none → H1 dx = none → dx ≠ x →
  sp (.ref x :: (vs ++ dvs)) (upd (upd H1 dx (.own x)) x (.ins C dx [])) (fun v H2 => v = .non ∧ Q (.ref x) H2) (E σ)
theorem run_makeS {f : Addr} {fd : FuncData} {ds : List Value} {pins : List (Addr × Obj)} {σ : L2.St} {H : Hp} {s : Shared} {Q : VK} {us : List Value} {vs : List V} (M : Mk X.K C f) (F : FnOk X.prog X.w X.K X.mg X.base (L2N.CX X.prog X.w) k f fd ps sp)
    (hr : Room (k + 1) X.A) (hb : Binds X.K fd ps ds) (hd : Vals dvs ds) (hx : PassesAt (L2N.CX X.prog X.w) X σ (E σ)) (I : Inv X pins σ H s) (r : Vals vs us)
    (h : ∀ x dx, H x = none → H dx = none → dx ≠ x → sp (.ref x :: (vs ++ dvs)) (upd (upd H dx (.own x)) x (.ins C dx [])) (fun v H2 => v = .non ∧ Q (.ref x) H2) (E σ)) :
    wpAny (model X.prog X.w) X.A (call (.ref C) us) (EP X pins σ Q) X.xe s := by
  have hq := h (s.heap.objs.size + 1) s.heap.objs.size (I.hok.fresh (Nat.le_succ _)) (I.hok.fresh (Nat.le_refl _)) (Nat.ne_of_lt (Nat.lt_succ_self _))
  have I2 := Inv.made (C := C) I
  have r2 : Vals (V.ref (s.heap.objs.size + 1) :: (vs ++ dvs)) (Value.ref (s.heap.objs.size + 1) :: (us ++ ds)) := .cons rfl (r.append hd)
  have hl : (Value.ref (s.heap.objs.size + 1) :: us ++ ds).length = ps.length := by
    have e := r2.length
    rw [F.len _ _ _ _ hq] at e
    exact e.symm
  refine wpAny_call (make_map (f := f) I.kIn M.makes M.init (beq_iff_eq.mp M.fn) (codeAny_mono (F.run _ X.stack _ _ ⟨Value.ref (s.heap.objs.size + 1) :: us, []⟩ (Value.ref (s.heap.objs.size + 1) :: (us ++ ds)) _ _ (E σ) (hr.make C us [])
    (I2.env0.make C us []) (hb _ (Value.ref (s.heap.objs.size + 1) :: us) I2.kIn hl) r2 hq) fun r s' hq' => ?_))
  cases r with
  | error e => exact hx pins _ _ e s' I2 hq'
  | ok fl =>
    cases fl with
    | ret u =>
      obtain ⟨v, H', I3, rv, ev, q3⟩ := I2.after hq'
      subst ev
      exact ⟨rv, ⟨V.ref (s.heap.objs.size + 1), H', I3, rfl, q3⟩⟩
    | next => exact False.elim hq'
    | brk => exact False.elim hq'
    | cont => exact False.elim hq'
theorem pe_owni (O : OwnI X.prog X.w X.K X.mg X.base k x C ps dvs sp) (hr : Room (k + 1) X.A) (hg : Gl X x) (hx : ∀ σ, PassesAt (L2N.CX X.prog X.w) X σ (E σ)) (ha : PA X (e :: es) t)
    (hdb : (x == ("__debug__" : Str)) = false := by decide) (he : starEach (e :: es) X.env = (false, eval e X.env) :: starEach es X.env := by rfl) (hpl : (backTo pos (starEach es X.env)).any (·.1) = false := by rfl) :
    PE X (.Call (.Name x p) (e :: es) [] pos) (tMakeS C sp dvs E t) := by
  obtain ⟨f, fd, ds, F, M, hm, hb, hd⟩ := O.ex
  refine ⟨fun pins s σ H Q I h => ?_⟩
  refine wpAny_Call_Name_kw (ld_glob I hg hm ?_ hdb)
  refine PySem.W.callWith_K (h₀ := X.base) I.ok.mod.kin M.kp (thn (ha.run pos pins s σ H _ I h) fun us s1 ⟨vs, H1, I1, r, q⟩ => ⟨I1.kIn, ?_⟩) he hpl
  exact run_makeS M F hr hb hd (hx σ) I1 r q
end

def rLenSeq (K : PySem.W.Frag) : List V → Hp → VK → Prop := fun xs H Q => ∃ p ys, xs = [V.ref p] ∧ (SqL K H p ys ∨ SqT K H p ys) ∧ Q (.int ys.length) H
/-! ### own operators -/
section
open PySem.W
section
variable {prog : Program} {w : World} {A : Around} {E : Value → Shared → Prop} {s : Shared} {i : Int} {t : Tok} {x C dx f g : Addr} {K : Frag} {ox : Obj} {od : Option Obj} {nm : String} {Q : Option Value → Shared → Prop} {rc fo ro : Option Value}
theorem slot_fills {M : Model} {h : Heap} (X : K.In h) (hc : selfFirst K C = true) (hs : findIn K (.ref C) (PySem.dunder nm) = some (some (.ref f))) : Looks M h (fillsNumberSlot (.ref C) nm) true := by
  obtain ⟨cd, rest, hcd, hm⟩ := ksp_first hc
  exact fills_K X hcd hm hs
/-- what an own method answers is no NotImplemented -/
theorem bin1_same {b : Value} (X : K.In s.heap) (I : InstAt s.heap x ox C od) (hb : Looks (model prog w) s.heap (typeOf b) (.ref C)) (hc : selfFirst K C = true) (hs : findIn K (.ref C) (PySem.dunder nm) = some (some (.ref f))) (hf : isFn K (.ref f) = true)
    (h : wpAny (model prog w) A (call (.ref f) [.ref x, b]) (PySem.W.CmpBack fun v => Q (some v)) E s) : wpAny (model prog w) A (binaryOp1 nm (.ref x) b) Q E s := by
  have one := ksp_try X I hs hf h
  have L3 : Looks (model prog w) s.heap (fillsNumberSlot (.ref C) nm) true := slot_fills X hc hs
  have L1 : Looks (model prog w) s.heap (typeOf (.ref x)) (.ref C) := I.type
  obtain ⟨hh, gg, d, tt, os⟩ := s
  unfold binaryOp1
  refine wpAny_bind (L1.at (wpAny_bind (hb.at (wpAny_bind (L3.at ?_)))))
  simp only [beq_self_eq_true, if_true]
  ksp_lk
  refine wpAny_mono one (fun r s' hr => ?_) fun _ _ e => e
  obtain ⟨v, rfl, hq⟩ := hr
  ksp_lk
  exact hq
theorem bin1_int (X : K.In s.heap) (I : InstAt s.heap x ox C od) (hc : selfFirst K C = true) (hs : findIn K (.ref C) (PySem.dunder nm) = some (some (.ref f))) (hf : isFn K (.ref f) = true) (hr : findIn K (.ref C) (dunderR nm) = some rc) (hp : rc = none ∨ ∃ g : Addr, rc = some (.ref g))
    (h1 : findIn K (.type "int") (PySem.dunder nm) = some fo) (h2 : findIn K (.type "int") (dunderR nm) = some ro) (hsub : subIn K (.type "int") (.ref C) = some false)
    (h : wpAny (model prog w) A (call (.ref f) [.ref x, .int i t]) (PySem.W.CmpBack fun v => Q (some v)) E s) : wpAny (model prog w) A (binaryOp1 nm (.ref x) (.int i t)) Q E s := by
  have one := ksp_try X I hs hf h
  have L3 : Looks (model prog w) s.heap (fillsNumberSlot (.ref C) nm) true := slot_fills X hc hs
  have L1 : Looks (model prog w) s.heap (typeOf (.ref x)) (.ref C) := I.type
  have L2 : Looks (model prog w) s.heap (typeOf (.int i t)) (.type "int") := Looks.of_pure rfl
  have L4 : Looks (model prog w) s.heap (fillsNumberSlot (.type "int") nm) ((fo.isSome && !isSeqSlot fo) || (ro.isSome && !isSeqSlot ro)) := ksp_fillsT X h1 h2
  have L5 : Looks (model prog w) s.heap (isSubtype (.type "int") (.ref C)) false := looks_subIn X hsub
  have L6 : Looks (model prog w) s.heap (numberSlotInPython (.ref C) nm) true := ksp_inPy X hs hr hp
  have L7 : Looks (model prog w) s.heap (numberSlotInPython (.type "int") nm) false := Looks.of_pure rfl
  have L8 : Looks (model prog w) s.heap (typeLookup (.type "int") (dunderR nm)) ro := looks_findIn X h2
  have hne : (Value.ref C == Value.type "int") = false := Bool.eq_false_iff.mpr fun q => by cases beq_iff_eq.mp q
  obtain ⟨hh, gg, d, tt, os⟩ := s
  generalize ((fo.isSome && !isSeqSlot fo) || (ro.isSome && !isSeqSlot ro)) = right at L4
  unfold binaryOp1
  refine wpAny_bind (L1.at (wpAny_bind (L2.at (wpAny_bind (L3.at ?_)))))
  simp only [hne, Bool.false_eq_true, if_false]
  cases right <;>
  · ksp_lk
    refine wpAny_mono one (fun r s' hr => ?_) fun _ _ e => e
    obtain ⟨v, rfl, hq⟩ := hr
    ksp_lk
    exact hq
theorem bin1_refl (X : K.In s.heap) (I : InstAt s.heap x ox C od) (hc : selfFirst K C = true) (hs : findIn K (.ref C) (PySem.dunder nm) = some (some (.ref g))) (hr : findIn K (.ref C) (dunderR nm) = some (some (.ref f))) (hf : isFn K (.ref f) = true)
    (fills : fillsNumberSlot (.type "int") nm = pure true) (hsub : subIn K (.ref C) (.type "int") = some false)
    (decl : ∀ Q : Option Value → Shared → Prop, Q none s → wpAny (model prog w) A (tryMethod (.int i t) (PySem.dunder nm) (.ref x)) Q E s)
    (h : wpAny (model prog w) A (call (.ref f) [.ref x, .int i t]) (PySem.W.CmpBack fun v => Q (some v)) E s) : wpAny (model prog w) A (binaryOp1 nm (.int i t) (.ref x)) Q E s := by
  have one := ksp_try X I hr hf h
  have L3 : Looks (model prog w) s.heap (fillsNumberSlot (.ref C) nm) true := slot_fills X hc hs
  have L1 : Looks (model prog w) s.heap (typeOf (.ref x)) (.ref C) := I.type
  have L2 : Looks (model prog w) s.heap (typeOf (.int i t)) (.type "int") := Looks.of_pure rfl
  have L4 : Looks (model prog w) s.heap (fillsNumberSlot (.type "int") nm) true := Looks.of_pure fills
  have L5 : Looks (model prog w) s.heap (isSubtype (.ref C) (.type "int")) false := looks_subIn X hsub
  have L7 : Looks (model prog w) s.heap (numberSlotInPython (.type "int") nm) false := Looks.of_pure rfl
  have hne : (Value.type "int" == Value.ref C) = false := Bool.eq_false_iff.mpr fun q => by cases beq_iff_eq.mp q
  obtain ⟨hh, gg, d, tt, os⟩ := s
  unfold binaryOp1
  refine wpAny_bind (L2.at (wpAny_bind (L1.at (wpAny_bind (L4.at ?_)))))
  simp only [hne, Bool.false_eq_true, if_false]
  ksp_lk
  refine decl _ ?_
  ksp_lk
  refine wpAny_mono one (fun r s' hr => ?_) fun _ _ e => e
  obtain ⟨v, rfl, hq⟩ := hr
  ksp_lk
  exact hq
end
end

/-! ### own arithmetic -/
section
variable {prog : Program} {w : World} {A : Around} {E : Value → Shared → Prop} {s : Shared} {i : Int} {t : Tok} {x C dx : Addr}
theorem int_declines {id : String} {B : Builtin} {nm : Str} {name : String} {f : Int → Int → Sem Fin} (slot : Slot "int" nm id) (entry : entryFor table id = some B) (args : ∀ a b : Value, argsOk id ⟨[a, b], []⟩) (hB : B = Builtin.Int.intBinary name f) (hx : s.heap.get? x = some (PySem.W.instObj C dx))
    (Q : Option Value → Shared → Prop) (h : Q none s) : wpAny (model prog w) A (tryMethod (.int i t) nm (.ref x)) Q E s := by
  refine wpAny_tryMethod_declines (typeIs_int s i t) slot (wpAny_call_entry slot (typeIs_int s i t) entry ?_ (args _ _))
  rw [hB]
  unfold Builtin.Int.intBinary
  obtain ⟨hp, g, d, tk, os⟩ := s
  wp_walk using wpAny_load' hx
  exact ⟨_, rfl, rfl, h⟩
theorem bin_of1 {op : Operator} {a b : Value} {Q : Value → Shared → Prop} (h : wpAny (model prog w) A (binaryOp1 op.info.2 a b) (fun r s' => ∃ v, r = some v ∧ Q v s') E s) : wpAny (model prog w) A (binaryOp op a b) Q E s := by
  unfold binaryOp
  refine wpAny_holding (wpAny_bind (wpAny_mono h (fun r s' hr => ?_) fun _ _ e => e))
  obtain ⟨v, rfl, hq⟩ := hr
  exact wpAny_pure hq
theorem inp_of1 {op : Operator} {a b ta : Value} {Q : Value → Shared → Prop} (ht : PySem.W.Looks (model prog w) s.heap (typeOf a) ta) (hn : PySem.W.Looks (model prog w) s.heap (fillsInplaceSlot ta op.info.2 (op == .Add)) false)
    (h : wpAny (model prog w) A (binaryOp1 op.info.2 a b) (fun r s' => ∃ v, r = some v ∧ Q v s') E s) : wpAny (model prog w) A (inplaceOp op a b) Q E s := by
  unfold inplaceOp
  refine wpAny_holding (wpAny_bind (ht.here (wpAny_bind (hn.here ?_))))
  simp only [Bool.false_eq_true, if_false]
  refine wpAny_bind (wpAny_mono h (fun r s' hr => ?_) fun _ _ e => e)
  obtain ⟨v, rfl, hq⟩ := hr
  exact wpAny_pure hq
end
section
variable {prog : Program} {w : World} {A : Around} {E : Value → Shared → Prop} {s : Shared} {x C : Addr} {K : PySem.W.Frag} {cd : ClassData}
theorem no_inplace {M : Model} {h : Heap} {nm : String} {add : Bool} (X : K.In h) (hc : PySem.W.clsIn K C = some cd) (hm : cd.mro = [.ref C, .type "object"]) (h1 : PySem.W.findIn K (.ref C) (dunderI nm) = some none) (h2 : PySem.W.findIn K (.type "object") (dunderI nm) = some none) :
    PySem.W.Looks M h (fillsInplaceSlot (.ref C) nm add) false := by
  intro A Q E s k q
  have Lm : PySem.W.Looks M h (mroOf (.ref C)) cd.mro := (PySem.W.looks_clsIn X hc).andThen (f := fun cd => pure cd.mro) .now
  have L1 : PySem.W.Looks M h (typeLookup (.ref C) (dunderI nm)) none := PySem.W.looks_findIn X h1
  have L2 : PySem.W.Looks M h (typeLookup (.type "object") (dunderI nm)) none := PySem.W.looks_findIn X h2
  unfold fillsInplaceSlot
  refine wpAny_bind (Lm.keeps k |>.here ?_)
  rw [hm, List.anyM_cons]
  refine wpAny_bind (wpAny_bind ((L1.keeps k).here ?_))
  refine wpAny_pure ?_
  rw [List.anyM_cons]
  refine wpAny_bind (wpAny_bind ((L2.keeps k).here ?_))
  refine wpAny_pure ?_
  exact wpAny_pure q
end

/-- what the written part says of a class with own + - * -/
def refOr : Option Value → Bool
  | none => true
  | some (.ref _) => true
  | _ => false
theorem refOr_of {r : Option Value} (h : refOr r = true) : r = none ∨ ∃ g : Addr, r = some (.ref g) := by
  unfold refOr at h
  split at h
  · exact .inl rfl
  · exact .inr ⟨_, rfl⟩
  · cases h
structure Arith (K : PySem.W.Frag) (C : Addr) : Prop where
  sf : PySem.W.selfFirst K C = true
  s1 : PySem.W.subIn K (.type "int") (.ref C) = some false
  s2 : PySem.W.subIn K (.ref C) (.type "int") = some false
  mro : ∃ cd, PySem.W.clsIn K C = some cd ∧ cd.mro = [.ref C, .type "object"]
  ia : PySem.W.findIn K (.ref C) "__iadd__" = some none ∧ PySem.W.findIn K (.type "object") "__iadd__" = some none
  isb : PySem.W.findIn K (.ref C) "__isub__" = some none ∧ PySem.W.findIn K (.type "object") "__isub__" = some none
  im : PySem.W.findIn K (.ref C) "__imul__" = some none ∧ PySem.W.findIn K (.type "object") "__imul__" = some none
  ofInt : ∃ a b c d e f, PySem.W.findIn K (.type "int") "__add__" = some a ∧ PySem.W.findIn K (.type "int") "__radd__" = some b ∧ PySem.W.findIn K (.type "int") "__sub__" = some c ∧ PySem.W.findIn K (.type "int") "__rsub__" = some d ∧
    PySem.W.findIn K (.type "int") "__mul__" = some e ∧ PySem.W.findIn K (.type "int") "__rmul__" = some f
  refl : ∃ a b c, (PySem.W.findIn K (.ref C) "__radd__" = some a ∧ refOr a = true) ∧ (PySem.W.findIn K (.ref C) "__rsub__" = some b ∧ refOr b = true) ∧ PySem.W.findIn K (.ref C) "__rmul__" = some c ∧ refOr c = true
  has : ∃ a b c : Addr, PySem.W.findIn K (.ref C) "__add__" = some (some (.ref a)) ∧ PySem.W.findIn K (.ref C) "__sub__" = some (some (.ref b)) ∧ PySem.W.findIn K (.ref C) "__mul__" = some (some (.ref c))
inductive AOp | add | sub | mul
def AOp.op : AOp → Operator | .add => .Add | .sub => .Sub | .mul => .Mult
def AOp.m : AOp → Str | .add => "__add__" | .sub => "__sub__" | .mul => "__mul__"
def AOp.r : AOp → Str | .add => "__radd__" | .sub => "__rsub__" | .mul => "__rmul__"
def AOp.i : AOp → Str | .add => "__iadd__" | .sub => "__isub__" | .mul => "__imul__"
theorem AOp.em (o : AOp) : PySem.dunder o.op.info.2 = o.m := by cases o <;> decide +kernel
theorem AOp.er (o : AOp) : dunderR o.op.info.2 = o.r := by cases o <;> decide +kernel
theorem AOp.ei (o : AOp) : dunderI o.op.info.2 = o.i := by cases o <;> decide +kernel
theorem AOp.fills (o : AOp) : fillsNumberSlot (.type "int") o.op.info.2 = pure true := by
  cases o
  · exact F.fills_int_add
  · exact F.fills_int_sub
  · exact F.fills_int_mul
theorem AOp.decl {prog : Program} {w : World} {A : Around} {E : Value → Shared → Prop} {s : Shared} {i : Int} {t : Tok} {x C dx : Addr} (o : AOp) (hx : s.heap.get? x = some (PySem.W.instObj C dx)) (Q : Option Value → Shared → Prop) (h : Q none s) :
    wpAny (model prog w) A (tryMethod (.int i t) (PySem.dunder o.op.info.2) (.ref x)) Q E s := by
  cases o
  · exact int_declines F.slot_int_add F.entry_int_add F.args_int_add_2 rfl hx Q h
  · exact int_declines F.slot_int_sub F.entry_int_sub F.args_int_sub_2 rfl hx Q h
  · exact int_declines F.slot_int_mul F.entry_int_mul F.args_int_mul_2 rfl hx Q h
section
variable {X : Cx} {k k' : Nat} {C : Addr} {m : Str} {ps ps' : List Str} {sp sp' : Sp} {E : XK}
/-- an instance of C on the left, an int or such an instance on the right -/
def rOwn (C : Addr) (sp : Sp) (E : XK) : R2 := fun x y H Q => ∃ a dx fs, x = .ref a ∧ H a = some (.ins C dx fs) ∧ ((∃ i, y = .int i) ∨ ∃ b dy gs, y = .ref b ∧ H b = some (.ins C dy gs)) ∧ sp [x, y] H Q E
/-- an int on the left -/
def rRefl (C : Addr) (sp : Sp) (E : XK) : R2 := fun x y H Q => ∃ i b dy gs, x = .int i ∧ y = .ref b ∧ H b = some (.ins C dy gs) ∧ sp [y, x] H Q E
def rUna (C : Addr) (sp : Sp) (E : XK) : V → Hp → VK → Prop := fun x H Q => ∃ a dx fs, x = .ref a ∧ H a = some (.ins C dx fs) ∧ sp [x] H Q E
theorem back_of {pins : List (Addr × Obj)} {σ : L2.St} {Q : VK} {u : Value} {s' : Shared} {R : Value → Shared → Prop} (h : EP X pins σ Q u s') (k : ∀ u s', EP X pins σ Q u s' → R u s') : PySem.W.CmpBack R u s' := by
  obtain ⟨v, H', I, r, q⟩ := id h
  cases u with
  | notImplemented =>
    cases v <;> simp [L2.RelV] at r
  | _ => exact k _ _ h
theorem inst_at {pins : List (Addr × Obj)} {σ : L2.St} {H : Hp} {s : Shared} {a dx : Addr} {fs : List (Str × V)} (I : Inv X pins σ H s) (e : H a = some (.ins C dx fs)) : s.heap.get? a = some (PySem.W.instObj C dx) ∧ ∃ od, PySem.W.InstAt s.heap a (PySem.W.instObj C dx) C (some od) := by
  obtain ⟨mA, J, _⟩ := ins_get I.hok e
  obtain ⟨od, J2, _⟩ := J.look
  exact ⟨J.obj, od, J2⟩
theorem bin1_own (o : AOp) (A : Arith X.K C) (O : OwnM X.prog X.w X.K X.mg X.base k C o.m ps sp) (hr : Room k X.A) (hx : Passes (L2N.CX X.prog X.w) X E)
    {pins : List (Addr × Obj)} {s : Shared} {σ : L2.St} {H : Hp} {x y : V} {v u : Value} {Q : VK} (I : Inv X pins σ H s) (rx : RelV x v) (ry : RelV y u) (h : rOwn C sp E x y H Q) :
    wpAny (model X.prog X.w) X.A (binaryOp1 o.op.info.2 v u) (fun r s' => ∃ z, r = some z ∧ EP X pins σ Q z s') X.xe s := by
  obtain ⟨a, dx, fs, rfl, ha, hy, hsp⟩ := h
  obtain rfl : v = Value.ref a := rx
  obtain ⟨f, fd, Fo, hm, hb⟩ := O.ex
  obtain ⟨_, od, J⟩ := inst_at I ha
  have h1 : PySem.W.findIn X.K (.ref C) (PySem.dunder o.op.info.2) = some (some (.ref f)) := by rw [o.em]; exact hm.at_
  obtain ⟨rc, h2, hrc⟩ : ∃ rc, PySem.W.findIn X.K (.ref C) (dunderR o.op.info.2) = some rc ∧ refOr rc = true := by
    rw [o.er]
    obtain ⟨a, b, c, q1, q2, q3⟩ := A.refl
    cases o
    · exact ⟨_, q1⟩
    · exact ⟨_, q2⟩
    · exact ⟨_, q3⟩
  have run := run_fn (us := [.ref a, u]) (vs := [.ref a, y]) (dvs := []) Fo hr hb .nil hx I (.cons rfl (.cons ry .nil)) hsp
  have run2 := wpAny_mono run (fun u s' q => back_of (R := fun v s' => ∃ z, some v = some z ∧ EP X pins σ Q z s') q fun v s' q => ⟨v, rfl, q⟩) fun _ _ e => e
  rcases hy with ⟨i, rfl⟩ | ⟨b, dy, gs, rfl, hb'⟩
  · obtain ⟨t, rfl⟩ := ry
    obtain ⟨fo, ro, e1, e2⟩ : ∃ fo ro, PySem.W.findIn X.K (.type "int") (PySem.dunder o.op.info.2) = some fo ∧ PySem.W.findIn X.K (.type "int") (dunderR o.op.info.2) = some ro := by
      rw [o.em, o.er]
      obtain ⟨p1, p2, p3, p4, p5, p6, q1, q2, q3, q4, q5, q6⟩ := A.ofInt
      cases o
      · exact ⟨_, _, q1, q2⟩
      · exact ⟨_, _, q3, q4⟩
      · exact ⟨_, _, q5, q6⟩
    exact bin1_int I.kIn J A.sf h1 hm.fn h2 (refOr_of hrc) e1 e2 A.s1 run2
  · obtain rfl : u = Value.ref b := ry
    obtain ⟨_, od', J'⟩ := inst_at I hb'
    exact bin1_same I.kIn J J'.type A.sf h1 hm.fn run2
theorem op_own (o : AOp) (A : Arith X.K C) (O : OwnM X.prog X.w X.K X.mg X.base k C o.m ps sp) (hr : Room k X.A) (hx : Passes (L2N.CX X.prog X.w) X E) : OpR X (binaryOp o.op) (rOwn C sp E) :=
  fun _ _ _ _ _ _ _ _ _ I rx ry h => bin_of1 (bin1_own o A O hr hx I rx ry h)
theorem iop_own (o : AOp) (A : Arith X.K C) (O : OwnM X.prog X.w X.K X.mg X.base k C o.m ps sp) (hr : Room k X.A) (hx : Passes (L2N.CX X.prog X.w) X E) : OpR X (inplaceOp o.op) (rOwn C sp E) := by
  intro pins s σ H x y v u Q I rx ry h
  have one := bin1_own o A O hr hx I rx ry h
  obtain ⟨a, dx, fs, rfl, ha, _, _⟩ := h
  obtain rfl : v = Value.ref a := rx
  obtain ⟨_, od, J⟩ := inst_at I ha
  obtain ⟨cd, hcd, hmro⟩ := A.mro
  refine inp_of1 J.type (no_inplace I.kIn hcd hmro ?_ ?_) one
  · rw [o.ei]
    cases o
    · exact A.ia.1
    · exact A.isb.1
    · exact A.im.1
  · rw [o.ei]
    cases o
    · exact A.ia.2
    · exact A.isb.2
    · exact A.im.2
theorem op_refl (o : AOp) (A : Arith X.K C) (R : OwnM X.prog X.w X.K X.mg X.base k C o.r ps sp) (hr : Room k X.A) (hx : Passes (L2N.CX X.prog X.w) X E) : OpR X (binaryOp o.op) (rRefl C sp E) := by
  intro pins s σ H x y v u Q I rx ry h
  obtain ⟨i, b, dy, gs, rfl, rfl, hb, hsp⟩ := h
  obtain ⟨t, rfl⟩ := rx
  obtain rfl : u = Value.ref b := ry
  obtain ⟨f, fd, Fo, hm, hbd⟩ := R.ex
  obtain ⟨hobj, od, J⟩ := inst_at I hb
  obtain ⟨g, h1⟩ : ∃ g : Addr, PySem.W.findIn X.K (.ref C) (PySem.dunder o.op.info.2) = some (some (.ref g)) := by
    rw [o.em]
    obtain ⟨a, b, c, q1, q2, q3⟩ := A.has
    cases o
    · exact ⟨_, q1⟩
    · exact ⟨_, q2⟩
    · exact ⟨_, q3⟩
  have h2 : PySem.W.findIn X.K (.ref C) (dunderR o.op.info.2) = some (some (.ref f)) := by rw [o.er]; exact hm.at_
  have run := run_fn (us := [.ref b, .int i t]) (vs := [.ref b, .int i]) (dvs := []) Fo hr hbd .nil hx I (.cons rfl (.cons ⟨t, rfl⟩ .nil)) hsp
  exact bin_of1 (bin1_refl I.kIn J A.sf h1 h2 hm.fn o.fills A.s2 (fun Q h => o.decl hobj Q h) (wpAny_mono run (fun u s' q => back_of (R := fun v s' => ∃ z, some v = some z ∧ EP X pins σ Q z s') q fun v s' q => ⟨v, rfl, q⟩) fun _ _ e => e))
theorem un_negOwn (O : OwnM X.prog X.w X.K X.mg X.base k C "__neg__" ps sp) (hr : Room k X.A) (hx : Passes (L2N.CX X.prog X.w) X E) : UnR X (unaryOp .USub) (rUna C sp E) := by
  intro pins s σ H x v Q I rx h
  obtain ⟨a, dx, fs, rfl, ha, hsp⟩ := h
  obtain rfl : v = Value.ref a := rx
  obtain ⟨f, fd, Fo, hm, hb⟩ := O.ex
  obtain ⟨_, od, J⟩ := inst_at I ha
  have run := run_fn (us := [.ref a]) (vs := [.ref a]) (dvs := []) Fo hr hb .nil hx I (.cons rfl .nil) hsp
  unfold unaryOp
  refine wpAny_holding ?_
  exact wpAny_bind (PySem.W.special_fn I.kIn J hm.at_ (beq_iff_eq.mp hm.fn) (wpAny_mono run (fun _ _ z => wpAny_pure z) fun _ _ z => z))
theorem call_absOwn (O : OwnM X.prog X.w X.K X.mg X.base k C "__abs__" ps sp) (hr : Room (k + 1) X.A) (hx : Passes (L2N.CX X.prog X.w) X E) : CallR X (.builtin "abs") (fun xs H Q => ∃ a dx fs, xs = [.ref a] ∧ H a = some (.ins C dx fs) ∧ sp [.ref a] H Q E) := by
  intro pins s σ H xs us Q I r h
  obtain ⟨a, dx, fs, rfl, ha, hsp⟩ := h
  obtain ⟨u, rfl, r1⟩ := vals1 r
  obtain rfl : u = Value.ref a := r1
  obtain ⟨f, fd, Fo, hm, hb⟩ := O.ex
  obtain ⟨_, od, J⟩ := inst_at I ha
  refine PySem.Calls.call_function_entry kind_abs plain_abs entry_abs (args_abs _) ?_
  unfold Builtin.«abs»
  refine wpAny_bind (m := oneArg "abs" _) (wpAny_pure ?_)
  refine wpAny_bind (m := callSpecial? (.ref a) (Str.ofString "__abs__")) ?_
  refine PySem.W.special_fn I.kIn J hm.at_ (beq_iff_eq.mp hm.fn) ?_
  have bd := hb s [.ref a] I.kIn (Fo.len _ _ _ _ hsp)
  refine wpAny_call (codeAny_mono (Fo.run X.A.in1 X.stack s H ⟨[.ref a], []⟩ [.ref a] [.ref a] Q E hr.in1 I.env0.in1 bd (.cons rfl .nil) hsp) fun r s' hq => ?_)
  cases r with
  | error e => exact hx pins σ H s e s' I hq
  | ok fl =>
    cases fl with
    | ret u => exact wpAny_pure ⟨_, rfl, I.after hq⟩
    | next => exact False.elim hq
    | brk => exact False.elim hq
    | cont => exact False.elim hq
end
/-! ### operators on ints, further -/
section
variable {X : Cx}
theorem op_mulI : OpR X (binaryOp .Mult) (rI IntMulOk fun i j => .int (i * j)) := opI fun _ _ _ _ _ _ _ hc q => mul_int q hc
def CDivA (_ j : Int) : Prop := j ≠ 0 ∧ j.natAbs.log2 < 9000
theorem op_fdivA : OpR X (binaryOp .FloorDiv) (rI CDivA fun i j => .int (i.fdiv j)) := opI fun i j _ _ _ _ _ hc q => floordiv_int hc.1 q (.inl (PyProof.noPylong_of_log2 hc.2))
end
theorem mok_l {i j : Int} (h : i.natAbs < 2 ^ 64) : IntMulOk i j := by
  have e : (2 : Nat) ^ 64 = 18446744073709551616 := by decide
  rw [e] at h
  exact CMul.ok (.inl ⟨by omega, by omega⟩)
theorem mok_r {i j : Int} (h : j.natAbs < 2 ^ 64) : IntMulOk i j := by
  have e : (2 : Nat) ^ 64 = 18446744073709551616 := by decide
  rw [e] at h
  exact CMul.ok (.inr ⟨by omega, by omega⟩)
theorem mok_w {i j : Int} {a b : Nat} (ha : i.natAbs < 2 ^ a) (hb : j.natAbs < 2 ^ b) (h0 : 0 < a := by decide) (h1 : 0 < b := by decide) (h : a + b ≤ 1000000 := by decide) : IntMulOk i j := CMulW.ok (wide_mul ha hb h0 h1 h)
theorem une {H : Hp} {a p : Addr} {o u : HO} (n : a ≠ p) (h : H a = some o) : upd H p u a = some o := by rw [upd_ne n]; exact h
theorem sqL_of {K : PySem.W.Frag} {H : Hp} {a : Addr} {xs : List V} (h : H a = some (.lst xs)) : SqL K H a xs := SqL.of h
theorem ix_c {xs : List V} {z : Int} {v : V} (h : xs[z.toNat]? = some v) (h0 : 0 ≤ z := by decide) : atI xs z = some v := at_of (Int.toNat_of_nonneg h0).symm h

/-! ### tests whose outcome is open -/
theorem iteI {i j : Int} {A B : Prop} (h1 : i = j → A) (h2 : i ≠ j → B) : if decide (V.int i = V.int j) = true then A else B := by
  by_cases e : i = j
  · rw [decide_eq_true (congrArg V.int e)]
    exact iteT (h1 e)
  · rw [decide_eq_false fun z => e (V.int.inj z)]
    exact iteF (h2 e)
theorem iteIn {i j : Int} {A B : Prop} (h1 : i ≠ j → A) (h2 : i = j → B) : if (!decide (V.int i = V.int j)) = true then A else B := by
  by_cases e : i = j
  · rw [decide_eq_true (congrArg V.int e)]
    exact iteF (h2 e)
  · rw [decide_eq_false fun z => e (V.int.inj z)]
    exact iteT (h1 e)
theorem iteD {p : Prop} [Decidable p] {A B : Prop} (h1 : p → A) (h2 : ¬ p → B) : if decide p = true then A else B := by
  by_cases e : p
  · rw [decide_eq_true e]
    exact iteT (h1 e)
  · rw [decide_eq_false e]
    exact iteF (h2 e)
theorem iteDn {p : Prop} [Decidable p] {A B : Prop} (h1 : ¬ p → A) (h2 : p → B) : if (!decide p) = true then A else B := by
  by_cases e : p
  · rw [decide_eq_true e]
    exact iteF (h2 e)
  · rw [decide_eq_false e]
    exact iteT (h1 e)
theorem iteZ {y : Int} {A B : Prop} (h1 : y ≠ 0 → A) (h2 : y = 0 → B) : if (y != 0) = true then A else B := by
  by_cases e : y = 0
  · subst e
    exact iteF (h2 rfl)
  · rw [bne_iff_ne.mpr e]
    exact iteT (h1 e)
theorem iteDT {p : Prop} [Decidable p] {A B : Prop} (h : p) (a : A) : if decide p = true then A else B := iteD (fun _ => a) fun n => absurd h n
theorem iteDF {p : Prop} [Decidable p] {A B : Prop} (h : ¬ p) (a : B) : if decide p = true then A else B := iteD (fun n => absurd n h) fun _ => a
theorem iteDnT {p : Prop} [Decidable p] {A B : Prop} (h : p) (a : B) : if (!decide p) = true then A else B := iteDn (fun n => absurd h n) fun _ => a
theorem line_le {n : Nat} (h : n ≤ 16777216) : n ≤ sizeLine := by
  rw [sizeLine_eq]
  exact h

/-! ### the law's bag: what is drawn from it is any number below the size -/
/-- a bag stands at b, its script at L -/
def Bag (H : Hp) (L b : Addr) : Prop := ∃ (ns : List Int) (i : Nat) (big mix cnt : Int), H b = some (.lst [.ref L, .int i, .int big, .int mix, .int cnt]) ∧ H L = some (.lst (ns.map V.int)) ∧ L ≠ b
theorem Bag.same {H H' : Hp} {L b : Addr} (s : Same H H') (h : Bag H L b) : Bag H' L b := by
  obtain ⟨ns, i, big, mix, cnt, h1, h2, h3⟩ := h
  exact ⟨ns, i, big, mix, cnt, s _ _ h1, s _ _ h2, h3⟩
theorem Bag.some {H : Hp} {L b : Addr} (h : Bag H L b) : H b ≠ none := by
  obtain ⟨ns, i, big, mix, cnt, h1, h2, h3⟩ := h
  rw [h1]
  exact fun z => nomatch z
theorem Bag.someL {H : Hp} {L b : Addr} (h : Bag H L b) : H L ≠ none := by
  obtain ⟨ns, i, big, mix, cnt, h1, h2, h3⟩ := h
  rw [h2]
  exact fun z => nomatch z
/-- what was made behind the bag stands apart from it -/
theorem Bag.ne {H : Hp} {L b p : Addr} (h : Bag H L b) (n : H p = none) : p ≠ b := fun e => h.some (e ▸ n)
theorem Bag.neL {H : Hp} {L b p : Addr} (h : Bag H L b) (n : H p = none) : p ≠ L := fun e => h.someL (e ▸ n)
/-- another object was changed -/
theorem Bag.keep {H H' : Hp} {L b p : Addr} (h : Bag H L b) (k : Keep p H H') (n : p ≠ b) (n2 : p ≠ L) : Bag H' L b := by
  obtain ⟨ns, i, big, mix, cnt, h1, h2, h3⟩ := h
  exact ⟨ns, i, big, mix, cnt, k _ _ h1 n.symm, k _ _ h2 n2.symm, h3⟩
theorem Bag.mk {H : Hp} {L b : Addr} {ns : List Int} {i : Nat} {big mix cnt : Int} (hb : H b = Option.some (.lst [.ref L, .int i, .int big, .int mix, .int cnt])) (hL : H L = Option.some (.lst (ns.map V.int))) (n : L ≠ b) : Bag H L b :=
  ⟨ns, i, big, mix, cnt, hb, hL, n⟩

/-! ### fields by name -/
theorem lk0 {a : Str} {v : V} {r : List (Str × V)} : ((a, v) :: r).lookup a = some v := by simp [List.lookup]
theorem lk1 {a b : Str} {u : V} {o : Option V} {r : List (Str × V)} (h : (b == a) = false) (k : r.lookup b = o) : ((a, u) :: r).lookup b = o := by
  simp only [List.lookup, h]
  exact k
theorem lkn {b : Str} : ([] : List (Str × V)).lookup b = none := rfl
theorem putF_nil {f : Str} {v : V} : putF f v [] = [(f, v)] := rfl
theorem putF_ne {f g : Str} {u v : V} {r : List (Str × V)} (h : ¬ g = f) : putF f v ((g, u) :: r) = (g, u) :: putF f v r := if_neg h
theorem putF_eq {f : Str} {u v : V} {r : List (Str × V)} : putF f v ((f, u) :: r) = (f, v) :: r := if_pos rfl
theorem same_made {H H2 : Hp} {x dx C : Addr} (nx : H x = none) (nd : H dx = none) (ne : dx ≠ x) (k : Keep x (upd (upd H dx (.own x)) x (.ins C dx [])) H2) : Same H H2 := fun a o e => by
  have n1 := ne_of_none e nx
  have n2 := ne_of_none e nd
  exact k a o (by rw [upd_ne n1, upd_ne n2]; exact e) n1

/-! ### an own exception class, made without arguments -/
theorem pmk_own0 {X : Cx} {C : Addr} {bmB : List Value} {B newId initId : String} {x : Str} {p pos : Pos} (F : ExcBaseFacts B newId initId bmB) (q : PySem.W.excIn X.K C bmB newId = true) (gC : X.mg x = some (.ref C))
    (kC : PySem.W.keepIn X.K (.ref C) = true) (r : Raises X (.ref C)) (hg : Gl X x) (hdb : (x == ("__debug__" : Str)) = false := by decide) : L2N.PMk X (.Call (.Name x p) [] [] pos) (fun _ H Q => Q (.ref C) none H) := by
  intro pins s σ H Q I h
  refine wpAny_Call_Name_kw (ld_glob I hg gC ?_ hdb)
  refine PySem.W.callWith_K0 I.kIn kC ?_
  obtain ⟨bm, N, nm, qn, bs, hdct, sn, sub, ab, col, dd, k0, k1, k2, k3, k5, mN, hC, hN, hni, T⟩ := exc_obj I.kIn q
  refine wpAny_call_exc_subT F T hC hN hni (fun h' e hm => ?_) (Nat.zero_le _)
  exact L2N.mk_of I hm r h (I.hok.gone hm.new)

theorem erase_perm {α : Type} : ∀ {l : List α} {i : Nat} (h : i < l.length), (l[i] :: l.eraseIdx i).Perm l
  | a :: l, 0, _ => .refl _
  | a :: l, i + 1, h => by
    have ih := erase_perm (l := l) (i := i) (by simpa using h)
    simp only [List.getElem_cons_succ, List.eraseIdx_cons_succ]
    exact (List.Perm.swap _ _ _).trans (.cons _ ih)
/-! ### numbers in lowest terms -/
/-- a / b in lowest terms -/
def nrmC (a b : Int) : Int := if b < 0 then -((Nat.gcd a.natAbs b.natAbs : Nat) : Int) else ((Nat.gcd a.natAbs b.natAbs : Nat) : Int)
def nrm (a b : Int) : Int × Int := (a.fdiv (nrmC a b), b.fdiv (nrmC a b))
theorem nrmC_ne {a b : Int} (h : b ≠ 0) : nrmC a b ≠ 0 := by
  have g : 0 < Nat.gcd a.natAbs b.natAbs := Nat.gcd_pos_of_pos_right _ (by omega)
  unfold nrmC
  split <;> omega
theorem nrmC_abs {a b : Int} : (nrmC a b).natAbs = Nat.gcd a.natAbs b.natAbs := by
  unfold nrmC
  split <;> omega
theorem nrmC_log {a b : Int} (h : b ≠ 0) (hb : b.natAbs.log2 < 9000) : (nrmC a b).natAbs.log2 < 9000 := by
  rw [nrmC_abs]
  have g : Nat.gcd a.natAbs b.natAbs ≤ b.natAbs := Nat.gcd_le_right _ (by omega)
  have hb2 : b.natAbs < 2 ^ 9000 := (Nat.log2_lt (by omega)).mp hb
  exact (Nat.log2_lt (by have := Nat.gcd_pos_of_pos_right a.natAbs (show 0 < b.natAbs by omega); omega)).mpr (Nat.lt_of_le_of_lt g hb2)
theorem nrmC_dvd_a {a b : Int} : nrmC a b ∣ a := by
  have h : ((Nat.gcd a.natAbs b.natAbs : Nat) : Int) ∣ a := Int.ofNat_dvd_left.mpr (Nat.gcd_dvd_left _ _)
  unfold nrmC
  split
  · exact Int.neg_dvd.mpr h
  · exact h
theorem nrmC_dvd_b {a b : Int} : nrmC a b ∣ b := by
  have h : ((Nat.gcd a.natAbs b.natAbs : Nat) : Int) ∣ b := Int.ofNat_dvd_left.mpr (Nat.gcd_dvd_right _ _)
  unfold nrmC
  split
  · exact Int.neg_dvd.mpr h
  · exact h
theorem fdiv_mul {a c : Int} (h : c ∣ a) : a.fdiv c * c = a := Int.fdiv_mul_cancel h
theorem nrm_a {a b : Int} : (nrm a b).1 * nrmC a b = a := fdiv_mul nrmC_dvd_a
theorem nrm_b {a b : Int} : (nrm a b).2 * nrmC a b = b := fdiv_mul nrmC_dvd_b
/-- in lowest terms -/
structure Red (t b : Int) : Prop where
  pos : 0 < b
  cop : Nat.gcd t.natAbs b.natAbs = 1
theorem nrm_red {a b : Int} (h : b ≠ 0) : Red (nrm a b).1 (nrm a b).2 := by
  have e1 := nrm_a (a := a) (b := b)
  have e2 := nrm_b (a := a) (b := b)
  have hc := nrmC_ne (a := a) h
  refine ⟨?_, ?_⟩
  · have s : (0 < b ∧ 0 < nrmC a b) ∨ (b < 0 ∧ nrmC a b < 0) := by
      have g : 0 < Nat.gcd a.natAbs b.natAbs := Nat.gcd_pos_of_pos_right _ (by omega)
      unfold nrmC
      split <;> omega
    rcases s with ⟨s1, s2⟩ | ⟨s1, s2⟩
    · exact Int.pos_of_mul_pos_left (by rw [e2]; exact s1) s2
    · refine Int.pos_of_mul_pos_left (b := -nrmC a b) ?_ (by omega)
      rw [Int.mul_neg, e2]
      omega
  · have g : 0 < Nat.gcd a.natAbs b.natAbs := Nat.gcd_pos_of_pos_right _ (by omega)
    have f1 : (nrm a b).1.natAbs * Nat.gcd a.natAbs b.natAbs = a.natAbs := by
      have := congrArg Int.natAbs e1
      rw [Int.natAbs_mul, nrmC_abs] at this
      exact this
    have f2 : (nrm a b).2.natAbs * Nat.gcd a.natAbs b.natAbs = b.natAbs := by
      have := congrArg Int.natAbs e2
      rw [Int.natAbs_mul, nrmC_abs] at this
      exact this
    have f3 : Nat.gcd ((nrm a b).1.natAbs * Nat.gcd a.natAbs b.natAbs) ((nrm a b).2.natAbs * Nat.gcd a.natAbs b.natAbs) = Nat.gcd a.natAbs b.natAbs := by rw [f1, f2]
    rw [Nat.gcd_mul_right] at f3
    exact Nat.eq_of_mul_eq_mul_right g (by rw [f3, Nat.one_mul])
theorem nrm_cross {a b : Int} : (nrm a b).1 * b = a * (nrm a b).2 := by
  have e1 := nrm_a (a := a) (b := b)
  have e2 := nrm_b (a := a) (b := b)
  have h : (nrm a b).1 * ((nrm a b).2 * nrmC a b) = (nrm a b).1 * nrmC a b * (nrm a b).2 := by
    rw [Int.mul_assoc, Int.mul_comm (nrmC a b)]
  rw [e1, e2] at h
  exact h
theorem Red.uniq {t b t' b' : Int} (h : Red t b) (h' : Red t' b') (e : t * b' = t' * b) : t = t' ∧ b = b' := by
  have hb := h.pos
  have hb' := h'.pos
  have f : t.natAbs * b'.natAbs = t'.natAbs * b.natAbs := by
    have := congrArg Int.natAbs e
    rw [Int.natAbs_mul, Int.natAbs_mul] at this
    exact this
  have c : Nat.Coprime b.natAbs t.natAbs := (Nat.gcd_comm _ _).trans h.cop
  have c' : Nat.Coprime b'.natAbs t'.natAbs := (Nat.gcd_comm _ _).trans h'.cop
  have d1 : b.natAbs ∣ b'.natAbs := c.dvd_of_dvd_mul_left ⟨t'.natAbs, by rw [f, Nat.mul_comm]⟩
  have d2 : b'.natAbs ∣ b.natAbs := c'.dvd_of_dvd_mul_left ⟨t.natAbs, by rw [← f, Nat.mul_comm]⟩
  have eb : b = b' := by
    have := Nat.dvd_antisymm d1 d2
    omega
  subst eb
  exact ⟨Int.eq_of_mul_eq_mul_right (by omega) e, rfl⟩
/-- which fraction stands for the number doesn't matter -/
theorem nrm_same {a b c d : Int} (hb : b ≠ 0) (hd : d ≠ 0) (e : a * d = c * b) : nrm a b = nrm c d := by
  have h1 := nrm_cross (a := a) (b := b)
  have h2 := nrm_cross (a := c) (b := d)
  have k : (nrm a b).1 * (nrm c d).2 = (nrm c d).1 * (nrm a b).2 := by
    refine Int.eq_of_mul_eq_mul_right (a := b * d) (Int.mul_ne_zero hb hd) ?_
    calc (nrm a b).1 * (nrm c d).2 * (b * d) = ((nrm a b).1 * b) * (d * (nrm c d).2) := by ac_rfl
      _ = (a * (nrm a b).2) * (d * (nrm c d).2) := by rw [h1]
      _ = (a * d) * ((nrm a b).2 * (nrm c d).2) := by ac_rfl
      _ = (c * b) * ((nrm a b).2 * (nrm c d).2) := by rw [e]
      _ = (c * (nrm c d).2) * ((nrm a b).2 * b) := by ac_rfl
      _ = ((nrm c d).1 * d) * ((nrm a b).2 * b) := by rw [h2]
      _ = (nrm c d).1 * (nrm a b).2 * (b * d) := by ac_rfl
  obtain ⟨e1, e2⟩ := (nrm_red hb).uniq (nrm_red hd) k
  exact Prod.ext e1 e2
theorem nrm_id {t b : Int} (h : Red t b) : nrm t b = (t, b) := by
  have hb := h.pos
  obtain ⟨e1, e2⟩ := (nrm_red (a := t) (b := b) (by omega)).uniq h nrm_cross
  exact Prod.ext e1 e2
theorem red_one {t : Int} : Red t 1 := ⟨by decide, by simp⟩
theorem nrm_one {t : Int} : nrm t 1 = (t, 1) := nrm_id red_one

theorem nrm_zero {a b : Int} (h : b ≠ 0) : (nrm a b).1 = 0 ↔ a = 0 := by
  have e := nrm_a (a := a) (b := b)
  have c := nrmC_ne (a := a) h
  constructor
  · intro z
    rw [z, Int.zero_mul] at e
    exact e.symm
  · intro z
    rw [z] at e
    rcases Int.mul_eq_zero.mp e with u | u
    · rw [z]
      exact u
    · rw [z] at c
      exact absurd u c
theorem nrm_ne {a b : Int} (h : b ≠ 0) : (nrm a b).2 ≠ 0 := by
  have := (nrm_red (a := a) h).pos
  omega
/-- a quotient of numbers in lowest terms -/
theorem nrm_over {a b c d : Int} (hb : b ≠ 0) (hd : d ≠ 0) (hc : c ≠ 0) : nrm ((nrm a b).1 * (nrm c d).2) ((nrm a b).2 * (nrm c d).1) = nrm (a * d) (b * c) := by
  have h1 := nrm_cross (a := a) (b := b)
  have h2 := nrm_cross (a := c) (b := d)
  have n1 := nrm_ne (a := a) hb
  have n2 : (nrm c d).1 ≠ 0 := fun z => hc ((nrm_zero hd).mp z)
  refine nrm_same (Int.mul_ne_zero n1 n2) (Int.mul_ne_zero hb hc) ?_
  calc (nrm a b).1 * (nrm c d).2 * (b * c) = ((nrm a b).1 * b) * (c * (nrm c d).2) := by ac_rfl
    _ = (a * (nrm a b).2) * ((nrm c d).1 * d) := by rw [h1, h2]
    _ = a * d * ((nrm a b).2 * (nrm c d).1) := by ac_rfl

/-! ### Ratios -/
/-- the ratio t / b stands at p -/
def RatAt (ca : Nat → Addr) (H : Hp) (p : Addr) (t b : Int) : Prop := Red t b ∧ ∃ dx, H p = some (.ins (ca 2) dx [("top", .int t), ("bottom", .int b)])
theorem RatAt.same {ca : Nat → Addr} {H H' : Hp} {p : Addr} {t b : Int} (h : RatAt ca H p t b) (s : Same H H') : RatAt ca H' p t b := ⟨h.1, let ⟨dx, e⟩ := h.2; ⟨dx, s _ _ e⟩⟩
/-- a number: an int, or a ratio -/
def NumV (ca : Nat → Addr) (H : Hp) (x : V) (t b : Int) : Prop := (x = .int t ∧ b = 1) ∨ ∃ p, x = .ref p ∧ RatAt ca H p t b
theorem NumV.same {ca : Nat → Addr} {H H' : Hp} {x : V} {t b : Int} (h : NumV ca H x t b) (s : Same H H') : NumV ca H' x t b :=
  h.imp id fun ⟨p, e, r⟩ => ⟨p, e, r.same s⟩
theorem NumV.red {ca : Nat → Addr} {H : Hp} {x : V} {t b : Int} (h : NumV ca H x t b) : Red t b := by
  rcases h with ⟨_, rfl⟩ | ⟨p, _, r⟩
  · exact red_one
  · exact r.1
theorem kit_self {K : PySem.W.Frag} {v : Value} : PySem.W.kitOne K v v = some true := if_pos (beq_iff_eq.mpr rfl)
theorem put_rat {x y : V} : putF "bottom" y (putF "top" x []) = ([("top", x), ("bottom", y)] : List (Str × V)) := by
  rw [putF_nil, putF_ne (by decide +kernel), putF_nil]
theorem lt164 {z : Int} (h0 : -(10 ^ 49 + 2) < z) (h : z < 10 ^ 49 + 2) : z.natAbs < 2 ^ 164 := by
  have e : (2 : Nat) ^ 164 = 23384026197294446691258957323460528314494920687616 := by decide
  have e2 : (10 : Int) ^ 49 = 10000000000000000000000000000000000000000000000000 := by decide
  rw [e]
  rw [e2] at h0 h
  omega
theorem lg164 {z : Int} (h : z.natAbs < 2 ^ 164) : z.natAbs.log2 < 9000 := Nat.lt_trans (PySem.Flt.log2_lt_of (by decide) h) (by decide)
theorem RatAt.mk {ca : Nat → Addr} {H : Hp} {p dx : Addr} {t b : Int} (h : Red t b) (e : H p = some (.ins (ca 2) dx [("top", .int (nrm t b).1), ("bottom", .int (nrm t b).2)])) : RatAt ca H p t b := by
  rw [nrm_id h] at e
  exact ⟨h, dx, e⟩
theorem RatAt.of {ca : Nat → Addr} {H : Hp} {p dx : Addr} {t b : Int} (h : b ≠ 0) (e : H p = some (.ins (ca 2) dx [("top", .int (nrm t b).1), ("bottom", .int (nrm t b).2)])) : RatAt ca H p (nrm t b).1 (nrm t b).2 := ⟨nrm_red h, dx, e⟩
theorem nrm_le1 {a b : Int} (h : b ≠ 0) : (nrm a b).1.natAbs ≤ a.natAbs := by
  have e := congrArg Int.natAbs (nrm_a (a := a) (b := b))
  rw [Int.natAbs_mul] at e
  have c : 0 < (nrmC a b).natAbs := by have := nrmC_ne (a := a) h; omega
  rw [← e]
  exact Nat.le_mul_of_pos_right _ c
theorem nrm_le2 {a b : Int} (h : b ≠ 0) : (nrm a b).2.natAbs ≤ b.natAbs := by
  have e := congrArg Int.natAbs (nrm_b (a := a) (b := b))
  rw [Int.natAbs_mul] at e
  have c : 0 < (nrmC a b).natAbs := by have := nrmC_ne (a := a) h; omega
  rw [← e]
  exact Nat.le_mul_of_pos_right _ c
/-- a pair of ints in lowest terms, none of them large -/
structure TupR (H : Hp) (p : Addr) (t b : Int) : Prop where
  red : Red t b
  st : t.natAbs < 2 ^ 170
  sb : b.natAbs < 2 ^ 170
  at_ : H p = some (.tup [.int t, .int b])
theorem tup_ne {H : Hp} {L b p : Addr} {xs : List V} (B : Bag H L b) (e : H p = some (.tup xs)) : p ≠ b := by
  obtain ⟨ns, i, big, mix, cnt, h1, _⟩ := B
  exact ne_of e h1 fun z => nomatch z
theorem TupR.keep {H H' : Hp} {L b p : Addr} {t u : Int} (h : TupR H p t u) (B : Bag H L b) (k : Keep b H H') : TupR H' p t u := ⟨h.red, h.st, h.sb, k _ _ h.at_ (tup_ne B h.at_)⟩
theorem TupR.same {H H' : Hp} {p : Addr} {t u : Int} (h : TupR H p t u) (s : Same H H') : TupR H' p t u := ⟨h.red, h.st, h.sb, s _ _ h.at_⟩
theorem TupR.of {H : Hp} {p : Addr} {a b : Int} (hb : b ≠ 0) (sa : a.natAbs < 2 ^ 164) (sb : b.natAbs < 2 ^ 164) (e : H p = some (.tup [.int (nrm a b).1, .int (nrm a b).2])) : TupR H p (nrm a b).1 (nrm a b).2 :=
  ⟨nrm_red hb, Nat.lt_of_le_of_lt (nrm_le1 hb) (Nat.lt_trans sa (by decide)), Nat.lt_of_le_of_lt (nrm_le2 hb) (Nat.lt_trans sb (by decide)), e⟩
theorem lg170 {z : Int} (h : z.natAbs < 2 ^ 170) : z.natAbs.log2 < 9000 := Nat.lt_trans (PySem.Flt.log2_lt_of (by decide) h) (by decide)
theorem m170 {x y : Int} (h : x.natAbs < 2 ^ 170) (h2 : y.natAbs < 2 ^ 170) : IntMulOk x y := mok_w h h2
theorem eqv2 {a b c d : Int} : PyData.eqv (.tuple [.int a, .int b]) (.tuple [.int c, .int d]) = decide (a = c ∧ b = d) := by
  by_cases h1 : a = c <;> by_cases h2 : b = d <;> simp [PyData.eqv, PyData.eqvAll, h1, h2]
/-- two pairs of ints, compared -/
theorem eqT {K : PySem.W.Frag} {H : Hp} {p q : Addr} {a b c d : Int} {Q : VK} (hp : H p = some (.tup [.int a, .int b])) (hq : H q = some (.tup [.int c, .int d])) (k : Q (.bl (decide (a = c ∧ b = d))) H) : rEqD K (.ref p) (.ref q) H Q := by
  refine ⟨.tuple [.int a, .int b], .tuple [.int c, .int d], .tup (SqT.of hp) (.cons (.int _) (.cons (.int _) .nil)), .tup (SqT.of hq) (.cons (.int _) (.cons (.int _) .nil)), rfl, rfl, ?_⟩
  rw [eqv2]
  exact k
theorem neT {K : PySem.W.Frag} {H : Hp} {p q : Addr} {a b c d : Int} {Q : VK} (hp : H p = some (.tup [.int a, .int b])) (hq : H q = some (.tup [.int c, .int d])) (k : Q (.bl (!decide (a = c ∧ b = d))) H) : rNeD K (.ref p) (.ref q) H Q := by
  refine ⟨.tuple [.int a, .int b], .tuple [.int c, .int d], .tup (SqT.of hp) (.cons (.int _) (.cons (.int _) .nil)), .tup (SqT.of hq) (.cons (.int _) (.cons (.int _) .nil)), rfl, rfl, ?_⟩
  rw [eqv2]
  exact k
theorem iteNv {x y : V} {A B : Prop} (h : x = y) (b : B) : if (!decide (x = y)) = true then A else B := by
  rw [decide_eq_true h]
  exact iteF b
def dueN (w a0 a1 b0 b1 : Int) : Int × Int := if w = 0 then (a0, b0) else if w = 1 then (a0 * b1, a1 * b0) else if w = 2 then (a0, a1 * b0) else (a0 * b1, b0)
theorem due_ne {w a0 a1 b0 b1 : Int} (h1 : a1 ≠ 0) (h3 : b1 ≠ 0) (h2 : b0 ≠ 0) : (dueN w a0 a1 b0 b1).2 ≠ 0 := by
  unfold dueN
  split
  · exact h2
  · split
    · exact Int.mul_ne_zero h1 h2
    · split
      · exact Int.mul_ne_zero h1 h2
      · exact h2
theorem due_log {w a0 a1 b0 b1 : Int} (s1 : a1.natAbs < 2 ^ 170) (s2 : b0.natAbs < 2 ^ 170) (_ : b1.natAbs < 2 ^ 170) : (dueN w a0 a1 b0 b1).2.natAbs.log2 < 9000 := by
  have m3 : (a1 * b0).natAbs.log2 < 9000 := Nat.lt_trans (PySem.Flt.log2_lt_of (by decide) (wide_lt s1 s2)) (by decide)
  unfold dueN
  split
  · exact lg170 s2
  · split
    · exact m3
    · split
      · exact m3
      · exact lg170 s2
/-! ### sizes -/
def Sz (n : Nat) (z : Int) : Prop := z.natAbs < 2 ^ n
theorem Sz.mono {n m : Nat} {z : Int} (h : Sz n z) (l : n ≤ m := by decide) : Sz m z := Nat.lt_of_lt_of_le h (Nat.pow_le_pow_right (by decide) l)
theorem Sz.mul {n m : Nat} {x y : Int} (h : Sz n x) (k : Sz m y) : Sz (n + m) (x * y) := by
  unfold Sz
  rw [Int.natAbs_mul, Nat.pow_add]
  exact Nat.mul_lt_mul_of_lt_of_le h (Nat.le_of_lt k) (Nat.two_pow_pos _)
theorem Sz.add {n m : Nat} {x y : Int} (h : Sz n x) (k : Sz m y) : Sz (n + m + 1) (x + y) := by
  unfold Sz at *
  have a : 2 ^ n ≤ 2 ^ (n + m) := Nat.pow_le_pow_right (by decide) (Nat.le_add_right _ _)
  have b : 2 ^ m ≤ 2 ^ (n + m) := Nat.pow_le_pow_right (by decide) (Nat.le_add_left _ _)
  rw [Nat.pow_succ]
  omega
/-- both of the same size -/
theorem Sz.add' {n : Nat} {x y : Int} (h : Sz n x) (k : Sz n y) : Sz (n + 1) (x + y) := by
  unfold Sz at *
  rw [Nat.pow_succ]
  omega
theorem Sz.neg {n : Nat} {x : Int} (h : Sz n x) : Sz n (-x) := by
  unfold Sz at *
  omega
theorem Sz.sub {n m : Nat} {x y : Int} (h : Sz n x) (k : Sz m y) : Sz (n + m + 1) (x - y) := by
  rw [Int.sub_eq_add_neg]
  exact h.add k.neg
theorem Sz.sub' {n : Nat} {x y : Int} (h : Sz n x) (k : Sz n y) : Sz (n + 1) (x - y) := by
  unfold Sz at *
  rw [Nat.pow_succ]
  omega
theorem Sz.lg {n : Nat} {x : Int} (h : Sz n x) (l : n ≤ 8999 := by decide) (l0 : 0 < n := by decide) : x.natAbs.log2 < 9000 :=
  Nat.lt_of_lt_of_le (PySem.Flt.log2_lt_of l0 h) (Nat.le_succ_of_le l)
theorem Sz.mok {n m : Nat} {x y : Int} (h : Sz n x) (k : Sz m y) (h0 : 0 < n := by decide) (h1 : 0 < m := by decide) (l : n + m ≤ 1000000 := by decide) : IntMulOk x y := mok_w h k h0 h1 l
theorem Sz.le {n : Nat} {x y : Int} (h : Sz n x) (l : y.natAbs ≤ x.natAbs) : Sz n y := Nat.lt_of_le_of_lt l h
theorem Sz.one : Sz 1 1 := show (1 : Int).natAbs < 2 ^ 1 by decide
theorem Sz.zero : Sz 1 0 := show (0 : Int).natAbs < 2 ^ 1 by decide

/-! ### fractions, and the ratios that stand for them -/
theorem nrm_add {a b c d : Int} (hb : b ≠ 0) (hd : d ≠ 0) : nrm ((nrm a b).1 * (nrm c d).2 + (nrm c d).1 * (nrm a b).2) ((nrm a b).2 * (nrm c d).2) = nrm (a * d + c * b) (b * d) := by
  have h1 := nrm_cross (a := a) (b := b)
  have h2 := nrm_cross (a := c) (b := d)
  refine nrm_same (Int.mul_ne_zero (nrm_ne hb) (nrm_ne hd)) (Int.mul_ne_zero hb hd) ?_
  rw [Int.add_mul, Int.add_mul]
  congr 1
  · calc (nrm a b).1 * (nrm c d).2 * (b * d) = ((nrm a b).1 * b) * (d * (nrm c d).2) := by ac_rfl
      _ = a * (nrm a b).2 * (d * (nrm c d).2) := by rw [h1]
      _ = a * d * ((nrm a b).2 * (nrm c d).2) := by ac_rfl
  · calc (nrm c d).1 * (nrm a b).2 * (b * d) = ((nrm c d).1 * d) * (b * (nrm a b).2) := by ac_rfl
      _ = c * (nrm c d).2 * (b * (nrm a b).2) := by rw [h2]
      _ = c * b * ((nrm a b).2 * (nrm c d).2) := by ac_rfl
theorem nrm_neg {a b : Int} (hb : b ≠ 0) : nrm (-a) b = (-(nrm a b).1, (nrm a b).2) := by
  have h1 := nrm_cross (a := a) (b := b)
  have r := nrm_red (a := a) hb
  rw [← nrm_id (t := -(nrm a b).1) (b := (nrm a b).2) ⟨r.pos, by rw [Int.natAbs_neg]; exact r.cop⟩]
  refine nrm_same hb (nrm_ne hb) ?_
  rw [Int.neg_mul, Int.neg_mul, h1]
theorem nrm_sub {a b c d : Int} (hb : b ≠ 0) (hd : d ≠ 0) : nrm ((nrm a b).1 * (nrm c d).2 - (nrm c d).1 * (nrm a b).2) ((nrm a b).2 * (nrm c d).2) = nrm (a * d - c * b) (b * d) := by
  have h := nrm_add (a := a) (c := -c) hb hd
  rw [nrm_neg hd] at h
  simp only [Int.neg_mul, ← Int.sub_eq_add_neg] at h
  exact h
theorem nrm_mul {a b c d : Int} (hb : b ≠ 0) (hd : d ≠ 0) : nrm ((nrm a b).1 * (nrm c d).1) ((nrm a b).2 * (nrm c d).2) = nrm (a * c) (b * d) := by
  have h1 := nrm_cross (a := a) (b := b)
  have h2 := nrm_cross (a := c) (b := d)
  refine nrm_same (Int.mul_ne_zero (nrm_ne hb) (nrm_ne hd)) (Int.mul_ne_zero hb hd) ?_
  calc (nrm a b).1 * (nrm c d).1 * (b * d) = ((nrm a b).1 * b) * ((nrm c d).1 * d) := by ac_rfl
    _ = a * (nrm a b).2 * (c * (nrm c d).2) := by rw [h1, h2]
    _ = a * c * ((nrm a b).2 * (nrm c d).2) := by ac_rfl
/-- the amount of a number -/
def iab (a : Int) : Int := if a < 0 then -a else a
theorem iab_nat {a : Int} : iab a = (a.natAbs : Int) := by unfold iab; split <;> omega
theorem Sz.iab {n : Nat} {x : Int} (h : Sz n x) : Sz n (iab x) := h.le (by rw [iab_nat]; exact Nat.le_of_eq (Int.natAbs_natCast _))
theorem nrm_abs {a b : Int} (hb : b ≠ 0) : nrm (iab (nrm a b).1) (nrm a b).2 = nrm (iab a) (iab b) := by
  have h1 := congrArg Int.natAbs (nrm_cross (a := a) (b := b))
  have r := nrm_red (a := a) hb
  rw [Int.natAbs_mul, Int.natAbs_mul] at h1
  have e : ((nrm a b).2.natAbs : Int) = (nrm a b).2 := Int.natAbs_of_nonneg (Int.le_of_lt r.pos)
  refine nrm_same (nrm_ne hb) (by rw [iab_nat]; omega) ?_
  rw [iab_nat, iab_nat, iab_nat, ← e, ← Int.natCast_mul, ← Int.natCast_mul, h1]
/-- the ratio of a / b stands at p -/
structure RatQ (ca : Nat → Addr) (H : Hp) (p : Addr) (a b : Int) : Prop where
  ne : b ≠ 0
  at_ : RatAt ca H p (nrm a b).1 (nrm a b).2
theorem RatQ.same {ca : Nat → Addr} {H H' : Hp} {p : Addr} {a b : Int} (h : RatQ ca H p a b) (s : Same H H') : RatQ ca H' p a b := ⟨h.ne, h.at_.same s⟩
theorem rsame {ca : Nat → Addr} {H H' : Hp} {p : Addr} {a b : Int} (s : Same H H') (h : RatQ ca H p a b) : RatQ ca H' p a b := h.same s
theorem strans {H H1 H2 : Hp} (t : Same H1 H2) (s : Same H H1) : Same H H2 := s.trans t
theorem RatQ.to {ca : Nat → Addr} {H : Hp} {p : Addr} {a b c d : Int} (h : RatQ ca H p a b) (hd : d ≠ 0) (e : a * d = c * b) : RatQ ca H p c d := ⟨hd, by rw [← nrm_same h.ne hd e]; exact h.at_⟩
theorem RatQ.ins {ca : Nat → Addr} {H : Hp} {p : Addr} {a b : Int} (h : RatQ ca H p a b) : ∃ dx, H p = some (.ins (ca 2) dx [("top", .int (nrm a b).1), ("bottom", .int (nrm a b).2)]) := h.at_.2
theorem RatQ.of {ca : Nat → Addr} {H : Hp} {p dx : Addr} {a b a' b' : Int} (hb : b ≠ 0) (e : H p = some (.ins (ca 2) dx [("top", .int (nrm a' b').1), ("bottom", .int (nrm a' b').2)])) (n : nrm a' b' = nrm a b) : RatQ ca H p a b :=
  ⟨hb, by rw [n] at e; exact RatAt.of hb e⟩
/-- a number that is a / b: an int, or a ratio -/
def NumQ (ca : Nat → Addr) (H : Hp) (x : V) (a b : Int) : Prop := (x = .int a ∧ b = 1) ∨ ∃ p, x = .ref p ∧ RatQ ca H p a b
theorem NumQ.same {ca : Nat → Addr} {H H' : Hp} {x : V} {a b : Int} (h : NumQ ca H x a b) (s : Same H H') : NumQ ca H' x a b := h.imp id fun ⟨p, e, r⟩ => ⟨p, e, r.same s⟩
theorem NumQ.ne {ca : Nat → Addr} {H : Hp} {x : V} {a b : Int} (h : NumQ ca H x a b) : b ≠ 0 := by
  rcases h with ⟨_, rfl⟩ | ⟨_, _, r⟩
  · decide
  · exact r.ne
theorem NumQ.num {ca : Nat → Addr} {H : Hp} {x : V} {a b : Int} (h : NumQ ca H x a b) : NumV ca H x (nrm a b).1 (nrm a b).2 := by
  rcases h with ⟨rfl, rfl⟩ | ⟨p, e, r⟩
  · rw [nrm_one]
    exact .inl ⟨rfl, rfl⟩
  · exact .inr ⟨p, e, r.at_⟩
theorem RatQ.num {ca : Nat → Addr} {H : Hp} {p : Addr} {a b : Int} (h : RatQ ca H p a b) : NumQ ca H (.ref p) a b := .inr ⟨p, rfl, h⟩
theorem NumQ.int {ca : Nat → Addr} {H : Hp} {a : Int} : NumQ ca H (.int a) a 1 := .inl ⟨rfl, rfl⟩
theorem rOwn_of {ca : Nat → Addr} {H : Hp} {p : Addr} {x : V} {a b a' b' : Int} {sp : Sp} {E : XK} {Q : VK} (h : RatQ ca H p a b) (n : NumQ ca H x a' b') (k : sp [.ref p, x] H Q E) : rOwn (ca 2) sp E (.ref p) x H Q := by
  obtain ⟨dx, e⟩ := h.ins
  refine ⟨p, dx, _, rfl, e, ?_, k⟩
  rcases n with ⟨rfl, rfl⟩ | ⟨q, rfl, r⟩
  · exact .inl ⟨_, rfl⟩
  · obtain ⟨dy, e2⟩ := r.ins
    exact .inr ⟨q, dy, _, rfl, e2⟩
theorem rRefl_of {ca : Nat → Addr} {H : Hp} {p : Addr} {i a b : Int} {sp : Sp} {E : XK} {Q : VK} (h : RatQ ca H p a b) (k : sp [.ref p, .int i] H Q E) : rRefl (ca 2) sp E (.int i) (.ref p) H Q := by
  obtain ⟨dx, e⟩ := h.ins
  exact ⟨i, p, dx, _, rfl, rfl, e, k⟩
theorem rUna_of {ca : Nat → Addr} {H : Hp} {p : Addr} {a b : Int} {sp : Sp} {E : XK} {Q : VK} (h : RatQ ca H p a b) (k : sp [.ref p] H Q E) : rUna (ca 2) sp E (.ref p) H Q := by
  obtain ⟨dx, e⟩ := h.ins
  exact ⟨p, dx, _, rfl, e, k⟩
/-- sums of fractions, from the left -/
def sumQ : Int × Int → List (Int × Int) → Int × Int := List.foldl fun x y => (x.1 * y.2 + y.1 * x.2, x.2 * y.2)
theorem sumQ_size : ∀ (fs : List (Int × Int)) (z : Int × Int) (n : Nat), (∀ f ∈ fs, Sz 200 f.1 ∧ Sz 200 f.2) → Sz n z.1 → Sz n z.2 → Sz (n + 201 * fs.length) (sumQ z fs).1 ∧ Sz (n + 201 * fs.length) (sumQ z fs).2
  | [], z, n, _, h1, h2 => ⟨h1, h2⟩
  | f :: fs, z, n, hf, h1, h2 => by
    obtain ⟨f1, f2⟩ := hf f List.mem_cons_self
    have g1 : Sz (n + 201) (z.1 * f.2 + f.1 * z.2) := ((h1.mul f2).add' ((f1.mul h2).mono (by omega))).mono (by omega)
    have g2 : Sz (n + 201) (z.2 * f.2) := (h2.mul f2).mono (by omega)
    obtain ⟨r1, r2⟩ := sumQ_size fs (z.1 * f.2 + f.1 * z.2, z.2 * f.2) (n + 201) (fun g hg => hf g (List.mem_cons_of_mem _ hg)) g1 g2
    rw [List.length_cons]
    exact ⟨r1.mono (by omega), r2.mono (by omega)⟩
theorem sumQ_ne : ∀ (fs : List (Int × Int)) (z : Int × Int), (∀ f ∈ fs, f.2 ≠ 0) → z.2 ≠ 0 → (sumQ z fs).2 ≠ 0
  | [], _, _, h => h
  | f :: fs, z, hf, h => sumQ_ne fs (z.1 * f.2 + f.1 * z.2, z.2 * f.2) (fun g hg => hf g (List.mem_cons_of_mem _ hg)) (Int.mul_ne_zero h (hf f List.mem_cons_self))
theorem sumQ_app {fs : List (Int × Int)} {z f : Int × Int} : sumQ z (fs ++ [f]) = ((sumQ z fs).1 * f.2 + f.1 * (sumQ z fs).2, (sumQ z fs).2 * f.2) := by
  unfold sumQ
  rw [List.foldl_append]
  rfl
/-- a sum whose first part alone is in lowest terms -/
theorem nrm_addL {a b c d : Int} (hb : b ≠ 0) (hd : d ≠ 0) : nrm ((nrm a b).1 * d + c * (nrm a b).2) ((nrm a b).2 * d) = nrm (a * d + c * b) (b * d) := by
  have h1 := nrm_cross (a := a) (b := b)
  refine nrm_same (Int.mul_ne_zero (nrm_ne hb) hd) (Int.mul_ne_zero hb hd) ?_
  rw [Int.add_mul, Int.add_mul]
  congr 1
  · calc (nrm a b).1 * d * (b * d) = ((nrm a b).1 * b) * (d * d) := by ac_rfl
      _ = a * (nrm a b).2 * (d * d) := by rw [h1]
      _ = a * d * ((nrm a b).2 * d) := by ac_rfl
  · ac_rfl
theorem RatQ.low {ca : Nat → Addr} {H : Hp} {p : Addr} {a b : Int} (h : RatQ ca H p a b) : RatQ ca H p (nrm a b).1 (nrm a b).2 := h.to (nrm_ne h.ne) nrm_cross.symm
/-! ### what another object's change leaves -/
theorem Bag.lst {H : Hp} {L b : Addr} (h : Bag H L b) : ∃ xs, H b = Option.some (.lst xs) := by
  obtain ⟨ns, i, big, mix, cnt, h1, _⟩ := h
  exact ⟨_, h1⟩
theorem RatQ.put {ca : Nat → Addr} {H H' : Hp} {p c : Addr} {a b : Int} {xs : List V} (h : RatQ ca H p a b) (e : H c = some (.lst xs)) (k : Keep c H H') : RatQ ca H' p a b :=
  ⟨h.ne, h.at_.1, let ⟨dx, q⟩ := h.at_.2; ⟨dx, k _ _ q (ne_of q e fun z => nomatch z)⟩⟩
theorem NumQ.put {ca : Nat → Addr} {H H' : Hp} {c : Addr} {x : V} {a b : Int} {xs : List V} (h : NumQ ca H x a b) (e : H c = some (.lst xs)) (k : Keep c H H') : NumQ ca H' x a b := h.imp id fun ⟨p, q, r⟩ => ⟨p, q, r.put e k⟩
theorem tput {H H' : Hp} {p c : Addr} {ys xs : List V} (h : H p = some (.tup ys)) (e : H c = some (.lst xs)) (k : Keep c H H') : H' p = some (.tup ys) := k _ _ h (ne_of h e fun z => nomatch z)
/-- a number with its fraction -/
def Item (ca : Nat → Addr) (H : Hp) (z : V) : Prop := ∃ t x v a b, z = .ref t ∧ H t = some (.tup [x, .ref v]) ∧ H v = some (.tup [.int a, .int b]) ∧ NumQ ca H x a b ∧ Sz 200 a ∧ Sz 200 b
theorem Item.put {ca : Nat → Addr} {H H' : Hp} {c : Addr} {z : V} {xs : List V} (h : Item ca H z) (e : H c = some (.lst xs)) (k : Keep c H H') : Item ca H' z := by
  obtain ⟨t, x, v, a, b, rfl, h1, h2, n, s⟩ := h
  exact ⟨t, x, v, a, b, rfl, tput h1 e k, tput h2 e k, n.put e k, s⟩
theorem Item.same {ca : Nat → Addr} {H H' : Hp} {z : V} (h : Item ca H z) (s : Same H H') : Item ca H' z := by
  obtain ⟨t, x, v, a, b, rfl, h1, h2, n, z⟩ := h
  exact ⟨t, x, v, a, b, rfl, s _ _ h1, s _ _ h2, n.same s, z⟩
/-- the numbers of a list and their fractions, beside each other -/
def Nums (ca : Nat → Addr) (H : Hp) : List V → List (Int × Int) → Prop := Paired fun x f => NumQ ca H x f.1 f.2 ∧ Sz 200 f.1 ∧ Sz 200 f.2
theorem paired_get {α β : Type} {F : α → β → Prop} : ∀ {xs : List α} {fs : List β} {i : Nat} {x : α} {f : β}, Paired F xs fs → xs[i]? = some x → fs[i]? = some f → F x f
  | _, _, 0, _, _, .cons r _, h1, h2 => by
    simp at h1 h2
    subst h1; subst h2
    exact r
  | _, _, i + 1, _, _, .cons _ t, h1, h2 => paired_get (i := i) t (by simpa using h1) (by simpa using h2)
theorem paired_mem {α β : Type} {F : α → β → Prop} : ∀ {xs : List α} {fs : List β}, Paired F xs fs → ∀ f ∈ fs, ∃ x, F x f
  | _, _, .cons r t, f, h => by
    rcases List.mem_cons.mp h with rfl | h
    · exact ⟨_, r⟩
    · exact paired_mem t f h
theorem Nums.same {ca : Nat → Addr} {H H' : Hp} {xs : List V} {fs : List (Int × Int)} (h : Nums ca H xs fs) (s : Same H H') : Nums ca H' xs fs := Paired.mapP h fun _ _ n => ⟨n.1.same s, n.2⟩
theorem Nums.put {ca : Nat → Addr} {H H' : Hp} {c : Addr} {xs ys : List V} {fs : List (Int × Int)} (h : Nums ca H xs fs) (e : H c = some (.lst ys)) (k : Keep c H H') : Nums ca H' xs fs := Paired.mapP h fun _ _ n => ⟨n.1.put e k, n.2⟩
theorem Nums.ne {ca : Nat → Addr} {H : Hp} {xs : List V} {fs : List (Int × Int)} (h : Nums ca H xs fs) : ∀ f ∈ fs, f.2 ≠ 0 := fun f m => let ⟨_, n⟩ := paired_mem h f m; n.1.ne
theorem Nums.sz {ca : Nat → Addr} {H : Hp} {xs : List V} {fs : List (Int × Int)} (h : Nums ca H xs fs) : ∀ f ∈ fs, Sz 200 f.1 ∧ Sz 200 f.2 := fun f m => let ⟨_, n⟩ := paired_mem h f m; n.2
/-! ### lists of the same things -/
def DId : Eqv := fun x y H => DFlat x y H ∨ ∃ a, x = .ref a ∧ y = .ref a
theorem mon_id : Mon DId := fun _ _ _ _ _ d => d
theorem eqG_id {X : Cx} : EqG X 0 DId := EqG.or eqG_flat fun A pins s σ H x y u v sb I rx ry d => by
  obtain ⟨a, rfl, rfl⟩ := d
  cases rx
  cases ry
  exact SeqAt.EqAt.same (A := A) (s := s) (.ref a) X.prog X.w X.xe _ ⟨rfl, H, I, Ext.rfl'⟩
theorem op_eqId {X : Cx} (hr : Room 1 X.A) : OpR X (compareOp .Eq) (rEqG (DList DId)) := op_eqG (rcG_list mon_id eqG_id) hr
/-! ### a static method, called on its class -/
structure OwnS (P : Program) (w : World) (K : PySem.W.Frag) (mg : Str → Option Value) (base : Heap) (k : Nat) (C : Addr) (m : Str) (ps : List Str) (sp : Sp) : Prop where
  ex : ∃ f fd p mc, FnOk P w K mg base (L2N.CX P w) k f fd ps sp ∧ ClX.CRead K C mc ∧ PySem.W.findCls K (.ref C) mc m = some (.get (.builtin "staticmethod.__get__") (.ref p) .none (.ref C)) ∧ (∃ rest, PySem.W.recIn K p "staticmethod" = some (.ref f :: rest)) ∧
    PySem.W.keepIn K (.ref f) = true ∧ Binds K fd ps []
def tStatS (C : Addr) (sp : Sp) (E : L2.St → XK) (ta : TE) (t : TA) : TE := fun σ H Q => ta σ H fun x H1 => x = .ref C ∧ t σ H1 fun vs H2 => sp vs H2 Q (E σ)
theorem pe_owns {X : Cx} {k : Nat} {C : Addr} {m : Str} {ps : List Str} {sp : Sp} {E : L2.St → XK} {pos apos : Pos} {e o : Expr} {es : List Expr} {ta : TE} {t : TA} {pl : Sem Bool} (O : OwnS X.prog X.w X.K X.mg X.base k C m ps sp) (he : PE X o ta) (hr : Room k X.A)
    (hx : ∀ σ, PassesAt (L2N.CX X.prog X.w) X σ (E σ)) (ha : PA X (e :: es) t)
    (hst : starEach (e :: es) X.env = (false, eval e X.env) :: starEach es X.env := by rfl) (hpl : (backTo pos (starEach es X.env)).any (·.1) = false := by rfl)
    (ht : eval (.Call (.Attribute o m apos) (e :: es) [] pos) X.env = (do
      let ov ← eval o X.env
      standAt apos.atName
      let (f, first) ← holding [ov] (getMethod ov m pl)
      callWith pos f first (backTo pos (starEach (e :: es) X.env)) (backToKw pos (keywordEach [] X.env))) := by rfl) :
    PE X (.Call (.Attribute o m apos) (e :: es) [] pos) (tStatS C sp E ta t) := by
  obtain ⟨f, fd, q, mc, F, r, hc, ⟨rest, hp⟩, hk, hb⟩ := O.ex
  refine ⟨fun pins s σ H Q I h => ?_⟩
  refine PySem.W.methodCall_KW (pl := pl) (thn (he.run pins s σ H _ I h) fun u s1 ⟨x, H1, I1, rx, ex, q1⟩ => ?_) ht
  subst ex
  obtain rfl : u = Value.ref C := rx
  refine PySem.W.method_cls I1.kIn r.ga (PySem.W.cls_bind I1.kIn r.rd hc ?_)
  refine wpAny_call (PySem.W.sm_get (s := { s1 with toks := s1.toks + 1 }) I1.kIn hp (PySem.W.handed_on rfl ?_))
  have I2 := I1.tok (s1.toks + 1)
  refine PySem.W.callWith_K (first := []) (h₀ := X.base) I.ok.mod.kin hk (thn (ha.run pos pins _ σ H1 _ I2 q1) fun us s2 ⟨vs, H2, I3, rv, q2⟩ => ⟨I3.kIn, ?_⟩) hst hpl
  exact run_fnS F hr hb (hx σ) I3 rv q2
/-! ### an own error that is caught -/
theorem exm1 {K : PySem.W.Frag} {C : Addr} (h1 : PySem.W.subIn K (.ref C) (.type "BaseException") = some true) (h2 : PySem.W.isClsIn K C = true) (h3 : PySem.W.typeIn K (.ref C) = some (.type "type")) (h4 : PySem.W.subIn K (.ref C) (.ref C) = some true) :
    PySem.W.exmOne K (.ref C) (.ref C) = some true := by
  have h2' : (PySem.W.clsIn K C).isSome = true := h2
  unfold PySem.W.exmOne PySem.W.kitCls
  rw [if_pos (by rw [h1]; rfl)]
  simp only [h2', h3, h4]
  rfl
def tGuard (p : Prop) (t : TS) : TS := fun D σ H => p ∧ t D σ H
theorem pss_err {X : Cx} {st : List Stmt} {t : TS} {cls : Value} {d : Option Addr} {oe : Obj} {C : Addr} (hz : Zc cls d oe) (h : Zc (.ref C) none oe → PSs X st t) : PSs X st (tGuard (cls = .ref C ∧ d = none) t) :=
  ⟨fun pins s σ H D I q => (h (q.1.1 ▸ q.1.2 ▸ hz)).run pins s σ H D I q.2⟩
/-! ### the law's own promise, and the end -/
def sp_law (K : PySem.W.Frag) (_ : Nat → Addr) : Sp := fun vs H Q _ => ∃ (a : Addr) (ns : List Int), vs = [.ref a] ∧ SqL K H a (ns.map V.int) ∧ ∀ H' : Hp, Q (.bl true) H'
theorem walk {l : PySem.W.OpenLaw} {q : Program} {loose : List Str} {XP : (Str → Option Value) → Heap → Prop} {YP : World → Heap → Prop} {d : DefRec} {K : Params → PySem.W.Frag} (k : Nat) (hk : Room k callerA) (hn : l.most = some 63) (hdf : d.params.defaults = [])
    (hY : ∀ (w : World) (h : Heap), YP w h → (K w.params).In h)
    (F : ∀ (w : World) (mg : Str → Option Value) (fa : Addr) (h : Heap), (K w.params).In h → h.Ns mainGlobals mg → mg d.name = some (.ref fa) →
      ∃ fd : FuncData, (∀ (s : Shared) (u : Value), BindsTo s fd ⟨[u], []⟩ [("_law_script", u)]) ∧ ∀ base : Heap, (K w.params).In base → base.Ns mainGlobals mg → FnOk l.prog w (K w.params) mg base (L2N.CX l.prog w) k fa fd ["_law_script"] (sp_law (K w.params) fun _ => 0)) :
    PySem.W.WalkO q loose XP YP l.row.toRowW d [] (fun f vs => PySem.call f vs) :=
  L2.walk_of (n := 63) (k := k) (x := "_law_script") (CX := fun w => L2N.CX l.prog w) (sp := fun w => sp_law (K w.params) fun _ => 0) hn (by decide) hdf hk hY F (fun _ _ a ns _ _ hS => ⟨a, ns, rfl, hS, fun _ => rfl⟩)
    fun _ _ _ _ _ h => by
      obtain ⟨_, _, _, _, _, _, _, _, _, _, _, _, z⟩ := h
      exact z
theorem binds_all {K : PySem.W.Frag} {fd : FuncData} {ps : List Str} {ds : List Value} (v : Vals [] ds) (b : L2.Binds K fd ps ds) : L2.Binds K fd ps [] := by
  cases v
  exact b
end Lo

set_option Elab.async false
set_option linter.all false
set_option maxRecDepth 100000
set_option maxHeartbeats 4000000
namespace Lo
open PySem PySem.Spec PyProof.Rows L2
open TL (tl tl_append)
/-! ### further rules -/
/-- a statement that is never reached -/
def tDead : TS := fun _ _ _ => False
theorem ps_dead {X : Cx} {st : Stmt} : PS X st tDead := ⟨fun _ _ _ _ _ _ h => h.elim⟩
theorem pe_const {X : Cx} {x : Str} {i : Int} {p : Pos} (hm : ∃ t, X.mg x = some (.int i t)) (hg : Gl X x) (hdb : (x == ("__debug__" : Str)) = false := by decide) : PE X (.Name x p) (tC (.int i)) := by
  obtain ⟨t, h⟩ := hm
  exact pe_glob hg h ⟨t, rfl⟩ hdb
theorem op_mulS {X : Cx} : OpR X (binaryOp .Mult) (fun x y H Q => ∃ z n, x = .str z ∧ y = .int n ∧ MulOk z n ∧ Q (.str (Txt.mul z n)) H) := by
  intro pins s σ H x y v u Q I rx ry h
  obtain ⟨z, n, rfl, rfl, hok, q⟩ := h
  obtain ⟨t, rfl⟩ := rx
  obtain ⟨t2, rfl⟩ := ry
  exact SB.mul hok fun t' k => ⟨.str (Txt.mul z n), H, I.tok _, ⟨t', rfl⟩, q⟩
section
variable {X : Cx} {k i : Nat} {C : Addr} {ps : List Str} {sp : Sp} {E : L2.St → XK} {x m y : Str} {p pos apos : Pos} {e o : Expr} {es : List Expr} {ta : TE} {t : TA} {dvs : List V}
/-- C() -/
theorem pe_owni0 (O : OwnI X.prog X.w X.K X.mg X.base k x C ps dvs sp) (hr : Room (k + 1) X.A) (hg : Gl X x) (hx : ∀ σ, PassesAt (L2N.CX X.prog X.w) X σ (E σ)) (hdb : (x == ("__debug__" : Str)) = false := by decide) :
    PE X (.Call (.Name x p) [] [] pos) (tMakeS C sp dvs E tNil) := by
  obtain ⟨f, fd, ds, F, M, hm, hb, hd⟩ := O.ex
  refine ⟨fun pins s σ H Q I h => ?_⟩
  refine wpAny_Call_Name_kw (ld_glob I hg hm ?_ hdb)
  exact PySem.W.callWith_K0 I.kIn M.kp (run_makeS (us := []) (vs := []) M F hr hb hd (hx σ) I .nil h)
/-- cls(..), cls a name of the def that holds the class -/
def tMakeL (i : Nat) (C : Addr) (sp : Sp) (dvs : List V) (E : L2.St → XK) (t : TA) : TE := fun σ H Q => σ[i]? = some (some (.ref C)) ∧ tMakeS C sp dvs E t σ H Q
theorem pe_ownl (O : OwnI X.prog X.w X.K X.mg X.base k x C ps dvs sp) (hr : Room (k + 1) X.A) (hN : X.N[i]? = some y) (hv : Vis X.env.scope y) (hx : ∀ σ, PassesAt (L2N.CX X.prog X.w) X σ (E σ)) (ha : PA X (e :: es) t)
    (hdb : (y == ("__debug__" : Str)) = false := by decide) (hcd : (y == ("__classdict__" : Str)) = false := by decide)
    (he : starEach (e :: es) X.env = (false, eval e X.env) :: starEach es X.env := by rfl) (hpl : (backTo pos (starEach es X.env)).any (·.1) = false := by rfl) :
    PE X (.Call (.Name y p) (e :: es) [] pos) (tMakeL i C sp dvs E t) := by
  obtain ⟨f, fd, ds, F, M, hm, hb, hd⟩ := O.ex
  refine ⟨fun pins s σ H Q I h => ?_⟩
  obtain ⟨hs, ht⟩ := h
  refine wpAny_Call_Name_kw (thn ((pe_var (pos := p) hN hv hdb hcd).run pins s σ H (fun v H1 => v = .ref C ∧ H1 = H) I ⟨.ref C, hs, rfl, rfl⟩) fun u s1 ⟨v, H1, I1, r1, q1⟩ => ?_)
  obtain ⟨rfl, rfl⟩ := q1
  cases r1
  refine PySem.W.callWith_K (h₀ := X.base) I.ok.mod.kin M.kp (thn (ha.run pos pins s1 σ _ _ I1 ht) fun us s2 ⟨vs, H2, I2, r, q⟩ => ⟨I2.kIn, ?_⟩) he hpl
  exact run_makeS M F hr hb hd (hx σ) I2 r q
end
/-- a field, the written part by its own name (within a comprehension) -/
theorem pe_fldK {X : Cx} {K : PySem.W.Frag} {e : Expr} {ta : TE} {f : Str} {pos : Pos} (he : PE X e ta) (hb : attributeBase e f X.env (eval e X.env) = eval e X.env) (hK : X.K = K) : PE X (.Attribute e f pos) (tFld K ta f) := by
  subst hK
  exact pe_fld he hb
/-- a class method, called on its class -/
structure OwnC (P : Program) (w : World) (K : PySem.W.Frag) (mg : Str → Option Value) (base : Heap) (k : Nat) (C : Addr) (m : Str) (ps : List Str) (sp : Sp) : Prop where
  ex : ∃ f fd p mc, FnOk P w K mg base (L2N.CX P w) k f fd ps sp ∧ ClX.CRead K C mc ∧ ClX.CMet K C mc m p f ∧ Binds K fd ps []
theorem pe_ownc {X : Cx} {k : Nat} {C : Addr} {m : Str} {ps : List Str} {sp : Sp} {E : XK} {pos apos : Pos} {e o : Expr} {es : List Expr} {ta : TE} {t : TA} {pl : Sem Bool} (O : OwnC X.prog X.w X.K X.mg X.base k C m ps sp) (he : PE X o ta) (hr : Room k X.A)
    (hx : Passes (L2N.CX X.prog X.w) X E) (ha : PA X (e :: es) t)
    (hst : starEach (e :: es) X.env = (false, eval e X.env) :: starEach es X.env := by rfl) (hpl : (backTo pos (starEach es X.env)).any (·.1) = false := by rfl)
    (ht : eval (.Call (.Attribute o m apos) (e :: es) [] pos) X.env = (do
      let ov ← eval o X.env
      standAt apos.atName
      let (f, first) ← holding [ov] (getMethod ov m pl)
      callWith pos f first (backTo pos (starEach (e :: es) X.env)) (backToKw pos (keywordEach [] X.env))) := by rfl) :
    PE X (.Call (.Attribute o m apos) (e :: es) [] pos) (ClX.tCMeth C sp E ta t) := by
  obtain ⟨f, fd, q, mc, F, r, c, hb⟩ := O.ex
  exact ClX.pe_cmeth he r c ((F.raw hb .nil).imp fun vs H Q E h => by rw [List.append_nil]; exact h) hr hx ha hst hpl ht
/-! ### an instance of another class on the right -/
section
open PySem.W
variable {prog : Program} {w : World} {A : Around} {E : Value → Shared → Prop} {s : Shared} {x y C D f g : Addr} {K : Frag} {ox oy : Obj} {od od' : Option Obj} {nm : String} {Q : Option Value → Shared → Prop} {rc ro : Option Value}
theorem bin1_other (X : K.In s.heap) (I : InstAt s.heap x ox C od) (J : InstAt s.heap y oy D od') (hc : selfFirst K C = true) (hs : findIn K (.ref C) (PySem.dunder nm) = some (some (.ref f))) (hf : isFn K (.ref f) = true) (hr : findIn K (.ref C) (dunderR nm) = some rc) (hp : rc = none ∨ ∃ g : Addr, rc = some (.ref g))
    (hcD : selfFirst K D = true) (hsD : findIn K (.ref D) (PySem.dunder nm) = some (some (.ref g))) (hrD : findIn K (.ref D) (dunderR nm) = some ro) (hpD : ro = none ∨ ∃ g : Addr, ro = some (.ref g)) (hne : C ≠ D) (hsub : subIn K (.ref D) (.ref C) = some false)
    (h : wpAny (model prog w) A (call (.ref f) [.ref x, .ref y]) (PySem.W.CmpBack fun v => Q (some v)) E s) : wpAny (model prog w) A (binaryOp1 nm (.ref x) (.ref y)) Q E s := by
  have one := ksp_try X I hs hf h
  have L3 : Looks (model prog w) s.heap (fillsNumberSlot (.ref C) nm) true := slot_fills X hc hs
  have L4 : Looks (model prog w) s.heap (fillsNumberSlot (.ref D) nm) true := slot_fills X hcD hsD
  have L1 : Looks (model prog w) s.heap (typeOf (.ref x)) (.ref C) := I.type
  have L2 : Looks (model prog w) s.heap (typeOf (.ref y)) (.ref D) := J.type
  have L5 : Looks (model prog w) s.heap (isSubtype (.ref D) (.ref C)) false := looks_subIn X hsub
  have L6 : Looks (model prog w) s.heap (numberSlotInPython (.ref C) nm) true := ksp_inPy X hs hr hp
  have L7 : Looks (model prog w) s.heap (numberSlotInPython (.ref D) nm) true := ksp_inPy X hsD hrD hpD
  have hne : (Value.ref C == Value.ref D) = false := Bool.eq_false_iff.mpr fun q => hne (Value.ref.inj (beq_iff_eq.mp q))
  obtain ⟨hh, gg, d, tt, os⟩ := s
  unfold binaryOp1
  refine wpAny_bind (L1.at (wpAny_bind (L2.at (wpAny_bind (L3.at ?_)))))
  simp only [hne, Bool.false_eq_true, if_false]
  ksp_lk
  refine wpAny_mono one (fun r s' hr => ?_) fun _ _ e => e
  obtain ⟨v, rfl, hq⟩ := hr
  ksp_lk
  exact hq
end
section
variable {X : Cx} {k : Nat} {C D : Addr} {ps : List Str} {sp : Sp} {E : XK}
/-- an instance of C on the left; an int, or an instance of C or of D on the right -/
def rOwnN (C D : Addr) (sp : Sp) (E : XK) : R2 := fun x y H Q => ∃ a dx fs, x = .ref a ∧ H a = some (.ins C dx fs) ∧ ((∃ i, y = .int i) ∨ (∃ b dy gs, y = .ref b ∧ H b = some (.ins C dy gs)) ∨ ∃ b dy gs, y = .ref b ∧ H b = some (.ins D dy gs)) ∧ sp [x, y] H Q E
theorem op_ownN (o : AOp) (A : Arith X.K C) (B : Arith X.K D) (hne : C ≠ D) (hsub : PySem.W.subIn X.K (.ref D) (.ref C) = some false) (O : OwnM X.prog X.w X.K X.mg X.base k C o.m ps sp) (hr : Room k X.A) (hx : Passes (L2N.CX X.prog X.w) X E) :
    OpR X (binaryOp o.op) (rOwnN C D sp E) := by
  intro pins s σ H x y v u Q I rx ry h
  obtain ⟨a, dx, fs, ex, ha, hy, hsp⟩ := h
  rcases hy with h1 | h1 | ⟨b, dy, gs, ey, hb'⟩
  · exact op_own o A O hr hx pins s σ H x y v u Q I rx ry ⟨a, dx, fs, ex, ha, .inl h1, hsp⟩
  · exact op_own o A O hr hx pins s σ H x y v u Q I rx ry ⟨a, dx, fs, ex, ha, .inr h1, hsp⟩
  · subst ex
    subst ey
    obtain rfl : v = Value.ref a := rx
    obtain rfl : u = Value.ref b := ry
    obtain ⟨f, fd, Fo, hm, hb⟩ := O.ex
    obtain ⟨_, od, J⟩ := inst_at I ha
    obtain ⟨_, od2, J2⟩ := inst_at I hb'
    have h1 : PySem.W.findIn X.K (.ref C) (PySem.dunder o.op.info.2) = some (some (.ref f)) := by rw [o.em]; exact hm.at_
    have refl_of : ∀ {c : Addr}, Arith X.K c → ∃ rc, PySem.W.findIn X.K (.ref c) (dunderR o.op.info.2) = some rc ∧ refOr rc = true := by
      intro c A
      rw [o.er]
      obtain ⟨a, b, c, q1, q2, q3⟩ := A.refl
      cases o
      · exact ⟨_, q1⟩
      · exact ⟨_, q2⟩
      · exact ⟨_, q3⟩
    obtain ⟨rc, h2, hrc⟩ := refl_of A
    obtain ⟨rd, h3, hrd⟩ := refl_of B
    obtain ⟨g, h4⟩ : ∃ g : Addr, PySem.W.findIn X.K (.ref D) (PySem.dunder o.op.info.2) = some (some (.ref g)) := by
      rw [o.em]
      obtain ⟨a, b, c, q1, q2, q3⟩ := B.has
      cases o
      · exact ⟨_, q1⟩
      · exact ⟨_, q2⟩
      · exact ⟨_, q3⟩
    have run := run_fn (us := [.ref a, .ref b]) (vs := [.ref a, .ref b]) (dvs := []) Fo hr hb .nil hx I (.cons rfl (.cons rfl .nil)) hsp
    have run2 := wpAny_mono run (fun u s' q => back_of (R := fun v s' => ∃ z, some v = some z ∧ EP X pins σ Q z s') q fun v s' q => ⟨v, rfl, q⟩) fun _ _ e => e
    exact bin_of1 (bin1_other I.kIn J J2 A.sf h1 hm.fn h2 (refOr_of hrc) B.sf h4 h3 (refOr_of hrd) hne hsub run2)
end
/-! ### name = {..} of a comprehension, the name a local -/
theorem ps_setDc {X : Cx} {slot : Nat} {nm : Str} {np : Pos} {ke ve target src : Expr} {tests : List Expr} {sc : Scope} {mine : List (Str × Nat)} {pc ps : Pos} {ti : TI} {tg : TG} {tt : TT} {tk tv : TE} (calm : X.calm = true) (nodup : X.N.Nodup) (at_ : X.N[slot]? = some nm)
    (loc : X.env.scope.names.lookup nm = some .local) (sw : swapsWith (.DictComp ke ve [⟨target, src, tests, 0⟩] sc pc) (some (.Name nm np)) ps.line X.env = pure true) (over : PI X target src ti) (blk : BlkOk X.N X.env.scope sc mine)
    (pg : ∀ (s1 : Shared) (H1 : Hp) (c1 : Addr) (l1 : List (Str × Addr)) (f1 : List Addr), PG (X.blk s1 H1 sc (compEnvC sc l1 c1 X.env) f1) target tg)
    (pt : ∀ (s1 : Shared) (H1 : Hp) (c1 : Addr) (l1 : List (Str × Addr)) (f1 : List Addr), PTs (X.blk s1 H1 sc (compEnvC sc l1 c1 X.env) f1) tests tt)
    (pk : ∀ (s1 : Shared) (H1 : Hp) (c1 : Addr) (l1 : List (Str × Addr)) (f1 : List Addr), PE (X.blk s1 H1 sc (compEnvC sc l1 c1 X.env) f1) ke tk)
    (pv : ∀ (s1 : Shared) (H1 : Hp) (c1 : Addr) (l1 : List (Str × Addr)) (f1 : List Addr), PE (X.blk s1 H1 sc (compEnvC sc l1 c1 X.env) f1) ve tv) (fold : ∀ x, foldedSetIterable src X.env x = pure x := by intro _; rfl) :
    PS X (.Assign [.Name nm np] (.DictComp ke ve [⟨target, src, tests, 0⟩] sc pc) ps) (tAsg (tDc ti tg tt tk tv (mine.map (·.2))) (gName slot)) := by
  refine ⟨fun pins s σ H D I want => ?_⟩
  rw [exec_Assign_Name_used _ _ _ _ sw]
  refine wpAny_bind (wpAny_standAt (wpAny_bind ?_))
  show wpAny _ X.A (do let _ ← comprehension (.DictComp ke ve [⟨target, src, tests, 0⟩] sc pc) sc X.env (firstIterPos [⟨target, src, tests, 0⟩] pc) newDict false (eval src X.env) (some (assign (.Name nm np) X.env))) _ _ s
  have want : tDc ti tg tt tk tv (mine.map (·.2)) σ H (fun x H1 => gName slot x σ H1 D.nx) := want
  refine wpAny_bind (thn (dc_core (Qf := fun _ s' => SP X pins D .next s') calm nodup I over blk pg pt pk pv fold want fun new C s' m H' I' q ns fp => ?_) fun _ s' hq => wpAny_pure (wpAny_pure hq))
  show wpAny _ _ (assign (.Name nm np) X.env (.ref new)) _ _ _
  refine wpAny_assign_Name (store_ok2 (v := V.ref new) I' nodup at_ (.inl loc) rfl (fun s2 I2 ⟨a, sb, ha⟩ => ?_) (.inr loc))
  obtain ⟨g0, g1, g2, g3, g4, g5⟩ := fp
  have apart : C ≠ a := ha.elim (fun z => z ▸ g1) fun z e => g4 nm a z e.symm
  exact ⟨m, ns.sameBut sb apart, fun h3 sb3 => ⟨_, H', I2.turned (t' := s2.toks) (fun b o hb e => (sb3.2 b hb).trans e) g0 g1 g3 g4 g5, q⟩⟩
theorem sw_trueD {ke ve : Expr} {gs : List Comprehension} {sc : Scope} {pc np : Pos} {nm : Str} {l : Nat} {env : Env} (kind : env.scope.kind = .function) (loc : env.scope.names.lookup nm = some .local) (line : (np.line == pc.line) = true)
    (other : (sc.names.any fun (n, k) => n == nm && (k == .local || k == .cell)) = false) : swapsWith (.DictComp ke ve gs sc pc) (some (.Name nm np)) l env = pure true := by
  have one : env.kindOf nm = some .local := loc
  have two : env.blockKind = .function := by unfold Env.blockKind; rw [kind]; rfl
  unfold swapsWith
  simp only [two, one, other, Expr.pos, line]
  rfl
/-! ### words of letters -/
def Lets (z : Str) : Prop := ∀ c ∈ tl z, 97 ≤ c ∧ c ≤ 122
structure NameOk (z : Str) : Prop where
  le : z.length ≤ 12
  ne : 0 < z.length
  ls : Lets z
theorem lets_app {x y : Str} (h : Lets x) (k : Lets y) : Lets (x ++ y) := fun c m => by
  rw [tl_append] at m
  rcases List.mem_append.mp m with m | m
  · exact h c m
  · exact k c m
theorem len_app {x y : Str} : (x ++ y).length = x.length + y.length := by
  show (x.cps ++ y.cps).size = _
  rw [Array.size_append]
  rfl
theorem lets_cut {z : Str} {lo hi : Option Int} (h : Lets z) : Lets (cutS z lo hi) := fun c m => h c (by
  have m : c ∈ (z.cps.toList.drop (HT.sIx z.length 0 lo)).take (HT.sIx z.length z.length hi - HT.sIx z.length 0 lo) := by
    have e : tl (cutS z lo hi) = (z.cps.toList.drop (HT.sIx z.length 0 lo)).take (HT.sIx z.length z.length hi - HT.sIx z.length 0 lo) := by
      unfold cutS tl
      rfl
    rw [e] at m
    exact m
  exact List.mem_of_mem_drop (List.mem_of_mem_take m))
theorem len_cuts {z : Str} {w : Int} : (cutS z none (some w)).length + (cutS z (some w) none).length = z.length := by
  unfold cutS Str.length
  have e1 : HT.sIx z.cps.size 0 none = 0 := rfl
  have e2 : HT.sIx z.cps.size z.cps.size none = z.cps.size := rfl
  have e3 : HT.sIx z.cps.size z.cps.size (some w) = HT.sIx z.cps.size 0 (some w) := rfl
  have e4 := HT.sIx_le z.cps.size 0 (Nat.zero_le _) (some w)
  simp only [Str.length, e1, e2, e3, List.size_toArray, List.length_take, List.length_drop, Array.length_toList]
  omega
theorem lets_one {c : Nat} (h : 97 ≤ c ∧ c ≤ 122) : Lets ⟨#[c]⟩ := fun d m => by
  have e : d = c := by simpa [tl] using m
  subst e
  exact h
theorem len_one {c : Nat} : (⟨#[c]⟩ : Str).length = 1 := rfl
theorem lets_nil : Lets Str.empty := fun c m => by simp [tl, Str.empty] at m
theorem mul_01 {z : Str} {n : Int} (h : n = 0 ∨ n = 1) : MulOk z n ∧ (Txt.mul z n = Str.empty ∨ Txt.mul z n = z) := by
  rcases h with rfl | rfl
  · exact ⟨⟨by decide, fun z => absurd (by decide) z, fun z => absurd (by decide) z⟩, .inl rfl⟩
  · exact ⟨⟨by decide, fun _ z => by simp at z, fun _ z => by simp at z⟩, .inr rfl⟩
theorem uni_alpha : ∀ c : Fin 26, Unicode.isAlpha (97 + c) = true ∧ Unicode.isLower (97 + c) = true ∧ Unicode.isUpper (97 + c) = false ∧ Unicode.isTitle (97 + c) = false := by decide +kernel
theorem uni_of {c : Nat} (h : 97 ≤ c ∧ c ≤ 122) : Unicode.isAlpha c = true ∧ Unicode.isLower c = true ∧ Unicode.isUpper c = false ∧ Unicode.isTitle c = false := by
  have := uni_alpha ⟨c - 97, by omega⟩
  have e : 97 + (c - 97) = c := by omega
  simp only [e] at this
  exact this
def nmB (z : Str) : Bool := decide (z.length ≤ 12) && (Txt.isascii z && (Txt.isalpha z && Txt.islower z))
theorem NameOk.asc {z : Str} (h : NameOk z) : Txt.isascii z = true := by
  unfold Txt.isascii
  rw [← Array.all_toList, List.all_eq_true]
  intro c m
  have := h.ls c m
  exact decide_eq_true (by omega)
theorem NameOk.alp {z : Str} (h : NameOk z) : Txt.isalpha z = true := by
  unfold Txt.isalpha
  rw [Bool.and_eq_true]
  refine ⟨decide_eq_true h.ne, ?_⟩
  rw [← Array.all_toList, List.all_eq_true]
  exact fun c m => (uni_of (h.ls c m)).1
theorem NameOk.low {z : Str} (h : NameOk z) : Txt.islower z = true := by
  unfold Txt.islower
  rw [Bool.and_eq_true, ← Array.any_toList, List.any_eq_true, Bool.not_eq_true', ← Array.any_toList, List.any_eq_false]
  have n := h.ne
  refine ⟨?_, fun c m => ?_⟩
  · have m : z.cps[0]'n ∈ z.cps.toList := by simpa using Array.getElem_mem n
    exact ⟨z.cps[0]'n, m, (uni_of (h.ls _ m)).2.1⟩
  · have u := uni_of (h.ls c m)
    rw [u.2.2.1, u.2.2.2]
    decide
theorem NameOk.nm {z : Str} (h : NameOk z) : nmB z = true := by
  unfold nmB
  rw [h.asc, h.alp, h.low, decide_eq_true h.le]
  rfl
/-! ### sorted lists of words -/
theorem tl_inj {x y : Str} (h : tl x = tl y) : x = y := by
  obtain ⟨⟨a⟩⟩ := x
  obtain ⟨⟨b⟩⟩ := y
  cases (show a = b from h)
  rfl
theorem rising_pw : ∀ (p : Str) (l : List Str), risingS p l = true → (p :: l).Pairwise fun a b => ¬ tl b < tl a
  | p, [], _ => by simp
  | p, x :: r, h => by
    have h : (!ltCps x.cps.toList p.cps.toList && risingS x r) = true := h
    rw [Bool.and_eq_true, Bool.not_eq_true', ltCps_eq] at h
    have h1 : ¬ tl x < tl p := of_decide_eq_false h.1
    have ih := rising_pw x r h.2
    refine List.pairwise_cons.mpr ⟨fun y m => ?_, ih⟩
    rcases List.mem_cons.mp m with rfl | m
    · exact h1
    · have h2 := (List.pairwise_cons.mp ih).1 y m
      exact List.not_lt.mpr (List.le_trans (List.not_lt.mp h1) (List.not_lt.mp h2))
theorem sorted_pw {l : List Str} (h : sortedS l = true) : l.Pairwise fun a b => ¬ tl b < tl a := by
  cases l with
  | nil => exact .nil
  | cons x r => exact rising_pw x r h
theorem sorted_uniq {l m : List Str} (h : sortedS l = true) (k : sortedS m = true) (p : l.Perm m) : l = m :=
  List.Perm.eq_of_pairwise (fun a b _ _ h1 h2 => tl_inj (List.le_antisymm (List.not_lt.mp h1) (List.not_lt.mp h2))) (sorted_pw h) (sorted_pw k) p
theorem nodup_len {α : Type} [DecidableEq α] : ∀ {l m : List α}, l.Nodup → (∀ x ∈ l, x ∈ m) → l.length ≤ m.length
  | [], m, _, _ => Nat.zero_le _
  | x :: l, m, h, s => by
    obtain ⟨h1, h2⟩ := List.nodup_cons.mp h
    have hx := s x List.mem_cons_self
    have ih := nodup_len (l := l) (m := m.erase x) h2 fun y hy => (List.mem_erase_of_ne (fun e => h1 (by rw [← e]; exact hy))).mpr (s y (List.mem_cons_of_mem _ hy))
    rw [List.length_erase_of_mem hx] at ih
    have : 0 < m.length := List.length_pos_of_mem hx
    rw [List.length_cons]
    omega
theorem nodup_perm {α : Type} [DecidableEq α] {l m : List α} (h : l.Nodup) (k : m.Nodup) (s : ∀ x, x ∈ l ↔ x ∈ m) : l.Perm m := by
  rw [List.perm_iff_count]
  intro a
  rw [h.count, k.count]
  simp only [s a]
/-! ### tables by names -/
/-- the names that may stand in tables -/
structure Uni (N : List Str) : Prop where
  len : N.length ≤ 60
  ok : ∀ z ∈ N, NameOk z
structure KOk (N : List Str) (kvs : List (Key × V)) : Prop where
  nd : (kvs.map (·.1)).Nodup
  mem : ∀ kv ∈ kvs, ∃ z ∈ N, kv.1 = .inr z
theorem KOk.nil {N : List Str} : KOk N [] := ⟨.nil, fun _ h => nomatch h⟩
theorem KOk.len {N : List Str} {kvs : List (Key × V)} (h : KOk N kvs) : kvs.length ≤ N.length := by
  have e := nodup_len (m := N.map (Sum.inr : Str → Key)) h.nd fun k hk => by
    obtain ⟨kv, m, rfl⟩ := List.mem_map.mp hk
    obtain ⟨z, hz, e⟩ := h.mem kv m
    rw [e]
    exact List.mem_map.mpr ⟨z, hz, rfl⟩
  rw [List.length_map, List.length_map] at e
  exact e
theorem valV_mem {kvs : List (Key × V)} {k : Key} {v : V} (h : valV kvs k = some v) : (k, v) ∈ kvs := by
  unfold valV at h
  obtain ⟨p, h1, rfl⟩ := Option.map_eq_some_iff.mp h
  have e : decide (p.1 = k) = true := List.find?_some (p := fun kv : Key × V => decide (kv.1 = k)) h1
  have e := of_decide_eq_true e
  have m := List.mem_of_find?_eq_some h1
  obtain ⟨a, b⟩ := p
  cases e
  exact m
theorem valV_none {kvs : List (Key × V)} {k : Key} : valV kvs k = none ↔ k ∉ kvs.map (·.1) := by
  unfold valV
  rw [Option.map_eq_none_iff, List.find?_eq_none]
  constructor
  · intro h m
    obtain ⟨p, hp, e⟩ := List.mem_map.mp m
    exact h p hp (decide_eq_true e)
  · intro h p hp e
    exact h (List.mem_map.mpr ⟨p, hp, of_decide_eq_true e⟩)
theorem valV_of : ∀ {kvs : List (Key × V)} {k : Key} {v : V}, (kvs.map (·.1)).Nodup → (k, v) ∈ kvs → valV kvs k = some v
  | p :: r, k, v, h, m => by
    rw [List.map_cons] at h
    obtain ⟨h1, h2⟩ := List.nodup_cons.mp h
    rcases List.mem_cons.mp m with e | m
    · subst e
      exact valV_pos rfl
    · rw [valV_neg fun e => h1 (by rw [e]; exact List.mem_map.mpr ⟨_, m, rfl⟩)]
      exact valV_of h2 m
theorem KOk.put {N : List Str} {kvs : List (Key × V)} {z : Str} (h : KOk N kvs) (hz : z ∈ N) (v : V) : KOk N (putK kvs (.inr z) v) := by
  cases e : valV kvs (.inr z) with
  | none =>
    rw [putK_new v e]
    refine ⟨?_, fun kv m => ?_⟩
    · rw [List.map_append, List.nodup_append]
      refine ⟨h.nd, by simp, fun a ha b hb => ?_⟩
      have eb : b = .inr z := by simpa using hb
      rintro rfl
      rw [eb] at ha
      exact valV_none.mp e ha
    · rcases List.mem_append.mp m with m | m
      · exact h.mem kv m
      · cases List.mem_singleton.mp m
        exact ⟨z, hz, rfl⟩
  | some u =>
    have a : (kvs.any fun kv => decide (kv.1 = .inr z)) = true := by rw [valV_any, e]; rfl
    unfold putK
    rw [if_pos a]
    have hk : (kvs.map fun kv => if kv.1 = .inr z then (kv.1, v) else kv).map (·.1) = kvs.map (·.1) := by
      rw [List.map_map]
      refine List.map_congr_left fun kv _ => ?_
      show (if kv.1 = .inr z then (kv.1, v) else kv).1 = kv.1
      split <;> rfl
    refine ⟨by rw [hk]; exact h.nd, fun kv m => ?_⟩
    obtain ⟨kv', m', rfl⟩ := List.mem_map.mp m
    obtain ⟨y, hy, e'⟩ := h.mem kv' m'
    refine ⟨y, hy, ?_⟩
    split
    · exact e'
    · exact e'
theorem KOk.at_ {N : List Str} {kvs : List (Key × V)} {k : Key} {v : V} {i : Nat} (h : KOk N kvs) (e : kvs[i]? = some (k, v)) : ∃ z ∈ N, k = .inr z ∧ valV kvs (.inr z) = some v := by
  have m := List.mem_of_getElem? e
  obtain ⟨z, hz, ez⟩ := h.mem _ m
  have ez : k = .inr z := ez
  subst ez
  exact ⟨z, hz, rfl, valV_of h.nd m⟩
/-- what stands at the names -/
structure Tab (N : List Str) (R : Str → V → Prop) (Z : Str → Prop) (kvs : List (Key × V)) : Prop where
  k : KOk N kvs
  r : ∀ z v, valV kvs (.inr z) = some v → R z v
  z : ∀ z, valV kvs (.inr z) = none → Z z
theorem Tab.mono {N : List Str} {R R' : Str → V → Prop} {Z Z' : Str → Prop} {kvs : List (Key × V)} (h : Tab N R Z kvs) (a : ∀ z v, R z v → R' z v) (b : ∀ z, Z z → Z' z) : Tab N R' Z' kvs := ⟨h.k, fun z v e => a z v (h.r z v e), fun z e => b z (h.z z e)⟩
theorem Tab.off {N : List Str} {R : Str → V → Prop} {Z : Str → Prop} {kvs : List (Key × V)} (h : Tab N R Z kvs) {z : Str} (n : z ∉ N) : Z z := h.z z (by
  rw [valV_none]
  intro m
  obtain ⟨kv, m, e⟩ := List.mem_map.mp m
  obtain ⟨y, hy, e'⟩ := h.k.mem kv m
  rw [e] at e'
  cases e'
  exact n hy)
/-- the first i names of kvs are done: the new table holds what R says, or nothing where Z holds; the others are not in it -/
structure Part (N : List Str) (R : Str → V → Prop) (Z : Str → Prop) (kvs : List (Key × V)) (i : Nat) (new : List (Key × V)) : Prop where
  k : KOk N new
  r : ∀ z v, valV new (.inr z) = some v → R z v ∧ (.inr z : Key) ∈ (kvs.take i).map (·.1)
  z : ∀ z, valV new (.inr z) = none → (.inr z : Key) ∈ (kvs.take i).map (·.1) → Z z
theorem Part.start {N : List Str} {R : Str → V → Prop} {Z : Str → Prop} {kvs : List (Key × V)} : Part N R Z kvs 0 [] := ⟨.nil, fun z v e => (by rw [valV_nil] at e; cases e), fun z _ m => (by simp at m)⟩
theorem take_mem {kvs : List (Key × V)} {k y : Key} {v : V} {i : Nat} (e : kvs[i]? = some (k, v)) : y ∈ (kvs.take (i + 1)).map (·.1) ↔ y ∈ (kvs.take i).map (·.1) ∨ y = k := by
  rw [List.take_add_one, e, List.map_append, List.mem_append]
  simp
theorem Part.mono {N : List Str} {R R' : Str → V → Prop} {Z Z' : Str → Prop} {kvs new : List (Key × V)} {i : Nat} (h : Part N R Z kvs i new) (a : ∀ z v, R z v → R' z v) (b : ∀ z, Z z → Z' z) : Part N R' Z' kvs i new :=
  ⟨h.k, fun z v e => ⟨a z v (h.r z v e).1, (h.r z v e).2⟩, fun z e m => b z (h.z z e m)⟩
theorem Part.put {N : List Str} {R : Str → V → Prop} {Z : Str → Prop} {kvs new : List (Key × V)} {i : Nat} {z : Str} {v u : V} (h : Part N R Z kvs i new) (e : kvs[i]? = some (.inr z, u)) (hz : z ∈ N) (r : R z v) : Part N R Z kvs (i + 1) (putK new (.inr z) v) := by
  refine ⟨h.k.put hz v, fun y w q => ?_, fun y q m => ?_⟩
  · rw [valV_put] at q
    rw [take_mem e]
    by_cases c : (Sum.inr y : Key) = Sum.inr z
    · rw [if_pos c] at q
      cases q
      cases c
      exact ⟨r, .inr rfl⟩
    · rw [if_neg c] at q
      obtain ⟨a, b⟩ := h.r y w q
      exact ⟨a, .inl b⟩
  · rw [valV_put] at q
    by_cases c : (Sum.inr y : Key) = Sum.inr z
    · rw [if_pos c] at q
      cases q
    · rw [if_neg c] at q
      rcases (take_mem e).mp m with m | m
      · exact h.z y q m
      · exact absurd m c
theorem Part.skip {N : List Str} {R : Str → V → Prop} {Z : Str → Prop} {kvs new : List (Key × V)} {i : Nat} {z : Str} {u : V} (h : Part N R Z kvs i new) (e : kvs[i]? = some (.inr z, u)) (n : Z z) : Part N R Z kvs (i + 1) new := by
  refine ⟨h.k, fun y w q => ?_, fun y q m => ?_⟩
  · obtain ⟨a, b⟩ := h.r y w q
    exact ⟨a, (take_mem e).mpr (.inl b)⟩
  · rcases (take_mem e).mp m with m | m
    · exact h.z y q m
    · cases m
      exact n
theorem Part.done {N : List Str} {R : Str → V → Prop} {Z : Str → Prop} {kvs new : List (Key × V)} (h : Part N R Z kvs kvs.length new) (o : ∀ z, valV kvs (.inr z) = none → Z z) : Tab N R Z new := by
  refine ⟨h.k, fun z v e => (h.r z v e).1, fun z e => ?_⟩
  cases q : valV kvs (.inr z) with
  | none => exact o z q
  | some u =>
    refine h.z z e ?_
    rw [List.take_length]
    exact List.mem_map.mpr ⟨_, valV_mem q, rfl⟩
/-! ### locks -/
theorem same_lock {H H2 : Hp} {d : Addr} {od : Obj} {u : HO} (h : H d = some u) (s : Same (upd H d (.frz od u)) H2) : Same H (upd H2 d u) := fun a o e => by
  by_cases c : a = d
  · subst c
    rw [h] at e
    cases e
    exact upd_same
  · rw [upd_ne c]
    exact s a o (by rw [upd_ne c]; exact e)
/-- over what is locked already, or with a lock of its own -/
structure LkW (p q : Prop) : Prop where
  h : p ∨ q
def tLk (t : TS) : TS := fun D σ H => LkW (tLock t D σ H) (t D σ H)
def tLkE (t : TE) : TE := fun σ H Q => LkW (tLockE t σ H Q) (t σ H Q)
theorem ps_lk {X : Cx} {st : Stmt} {t : TS} (h : PS X st t) : PS X st (tLk t) := ⟨fun pins s σ H D I q => q.h.elim (fun q => (ps_lock h).run pins s σ H D I q) fun q => h.run pins s σ H D I q⟩
theorem pe_lk {X : Cx} {e : Expr} {t : TE} (h : PE X e t) : PE X e (tLkE t) := ⟨fun pins s σ H Q I q => q.h.elim (fun q => (pe_lock h).run pins s σ H Q I q) fun q => h.run pins s σ H Q I q⟩
/-- a dict comprehension over what Walk tells of -/
theorem dc_it {J : It} {n : Nat} {G : Hp → Prop} {Y : Nat → Hp → V → Hp → Prop} (w : Walk J n G Y) {g : TG} {tt : TT} {tk tv : TE} {vs : List Nat} {σ : L2.St} {H1 : Hp} {D : Addr} {Qd : Hp → Prop} (Pv : Nat → Hp → Prop) (h0 : Pv 0 (upd H1 D (.dK []))) (hG : ∀ i H, i ≤ n → Pv i H → G H)
    (hs : ∀ i x H H', i < n → Pv i H → Y i H x H' → g x (wipe σ vs) H' fun σ2 H2 => wipe σ2 vs = wipe σ vs ∧ tt σ2 H2 fun b H3 =>
      if b = true then tk σ2 H3 fun y H4 => tv σ2 H4 fun z H5 => ∃ kvs k, y = kV k ∧ H5 D = some (.dK kvs) ∧ kvs.length < sizeLine ∧ Pv (i + 1) (upd H5 D (.dK (putK kvs k z))) else Pv (i + 1) H3) (hd : ∀ H, Pv n H → Qd H) :
    ∃ W : Nat → Nat → Hp → Prop, (∃ m, W 0 m (upd H1 D (.dK []))) ∧ ∀ i m H, W i m H →
      (J.stop i H ∧ Qd H) ∨ (J.go i H ∧ ∃ Nx : Hp → Prop, (∀ H', Nx H' → ∃ m', m' < m ∧ W (i + 1) m' H') ∧ ∀ x H', J.yld i H x H' → g x (wipe σ vs) H' fun σ2 H2 => wipe σ2 vs = wipe σ vs ∧ tt σ2 H2 fun b H3 =>
        if b = true then tk σ2 H3 fun y H4 => tv σ2 H4 fun z H5 => ∃ kvs k, y = kV k ∧ H5 D = some (.dK kvs) ∧ kvs.length < sizeLine ∧ Nx (upd H5 D (.dK (putK kvs k z))) else Nx H3) := by
  refine ⟨fun i m H => m = n - i ∧ i ≤ n ∧ Pv i H, ⟨n, by simp, Nat.zero_le _, h0⟩, ?_⟩
  rintro i m H ⟨rfl, hi, p⟩
  have q := hG i H hi p
  by_cases hlt : i < n
  · refine .inr ⟨w.goes i H hlt q, Pv (i + 1), fun H' p' => ⟨n - (i + 1), by omega, rfl, hlt, p'⟩, fun x H' y => hs i x H H' hlt p (w.yields i H x H' hlt q y)⟩
  · have e : i = n := by omega
    subst e
    exact .inl ⟨w.stops H q, hd H p⟩
/-- the same over the keys of a locked dict with names -/
theorem dc_names {d : Addr} {od : Obj} {N : List Str} {kvs : List (Key × V)} (hk : KOk N kvs) {g : TG} {tt : TT} {tk tv : TE} {vs : List Nat} {σ : L2.St} {H1 : Hp} {D : Addr} {Qd : Hp → Prop} (Pv : Nat → Hp → Prop) (h0 : Pv 0 (upd H1 D (.dK [])))
    (hG : ∀ i H, i ≤ kvs.length → Pv i H → H d = some (.frz od (.dK kvs)))
    (hs : ∀ i z v H, kvs[i]? = some (.inr z, v) → z ∈ N → valV kvs (.inr z) = some v → Pv i H → g (.str z) (wipe σ vs) H fun σ2 H2 => wipe σ2 vs = wipe σ vs ∧ tt σ2 H2 fun b H3 =>
      if b = true then tk σ2 H3 fun y H4 => tv σ2 H4 fun z H5 => ∃ kvs k, y = kV k ∧ H5 D = some (.dK kvs) ∧ kvs.length < sizeLine ∧ Pv (i + 1) (upd H5 D (.dK (putK kvs k z))) else Pv (i + 1) H3) (hd : ∀ H, Pv kvs.length H → Qd H) :
    ∃ W : Nat → Nat → Hp → Prop, (∃ m, W 0 m (upd H1 D (.dK []))) ∧ ∀ i m H, W i m H →
      ((Itk d od kvs).stop i H ∧ Qd H) ∨ ((Itk d od kvs).go i H ∧ ∃ Nx : Hp → Prop, (∀ H', Nx H' → ∃ m', m' < m ∧ W (i + 1) m' H') ∧ ∀ x H', (Itk d od kvs).yld i H x H' → g x (wipe σ vs) H' fun σ2 H2 => wipe σ2 vs = wipe σ vs ∧ tt σ2 H2 fun b H3 =>
        if b = true then tk σ2 H3 fun y H4 => tv σ2 H4 fun z H5 => ∃ kvs k, y = kV k ∧ H5 D = some (.dK kvs) ∧ kvs.length < sizeLine ∧ Nx (upd H5 D (.dK (putK kvs k z))) else Nx H3) :=
  dc_it walk_keys Pv h0 hG (fun i x H H' hi p y => by
    obtain ⟨e, k, v, hkv, ex⟩ := y
    obtain ⟨z, hz, ek, hv⟩ := hk.at_ hkv
    subst e; subst ex; subst ek
    exact hs i z v _ hkv hz hv p) hd
/-- a list comprehension over the keys of a locked dict with names -/
theorem lc_names {d : Addr} {od : Obj} {N : List Str} {kvs : List (Key × V)} (hk : KOk N kvs) {g : TG} {tt : TT} {te : TE} {vs : List Nat} {σ : L2.St} {H1 : Hp} {D : Addr} {Qd : Hp → Prop} (Pv : Nat → Hp → Prop) (h0 : Pv 0 (upd H1 D (.lst [])))
    (hG : ∀ i H, i ≤ kvs.length → Pv i H → H d = some (.frz od (.dK kvs)))
    (hs : ∀ i z v H, kvs[i]? = some (.inr z, v) → z ∈ N → valV kvs (.inr z) = some v → Pv i H → g (.str z) (wipe σ vs) H fun σ2 H2 => wipe σ2 vs = wipe σ vs ∧ tt σ2 H2 fun b H3 =>
      if b = true then te σ2 H3 fun y H4 => ∃ acc, H4 D = some (.lst acc) ∧ acc.length < sizeLine ∧ Pv (i + 1) (upd H4 D (.lst (acc ++ [y]))) else Pv (i + 1) H3) (hd : ∀ H, Pv kvs.length H → Qd H) :
    ∃ W : Nat → Nat → Hp → Prop, (∃ m, W 0 m (upd H1 D (.lst []))) ∧ ∀ i m H, W i m H →
      ((Itk d od kvs).stop i H ∧ Qd H) ∨ ((Itk d od kvs).go i H ∧ ∃ Nx : Hp → Prop, (∀ H', Nx H' → ∃ m', m' < m ∧ W (i + 1) m' H') ∧ ∀ x H', (Itk d od kvs).yld i H x H' → g x (wipe σ vs) H' fun σ2 H2 => wipe σ2 vs = wipe σ vs ∧ tt σ2 H2 fun b H3 =>
        if b = true then te σ2 H3 fun y H4 => ∃ acc, H4 D = some (.lst acc) ∧ acc.length < sizeLine ∧ Nx (upd H4 D (.lst (acc ++ [y]))) else Nx H3) :=
  lc_it walk_keys Pv h0 hG (fun i x H H' hi p y => by
    obtain ⟨e, k, v, hkv, ex⟩ := y
    obtain ⟨z, hz, ek, hv⟩ := hk.at_ hkv
    subst e; subst ex; subst ek
    exact hs i z v _ hkv hz hv p) hd
/-- a for over the keys of a locked dict with names -/
theorem for_names {d : Addr} {od : Obj} {N : List Str} {kvs : List (Key × V)} (hk : KOk N kvs) {g : TG} {tb : TS} {D : Ends} {σ : L2.St} {H : Hp} (Pv : Nat → L2.St → Hp → Prop) (h0 : Pv 0 σ H) (hG : ∀ i σ H, i ≤ kvs.length → Pv i σ H → H d = some (.frz od (.dK kvs)))
    (hs : ∀ i z v σ H, kvs[i]? = some (.inr z, v) → z ∈ N → valV kvs (.inr z) = some v → Pv i σ H → g (.str z) σ H fun σ2 H2 => tb { D with nx := Pv (i + 1), ct := Pv (i + 1), bk := D.nx } σ2 H2) (hd : ∀ σ H, Pv kvs.length σ H → D.nx σ H) :
    ∃ W : Nat → Nat → L2.St → Hp → Prop, (∃ m, W 0 m σ H) ∧ ∀ i m σ H, W i m σ H →
      ((Itk d od kvs).stop i H ∧ D.nx σ H) ∨ ((Itk d od kvs).go i H ∧ ∃ N : L2.St → Hp → Prop, (∀ σ' H', N σ' H' → ∃ m', m' < m ∧ W (i + 1) m' σ' H') ∧ ∀ x H', (Itk d od kvs).yld i H x H' → g x σ H' fun σ2 H2 => tb { D with nx := N, ct := N, bk := D.nx } σ2 H2) :=
  for_it walk_keys Pv h0 hG (fun i x σ H H' hi p y => by
    obtain ⟨e, k, v, hkv, ex⟩ := y
    obtain ⟨z, hz, ek, hv⟩ := hk.at_ hkv
    subst e; subst ex; subst ek
    exact hs i z v σ _ hkv hz hv p) hd
/-! ### forms -/
abbrev Fm := Str → Int × Int
def RedF (f : Fm) : Prop := ∀ z, Red (f z).1 (f z).2
def SzF (n : Nat) (f : Fm) : Prop := ∀ z, Sz n (f z).1 ∧ Sz n (f z).2
theorem SzF.mono {n m : Nat} {f : Fm} (h : SzF n f) (l : n ≤ m := by decide) : SzF m f := fun z => ⟨(h z).1.mono l, (h z).2.mono l⟩
def ShR (ca : Nat → Addr) (f : Fm) (H : Hp) : Str → V → Prop := fun z v => ∃ q, v = .ref q ∧ RatAt ca H q (f z).1 (f z).2 ∧ (f z).1 ≠ 0
def ShZ (f : Fm) : Str → Prop := fun z => f z = (0, 1)
/-- the dict of a form's shares -/
def FormSh (ca : Nat → Addr) (H : Hp) (d : Addr) (N : List Str) (f : Fm) : Prop := ∃ kvs, H d = some (.dK kvs) ∧ Tab N (ShR ca f H) (ShZ f) kvs
def FormAt (ca : Nat → Addr) (H : Hp) (p : Addr) (N : List Str) (f : Fm) : Prop := ∃ dx d, H p = some (.ins (ca 3) dx [("_shares", .ref d)]) ∧ FormSh ca H d N f
theorem ShR.same {ca : Nat → Addr} {f : Fm} {H H' : Hp} (s : Same H H') {z : Str} {v : V} (h : ShR ca f H z v) : ShR ca f H' z v := by
  obtain ⟨q, e, r, n⟩ := h
  exact ⟨q, e, r.same s, n⟩
theorem RatAt.keep {ca : Nat → Addr} {H H' : Hp} {p c : Addr} {a b : Int} {u : HO} (h : RatAt ca H p a b) (e : H c = some u) (n : ∀ C dx fs, u ≠ .ins C dx fs) (k : Keep c H H') : RatAt ca H' p a b :=
  ⟨h.1, let ⟨dx, q⟩ := h.2; ⟨dx, k _ _ q (ne_of q e fun z => n _ _ _ z.symm)⟩⟩
theorem ShR.keep {ca : Nat → Addr} {f : Fm} {H H' : Hp} {c : Addr} {u : HO} (e : H c = some u) (n : ∀ C dx fs, u ≠ .ins C dx fs) (k : Keep c H H') {z : Str} {v : V} (h : ShR ca f H z v) : ShR ca f H' z v := by
  obtain ⟨q, e1, r, m⟩ := h
  exact ⟨q, e1, r.keep e n k, m⟩
theorem FormSh.same {ca : Nat → Addr} {H H' : Hp} {d : Addr} {N : List Str} {f : Fm} (h : FormSh ca H d N f) (s : Same H H') : FormSh ca H' d N f := by
  obtain ⟨kvs, e, t⟩ := h
  exact ⟨kvs, s _ _ e, t.mono (fun _ _ => ShR.same s) fun _ z => z⟩
theorem FormAt.same {ca : Nat → Addr} {H H' : Hp} {p : Addr} {N : List Str} {f : Fm} (h : FormAt ca H p N f) (s : Same H H') : FormAt ca H' p N f := by
  obtain ⟨dx, d, e, t⟩ := h
  exact ⟨dx, d, s _ _ e, t.same s⟩
theorem FormAt.put {ca : Nat → Addr} {H H' : Hp} {p c : Addr} {N : List Str} {f : Fm} {xs : List V} (h : FormAt ca H p N f) (e : H c = some (.lst xs)) (k : Keep c H H') : FormAt ca H' p N f := by
  obtain ⟨dx, d, e1, kvs, e2, t⟩ := h
  exact ⟨dx, d, k _ _ e1 (ne_of e1 e fun z => nomatch z), kvs, k _ _ e2 (ne_of e2 e fun z => nomatch z), t.mono (fun _ _ => ShR.keep e (fun _ _ _ z => nomatch z) k) fun _ z => z⟩
theorem red01 : Red 0 1 := ⟨by decide, by decide⟩
theorem FormSh.red {ca : Nat → Addr} {H : Hp} {d : Addr} {N : List Str} {f : Fm} (h : FormSh ca H d N f) : RedF f := fun z => by
  obtain ⟨kvs, _, t⟩ := h
  cases e : valV kvs (.inr z) with
  | none =>
    rw [show f z = (0, 1) from t.z z e]
    exact red01
  | some v =>
    obtain ⟨q, _, r, _⟩ := t.r z v e
    exact r.1
theorem FormAt.red {ca : Nat → Addr} {H : Hp} {p : Addr} {N : List Str} {f : Fm} (h : FormAt ca H p N f) : RedF f := by
  obtain ⟨_, _, _, t⟩ := h
  exact t.red
theorem FormAt.off {ca : Nat → Addr} {H : Hp} {p : Addr} {N : List Str} {f : Fm} (h : FormAt ca H p N f) {z : Str} (n : z ∉ N) : f z = (0, 1) := by
  obtain ⟨_, _, _, kvs, _, t⟩ := h
  exact t.off n
theorem RatAt.q {ca : Nat → Addr} {H : Hp} {p : Addr} {a b : Int} (h : RatAt ca H p a b) : RatQ ca H p a b := ⟨by have := h.1.pos; omega, by rw [nrm_id h.1]; exact h⟩
/-- sums, and products with c / d -/
def addP (x y : Int × Int) : Int × Int := nrm (x.1 * y.2 + y.1 * x.2) (x.2 * y.2)
def mulP (x y : Int × Int) : Int × Int := nrm (x.1 * y.1) (x.2 * y.2)
/-- numbers handed to a form -/
def NumR (ca : Nat → Addr) (f : Fm) (H : Hp) : Str → V → Prop := fun z v => NumV ca H v (f z).1 (f z).2
theorem NumR.same {ca : Nat → Addr} {f : Fm} {H H' : Hp} (s : Same H H') {z : Str} {v : V} (h : NumR ca f H z v) : NumR ca f H' z v := NumV.same h s
theorem dget {H : Hp} {d : Addr} {kvs : List (Key × V)} {z : Str} {v : V} (e : Rd H d (.dK kvs)) (h : valV kvs (.inr z) = some v) : DGet H d (.str z) (some v) := .inl ⟨kvs, .inr z, e, rfl, h.symm⟩
/-- what a form's dict is, while it is built over the keys of kvs -/
def Build (ca : Nat → Addr) (N : List Str) (f : Fm) (Z : Str → Prop) (R : Str → V → Hp → Prop) (H0 : Hp) (D : Addr) (kvs : List (Key × V)) (i : Nat) (H : Hp) : Prop :=
  Same H0 H ∧ ∃ new, H D = some (.dK new) ∧ Part N (fun z v => R z v H) Z kvs i new
theorem NumV.keep {ca : Nat → Addr} {H H' : Hp} {x : V} {c : Addr} {a b : Int} {u : HO} (h : NumV ca H x a b) (e : H c = some u) (n : ∀ C dx fs, u ≠ .ins C dx fs) (k : Keep c H H') : NumV ca H' x a b := h.imp id fun ⟨p, q, r⟩ => ⟨p, q, r.keep e n k⟩
theorem nd {kvs : List (Key × V)} : ∀ C dx fs, HO.dK kvs ≠ .ins C dx fs := fun _ _ _ z => nomatch z
theorem nf {o : Obj} {u : HO} : ∀ C dx fs, HO.frz o u ≠ .ins C dx fs := fun _ _ _ z => nomatch z
theorem KOk.line {N : List Str} {kvs : List (Key × V)} (h : KOk N kvs) (u : Uni N) : kvs.length < sizeLine := by
  have := h.len
  have := u.len
  rw [sizeLine_eq]
  omega
theorem Red.zero {t b : Int} (h : Red t b) (e : t = 0) : b = 1 := by
  subst e
  have c := h.cop
  have p := h.pos
  simp only [Int.natAbs_zero, Nat.gcd_zero_left] at c
  omega
theorem RatAt.keepN {ca : Nat → Addr} {H H' : Hp} {p c C dx : Addr} {a b : Int} (h : RatAt ca H p a b) (e : H c = some (.ins C dx [])) (k : Keep c H H') : RatAt ca H' p a b :=
  ⟨h.1, let ⟨dy, q⟩ := h.2; ⟨dy, k _ _ q (ne_of q e fun z => by injection z with _ _ h; cases h)⟩⟩
theorem ShR.keepN {ca : Nat → Addr} {f : Fm} {H H' : Hp} {c C dx : Addr} (e : H c = some (.ins C dx [])) (k : Keep c H H') {z : Str} {v : V} (h : ShR ca f H z v) : ShR ca f H' z v := by
  obtain ⟨q, e1, r, m⟩ := h
  exact ⟨q, e1, r.keepN e k, m⟩
theorem KOk.names {N : List Str} {kvs : List (Key × V)} (h : KOk N kvs) : ∃ ks : List Str, kvs.map (·.1) = ks.map Sum.inr ∧ ks.Nodup ∧ (∀ z, z ∈ ks ↔ ∃ v, valV kvs (.inr z) = some v) ∧ ks.length = kvs.length := by
  have all : ∀ l : List (Key × V), (∀ kv ∈ l, ∃ z ∈ N, kv.1 = .inr z) → ∃ ks : List Str, l.map (·.1) = ks.map Sum.inr := by
    intro l
    induction l with
    | nil => exact fun _ => ⟨[], rfl⟩
    | cons a l ih =>
      intro hm
      obtain ⟨z, _, e⟩ := hm a List.mem_cons_self
      obtain ⟨ks, e2⟩ := ih fun kv m => hm kv (List.mem_cons_of_mem _ m)
      exact ⟨z :: ks, by rw [List.map_cons, List.map_cons, e, e2]⟩
  obtain ⟨ks, e⟩ := all kvs h.mem
  have n := h.nd
  rw [e] at n
  refine ⟨ks, e, ?_, fun z => ?_, by have := congrArg List.length e; rw [List.length_map, List.length_map] at this; exact this.symm⟩
  · exact List.Pairwise.of_map Sum.inr (fun a b hab e => hab (by rw [e])) n
  · have m : z ∈ ks ↔ (Sum.inr z : Key) ∈ kvs.map (·.1) := by
      rw [e, List.mem_map]
      exact ⟨fun m => ⟨z, m, rfl⟩, fun ⟨y, m, q⟩ => by cases q; exact m⟩
    rw [m]
    cases q : valV kvs (.inr z) with
    | none => exact ⟨fun m => absurd m (valV_none.mp q), fun ⟨v, r⟩ => nomatch r⟩
    | some v => exact ⟨fun _ => ⟨v, rfl⟩, fun _ => List.mem_map.mpr ⟨_, valV_mem q, rfl⟩⟩
theorem Tab.put {N : List Str} {R : Str → V → Prop} {Z : Str → Prop} {kvs : List (Key × V)} {z : Str} {v : V} (h : Tab N R Z kvs) (hz : z ∈ N) (r : R z v) : Tab N R Z (putK kvs (.inr z) v) := by
  refine ⟨h.k.put hz v, fun y w q => ?_, fun y q => ?_⟩
  · rw [valV_put] at q
    by_cases c : (Sum.inr y : Key) = Sum.inr z
    · rw [if_pos c] at q
      cases q
      cases c
      exact r
    · rw [if_neg c] at q
      exact h.r y w q
  · rw [valV_put] at q
    by_cases c : (Sum.inr y : Key) = Sum.inr z
    · rw [if_pos c] at q
      cases q
    · rw [if_neg c] at q
      exact h.z y q
/-- .. where at z something else is told from then on -/
theorem Tab.set {N : List Str} {R R' : Str → V → Prop} {Z Z' : Str → Prop} {kvs : List (Key × V)} {z : Str} {v : V} (h : Tab N R Z kvs) (hz : z ∈ N) (r : R' z v) (a : ∀ y u, y ≠ z → R y u → R' y u) (b : ∀ y, y ≠ z → Z y → Z' y) : Tab N R' Z' (putK kvs (.inr z) v) := by
  refine ⟨h.k.put hz v, fun y w q => ?_, fun y q => ?_⟩
  · rw [valV_put] at q
    by_cases c : (Sum.inr y : Key) = Sum.inr z
    · rw [if_pos c] at q
      cases q
      cases c
      exact r
    · rw [if_neg c] at q
      exact a y w (fun e => c (by rw [e])) (h.r y w q)
  · rw [valV_put] at q
    by_cases c : (Sum.inr y : Key) = Sum.inr z
    · rw [if_pos c] at q
      cases q
    · rw [if_neg c] at q
      exact b y (fun e => c (by rw [e])) (h.z y q)
theorem Tab.nil {N : List Str} {R : Str → V → Prop} {Z : Str → Prop} (h : ∀ z, Z z) : Tab N R Z [] := ⟨.nil, fun z v e => (by rw [valV_nil] at e; cases e), fun z _ => h z⟩
theorem FormSh.mem {ca : Nat → Addr} {H : Hp} {N : List Str} {f : Fm} {kvs : List (Key × V)} (t : Tab N (ShR ca f H) (ShZ f) kvs) (z : Str) : (∃ v, valV kvs (.inr z) = some v) ↔ (f z).1 ≠ 0 := by
  cases q : valV kvs (.inr z) with
  | none => exact ⟨fun ⟨v, r⟩ => (nomatch r), fun n => absurd (by rw [show f z = (0, 1) from t.z z q]) n⟩
  | some v =>
    obtain ⟨_, _, _, n⟩ := t.r z v q
    exact ⟨fun _ => n, fun _ => ⟨v, rfl⟩⟩
/-- the form of one name -/
def oneF (z : Str) : Fm := fun y => if y = z then (1, 1) else (0, 1)
theorem addP_zero {x : Int × Int} (h : Red x.1 x.2) : addP x (0, 1) = x := by
  unfold addP
  rw [Int.mul_one, Int.zero_mul, Int.add_zero, Int.mul_one, nrm_id h]
theorem oneF_self {z : Str} : oneF z z = (1, 1) := if_pos rfl
theorem oneF_ne {z y : Str} (h : y ≠ z) : oneF z y = (0, 1) := if_neg h
theorem FormAt.ins {ca : Nat → Addr} {H : Hp} {p : Addr} {N : List Str} {f : Fm} (h : FormAt ca H p N f) : ∃ dx d, H p = some (.ins (ca 3) dx [("_shares", .ref d)]) := let ⟨dx, d, e, _⟩ := h; ⟨dx, d, e⟩
/-- a form and a form beside an operator of theirs -/
theorem fOwn2_of {ca : Nat → Addr} {H : Hp} {p q : Addr} {N N' : List Str} {f g : Fm} {sp : Sp} {E : XK} {Q : VK} (h : FormAt ca H p N f) (h2 : FormAt ca H q N' g) (k : sp [.ref p, .ref q] H Q E) : rOwn (ca 3) sp E (.ref p) (.ref q) H Q := by
  obtain ⟨dx, d, e⟩ := h.ins
  obtain ⟨dy, d2, e2⟩ := h2.ins
  exact ⟨p, dx, _, rfl, e, .inr ⟨q, dy, _, rfl, e2⟩, k⟩
/-- a form and an int -/
theorem fOwn_of {ca : Nat → Addr} {H : Hp} {p : Addr} {x : V} {N : List Str} {f : Fm} {sp : Sp} {E : XK} {Q : VK} (h : FormAt ca H p N f) (hx : ∃ i, x = .int i) (k : sp [.ref p, x] H Q E) : rOwn (ca 3) sp E (.ref p) x H Q := by
  obtain ⟨dx, d, e⟩ := h.ins
  exact ⟨p, dx, _, rfl, e, .inl hx, k⟩
theorem fRefl_of {ca : Nat → Addr} {H : Hp} {p : Addr} {i : Int} {N : List Str} {f : Fm} {sp : Sp} {E : XK} {Q : VK} (h : FormAt ca H p N f) (k : sp [.ref p, .int i] H Q E) : rRefl (ca 3) sp E (.int i) (.ref p) H Q := by
  obtain ⟨dx, d, e⟩ := h.ins
  exact ⟨i, p, dx, _, rfl, rfl, e, k⟩
theorem fUna_of {ca : Nat → Addr} {H : Hp} {p : Addr} {N : List Str} {f : Fm} {sp : Sp} {E : XK} {Q : VK} (h : FormAt ca H p N f) (k : sp [.ref p] H Q E) : rUna (ca 3) sp E (.ref p) H Q := by
  obtain ⟨dx, d, e⟩ := h.ins
  exact ⟨p, dx, _, rfl, e, k⟩
theorem nrm_0 {d : Int} (h : d ≠ 0) : nrm 0 d = (0, 1) := by
  rw [nrm_same h (show (1 : Int) ≠ 0 by decide) (show (0 : Int) * 1 = 0 * d by rw [Int.zero_mul, Int.zero_mul]), nrm_id red01]
theorem mulP_0 {c d : Int} (h : d ≠ 0) : mulP (0, 1) (c, d) = (0, 1) := by
  unfold mulP
  rw [Int.zero_mul, Int.one_mul, nrm_0 h]
theorem RatQ.keep {ca : Nat → Addr} {H H' : Hp} {p c : Addr} {a b : Int} {u : HO} (h : RatQ ca H p a b) (e : H c = some u) (n : ∀ C dx fs, u ≠ .ins C dx fs) (k : Keep c H H') : RatQ ca H' p a b := ⟨h.ne, h.at_.keep e n k⟩
theorem NumQ.keep {ca : Nat → Addr} {H H' : Hp} {x : V} {c : Addr} {a b : Int} {u : HO} (h : NumQ ca H x a b) (e : H c = some u) (n : ∀ C dx fs, u ≠ .ins C dx fs) (k : Keep c H H') : NumQ ca H' x a b := h.imp id fun ⟨p, q, r⟩ => ⟨p, q, r.keep e n k⟩
theorem NumQ.own {ca : Nat → Addr} {H : Hp} {x : V} {a b : Int} (h : NumQ ca H x a b) : (∃ i, x = .int i) ∨ (∃ b dy gs, x = .ref b ∧ H b = some (.ins (ca 3) dy gs)) ∨ ∃ b dy gs, x = .ref b ∧ H b = some (.ins (ca 2) dy gs) := by
  rcases h with ⟨e, _⟩ | ⟨p, e, r⟩
  · exact .inl ⟨_, e⟩
  · obtain ⟨dx, q⟩ := r.ins
    exact .inr (.inr ⟨p, dx, _, e, q⟩)
theorem fOwnN_of {ca : Nat → Addr} {H : Hp} {p : Addr} {x : V} {N : List Str} {f : Fm} {a b : Int} {sp : Sp} {E : XK} {Q : VK} (h : FormAt ca H p N f) (hx : NumQ ca H x a b) (k : sp [.ref p, x] H Q E) : rOwnN (ca 3) (ca 2) sp E (.ref p) x H Q := by
  obtain ⟨dx, d, e⟩ := h.ins
  exact ⟨p, dx, _, rfl, e, hx.own, k⟩
theorem mulP_neg {y : Int × Int} (h : Red y.1 y.2) : mulP y (-1, 1) = (-y.1, y.2) := by
  have n : y.2 ≠ 0 := by have := h.pos; omega
  unfold mulP
  show nrm (y.1 * -1) (y.2 * 1) = _
  rw [Int.mul_one, Int.mul_neg, Int.mul_one, nrm_neg n, nrm_id h]
theorem sub_0 {x y : Int × Int} (h : Red x.1 x.2) (k : Red y.1 y.2) : (addP x (mulP y (-1, 1))).1 = 0 ↔ x = y := by
  have n1 : x.2 ≠ 0 := by have := h.pos; omega
  have n2 : y.2 ≠ 0 := by have := k.pos; omega
  rw [mulP_neg k]
  unfold addP
  rw [nrm_zero (Int.mul_ne_zero n1 n2)]
  show x.1 * y.2 + -y.1 * x.2 = 0 ↔ x = y
  rw [Int.neg_mul]
  constructor
  · intro e
    obtain ⟨a, b⟩ := h.uniq k (show x.1 * y.2 = y.1 * x.2 by omega)
    exact Prod.ext a b
  · rintro rfl
    omega
/-! ### drawn words -/
theorem joinL_nil : ∀ ps : List (List Nat), TL.joinL [] ps = ps.flatten
  | [] => rfl
  | [p] => by simp [TL.joinL]
  | p :: q :: r => by
    show p ++ ([] ++ TL.joinL [] (q :: r)) = _
    rw [List.nil_append, joinL_nil (q :: r), List.flatten_cons (l := p)]
def Sign (z : Str) : Prop := ∃ c, (97 ≤ c ∧ c ≤ 122) ∧ z = ⟨#[c]⟩
theorem Sign.lets {z : Str} (h : Sign z) : Lets z := by
  obtain ⟨c, hc, rfl⟩ := h
  exact lets_one hc
theorem Sign.len {z : Str} (h : Sign z) : z.length = 1 := by
  obtain ⟨c, hc, rfl⟩ := h
  rfl
theorem tl_len {z : Str} : (tl z).length = z.length := by
  unfold tl Str.length
  rw [Array.length_toList]
theorem join_signs {zs : List Str} (h : ∀ z ∈ zs, Sign z) : Lets (Txt.join Str.empty zs) ∧ (Txt.join Str.empty zs).length = zs.length := by
  have e : tl (Txt.join Str.empty zs) = (zs.map tl).flatten := by
    rw [TL.join_eq, TL.tl_join]
    exact joinL_nil _
  constructor
  · intro c m
    rw [e] at m
    obtain ⟨l, hl, hc⟩ := List.mem_flatten.mp m
    obtain ⟨z, hz, rfl⟩ := List.mem_map.mp hl
    exact (h z hz).lets c hc
  · rw [← tl_len, e]
    clear e
    induction zs with
    | nil => rfl
    | cons z zs ih =>
      rw [List.map_cons, List.flatten_cons, List.length_append, ih fun y m => h y (List.mem_cons_of_mem _ m), tl_len, (h z List.mem_cons_self).len, List.length_cons]
      omega
theorem abc_all : (Str.ofString "abcdefghijklmnopqrstuvwxyz").length = 26 ∧ ∀ d : Fin 26, (Str.ofString "abcdefghijklmnopqrstuvwxyz").cps[d.val]? = some (97 + d.val) := by decide +kernel
/-- one of the letters -/
theorem abc_at {d : Int} (h0 : 0 ≤ d) (h1 : d < 26) : (Str.ofString "abcdefghijklmnopqrstuvwxyz").cps[d.toNat]? = some (97 + d.toNat) := abc_all.2 ⟨d.toNat, by omega⟩
theorem sign_abc {d : Int} (h1 : d < 26) : Sign ⟨#[97 + d.toNat]⟩ := ⟨_, by omega, rfl⟩
theorem rIxS_abc {d : Int} {H : Hp} {Q : VK} (h0 : 0 ≤ d) (h1 : d < 26) (k : Q (.str ⟨#[97 + d.toNat]⟩) H) : rIxS (.str (Str.ofString "abcdefghijklmnopqrstuvwxyz")) (.int d) H Q := by
  obtain ⟨n, rfl⟩ := Int.eq_ofNat_of_zero_le h0
  have e : (Str.ofString "abcdefghijklmnopqrstuvwxyz").cps.toList[n]? = some (97 + n) := by
    rw [Array.getElem?_toList]
    exact abc_at h0 h1
  exact ⟨_, _, _, rfl, rfl, line_le (by rw [abc_all.1]; decide), atI_nat e, k⟩
theorem keep_new {b D : Addr} {H H' : Hp} {o : HO} (k : Keep b H H') (n : H D = none) : Keep b H (upd H' D o) := fun a u e m => by
  rw [upd_ne (ne_of_none e n)]
  exact k a u e m
theorem size_line {n : Nat} (h : n < 10000) : n < sizeLine := Nat.lt_of_lt_of_le h (line_le (by decide))
theorem size_le {n : Nat} (h : n < 10000) : n ≤ sizeLine := Nat.le_of_lt (size_line h)
theorem strs_snoc {acc : List Str} {z : Str} : acc.map V.str ++ [V.str z] = (acc ++ [z]).map V.str := by simp
theorem keep_free {b p : Addr} {H H' : Hp} (k : Keep b H H') (n : H' p = none) (m : p ≠ b) : H p = none := by
  cases e : H p with
  | none => rfl
  | some o =>
    rw [k p o e m] at n
    cases n
theorem keep_put {b p : Addr} {H H1 H2 : Hp} (k : Keep b H H1) (k2 : Keep p H1 H2) (n : H p = none) : Keep b H H2 := fun a o e m => k2 a o (k a o e m) (ne_of_none e n)
/-- a text once or not at all -/
theorem op_mulS1 {X : Cx} : OpR X (binaryOp .Mult) (fun x y H Q => ∃ z n, x = .str z ∧ y = .int n ∧ (n = 0 ∨ n = 1) ∧ ∀ w, (w = Str.empty ∨ w = z) → Q (.str w) H) := by
  intro pins s σ H x y v u Q I rx ry h
  obtain ⟨z, n, rfl, rfl, hn, q⟩ := h
  obtain ⟨m1, m2⟩ := mul_01 (z := z) hn
  exact op_mulS pins s σ H _ _ v u Q I rx ry ⟨z, n, rfl, rfl, m1, q _ m2⟩
/-! ### the law's tables -/
def TupF (f : Fm) (H : Hp) : Str → V → Prop := fun z v => ∃ t, v = .ref t ∧ H t = some (.tup [.int (f z).1, .int (f z).2])
/-- a dict with a pair for each name -/
def TabAt (H : Hp) (d : Addr) (N : List Str) (f : Fm) : Prop := ∃ kvs, H d = some (.dK kvs) ∧ Tab N (TupF f H) (ShZ f) kvs
theorem TupF.same {f : Fm} {H H' : Hp} (s : Same H H') {z : Str} {v : V} (h : TupF f H z v) : TupF f H' z v := let ⟨t, e, q⟩ := h; ⟨t, e, s _ _ q⟩
theorem TupF.keep {f : Fm} {H H' : Hp} {c : Addr} {u : HO} (e : H c = some u) (n : ∀ xs, u ≠ .tup xs) (k : Keep c H H') {z : Str} {v : V} (h : TupF f H z v) : TupF f H' z v := let ⟨t, e1, q⟩ := h; ⟨t, e1, k _ _ q (ne_of q e fun z => n _ z.symm)⟩
theorem TabAt.same {H H' : Hp} {d : Addr} {N : List Str} {f : Fm} (h : TabAt H d N f) (s : Same H H') : TabAt H' d N f := let ⟨kvs, e, t⟩ := h; ⟨kvs, s _ _ e, t.mono (fun _ _ => TupF.same s) fun _ z => z⟩
theorem TabAt.put {H H' : Hp} {d c : Addr} {N : List Str} {f : Fm} {xs : List V} (h : TabAt H d N f) (e : H c = some (.lst xs)) (k : Keep c H H') : TabAt H' d N f :=
  let ⟨kvs, e1, t⟩ := h; ⟨kvs, k _ _ e1 (ne_of e1 e fun z => nomatch z), t.mono (fun _ _ => TupF.keep e (fun _ z => nomatch z) k) fun _ z => z⟩
theorem TabAt.off {H : Hp} {d : Addr} {N : List Str} {f : Fm} (h : TabAt H d N f) {z : Str} (n : z ∉ N) : f z = (0, 1) := let ⟨_, _, t⟩ := h; t.off n
theorem ndt {kvs : List (Key × V)} : ∀ xs, HO.dK kvs ≠ .tup xs := fun _ z => nomatch z
theorem nft {o : Obj} {u : HO} : ∀ xs, HO.frz o u ≠ .tup xs := fun _ z => nomatch z
def setF (f : Fm) (z : Str) (x : Int × Int) : Fm := fun y => if y = z then x else f y
theorem setF_self {f : Fm} {z : Str} {x : Int × Int} : setF f z x z = x := if_pos rfl
theorem setF_ne {f : Fm} {z y : Str} {x : Int × Int} (h : y ≠ z) : setF f z x y = f y := if_neg h
theorem setF_red {f : Fm} {z : Str} {x : Int × Int} (h : RedF f) (k : Red x.1 x.2) : RedF (setF f z x) := fun y => by
  unfold setF
  split
  · exact k
  · exact h y
theorem setF_sz {n : Nat} {f : Fm} {z : Str} {x : Int × Int} (h : SzF n f) (k : Sz n x.1 ∧ Sz n x.2) : SzF n (setF f z x) := fun y => by
  unfold setF
  split
  · exact k
  · exact h y
theorem zeroF_sz {n : Nat} (l : 1 ≤ n := by decide) : SzF n fun _ => (0, 1) := fun _ => ⟨Sz.zero.mono l, Sz.one.mono l⟩
theorem Tab.setT {N : List Str} {f : Fm} {H : Hp} {d p : Addr} {kvs : List (Key × V)} {y : Str} {x : Int × Int} (t : Tab N (TupF f H) (ShZ f) kvs) (hd : H d = some (.dK kvs)) (hy : y ∈ N) (hp : H p = some (.tup [.int x.1, .int x.2])) :
    TabAt (upd H d (.dK (putK kvs (.inr y) (.ref p)))) d N (setF f y x) := by
  refine ⟨_, upd_same, t.set hy ?_ (fun z u c r => ?_) fun z c n => ?_⟩
  · refine ⟨p, rfl, ?_⟩
    rw [setF_self, upd_ne (ne_of hp hd fun z => nomatch z)]
    exact hp
  · obtain ⟨q, e, h⟩ := TupF.keep hd ndt keep_upd r
    exact ⟨q, e, by rw [setF_ne c]; exact h⟩
  · show setF f y x z = (0, 1)
    rw [setF_ne c]
    exact n
theorem Part.again {N : List Str} {R : Str → V → Prop} {Z : Str → Prop} {kvs new : List (Key × V)} {i : Nat} {z : Str} {v : V} (h : Part N R Z kvs i new) (m : (Sum.inr z : Key) ∈ (kvs.take i).map (·.1)) (hz : z ∈ N) (r : R z v) : Part N R Z kvs i (putK new (.inr z) v) := by
  refine ⟨h.k.put hz v, fun y w q => ?_, fun y q m => ?_⟩
  · rw [valV_put] at q
    by_cases c : (Sum.inr y : Key) = Sum.inr z
    · rw [if_pos c] at q
      cases q
      cases c
      exact ⟨r, m⟩
    · rw [if_neg c] at q
      exact h.r y w q
  · rw [valV_put] at q
    by_cases c : (Sum.inr y : Key) = Sum.inr z
    · rw [if_pos c] at q
      cases q
    · rw [if_neg c] at q
      exact h.z y q m
theorem keep_lock {H H2 : Hp} {b d : Addr} {od : Obj} {u : HO} (h : H d = some u) (s : Keep b (upd H d (.frz od u)) H2) : Keep b H (upd H2 d u) := fun a o e n => by
  by_cases c : a = d
  · subst c
    rw [h] at e
    cases e
    exact upd_same
  · rw [upd_ne c]
    exact s a o (by rw [upd_ne c]; exact e) n
theorem same_updL {H H1 : Hp} {d : Addr} {o : HO} (s : Same H H1) : Same (upd H d o) (upd H1 d o) := fun a u e => by
  by_cases c : a = d
  · subst c
    rw [upd_same] at e ⊢
    exact e
  · rw [upd_ne c] at e ⊢
    exact s a u e
theorem Bag.ned {H : Hp} {L b d : Addr} {kvs : List (Key × V)} (h : Bag H L b) (e : H d = Option.some (.dK kvs)) : d ≠ b ∧ d ≠ L := by
  obtain ⟨ns, i, big, mix, cnt, h1, h2, h3⟩ := h
  exact ⟨ne_of e h1 fun z => (nomatch z), ne_of e h2 fun z => nomatch z⟩
/-! ### lists of words compared -/
theorem strs_lay : ∀ {zs : List Str}, (∀ z ∈ zs, Lets z) → PyData.canLayAll0 (zs.map PyData.str) = true ∧ PyData.depthAll (zs.map PyData.str) = 0
  | [], _ => ⟨rfl, rfl⟩
  | z :: zs, h => by
    obtain ⟨a, b⟩ := strs_lay (zs := zs) fun y m => h y (List.mem_cons_of_mem _ m)
    have hz := h z List.mem_cons_self
    constructor
    · show (PyData.strOk z && PyData.canLayAll0 (zs.map PyData.str)) = true
      rw [a, Bool.and_true]
      show z.cps.all (· < 0x110000) = true
      rw [← Array.all_toList, List.all_eq_true]
      intro c m
      have := hz c m
      exact decide_eq_true (by omega)
    · show max 0 (PyData.depthAll (zs.map PyData.str)) = 0
      rw [b]
      rfl
theorem strs_dp {K : PySem.W.Frag} {H : Hp} : ∀ {zs : List Str}, DpAll K H (zs.map V.str) (zs.map PyData.str)
  | [] => .nil
  | z :: zs => .cons (.str z) strs_dp
theorem neS {K : PySem.W.Frag} {H : Hp} {p q : Addr} {zs : List Str} {Q : VK} (hp : H p = some (.lst (zs.map V.str))) (hq : H q = some (.lst (zs.map V.str))) (h : ∀ z ∈ zs, Lets z) (k : Q (.bl false) H) : rNeD K (.ref p) (.ref q) H Q := by
  obtain ⟨a, b⟩ := strs_lay h
  have c : (PyData.list (zs.map .str)).canLay0 = true := a
  have s : SeqAt.shaped (PyData.list (zs.map .str)) = true := by
    unfold SeqAt.shaped
    rw [c, Bool.true_and]
    refine decide_eq_true ?_
    show PyData.depthAll (zs.map .str) + 1 ≤ 64
    rw [b]
    decide
  refine ⟨_, _, .lst (SqL.of hp) strs_dp, .lst (SqL.of hq) strs_dp, s, s, ?_⟩
  rw [SeqAt.eqv_refl _ c]
  exact k
theorem eqS {K : PySem.W.Frag} {H : Hp} {p q : Addr} {zs : List Str} {Q : VK} (hp : H p = some (.lst (zs.map V.str))) (hq : H q = some (.lst (zs.map V.str))) (h : ∀ z ∈ zs, Lets z) (k : Q (.bl true) H) : rEqD K (.ref p) (.ref q) H Q := by
  obtain ⟨a, b⟩ := strs_lay h
  have c : (PyData.list (zs.map .str)).canLay0 = true := a
  have s : SeqAt.shaped (PyData.list (zs.map .str)) = true := by
    unfold SeqAt.shaped
    rw [c, Bool.true_and]
    refine decide_eq_true ?_
    show PyData.depthAll (zs.map .str) + 1 ≤ 64
    rw [b]
    decide
  refine ⟨_, _, .lst (SqL.of hp) strs_dp, .lst (SqL.of hq) strs_dp, s, s, ?_⟩
  rw [SeqAt.eqv_refl _ c]
  exact k
theorem pw_uniq {l m : List Str} (h : l.Pairwise fun a b => ¬ tl b < tl a) (k : m.Pairwise fun a b => ¬ tl b < tl a) (a : l.Nodup) (b : m.Nodup) (s : ∀ z, z ∈ l ↔ z ∈ m) : l = m :=
  List.Perm.eq_of_pairwise (fun a b _ _ h1 h2 => tl_inj (List.le_antisymm (List.not_lt.mp h1) (List.not_lt.mp h2))) h k (nodup_perm a b s)
/-! ### tables added and multiplied -/
def sumF (s : Int) (f g : Fm) : Fm := fun z => nrm ((f z).1 * (g z).2 + s * (g z).1 * (f z).2) ((f z).2 * (g z).2)
def timesF (f : Fm) (c d : Int) : Fm := fun z => mulP (f z) (c, d)
theorem keys_str {kvs : List (Key × V)} {ks : List Str} (e : kvs.map (·.1) = ks.map Sum.inr) : (kvs.map fun kv => kV kv.1) = ks.map V.str := by
  have := congrArg (List.map kV) e
  rw [List.map_map, List.map_map] at this
  exact this
def doneF (L : List Str) (h : Fm) : Fm := fun z => if z ∈ L then h z else (0, 1)
theorem doneF_red {L : List Str} {h : Fm} (r : RedF h) : RedF (doneF L h) := fun z => by
  unfold doneF
  split
  · exact r z
  · exact red01
theorem doneF_snoc {L : List Str} {h : Fm} {y : Str} : doneF (L ++ [y]) h = setF (doneF L h) y (h y) := by
  funext z
  unfold doneF setF
  by_cases c : z = y
  · subst c
    simp
  · simp [c]
theorem sumF_red {s : Int} {f g : Fm} (rf : RedF f) (rg : RedF g) : RedF (sumF s f g) := fun z => nrm_red (Int.mul_ne_zero (by have := (rf z).pos; omega) (by have := (rg z).pos; omega))
theorem sumF_add {f g : Fm} : sumF 1 f g = fun z => addP (f z) (g z) := by
  funext z
  unfold sumF addP
  rw [Int.one_mul]
theorem sumF_sub {f g : Fm} (r : RedF g) : sumF (-1) f g = fun z => addP (f z) (mulP (g z) (-1, 1)) := by
  funext z
  rw [mulP_neg (r z)]
  unfold sumF addP
  show nrm ((f z).1 * (g z).2 + -1 * (g z).1 * (f z).2) _ = nrm ((f z).1 * (g z).2 + -(g z).1 * (f z).2) _
  rw [Int.neg_mul 1, Int.one_mul]
theorem sumF_off {s : Int} {f g : Fm} {z : Str} (a : f z = (0, 1)) (b : g z = (0, 1)) : sumF s f g z = (0, 1) := by
  unfold sumF
  rw [a, b]
  show nrm (0 * 1 + s * 0 * 1) (1 * 1) = (0, 1)
  rw [Int.mul_zero]
  exact nrm_0 (by decide)
theorem rd_lock {H : Hp} {a b : Addr} {u v : HO} {od : Obj} (h1 : H a = some u) (h2 : H b = some v) : Rd (upd H b (.frz od v)) a u := by
  by_cases c : a = b
  · subst c
    rw [h1] at h2
    cases h2
    exact .inr ⟨od, upd_same⟩
  · exact .inl (by rw [upd_ne c]; exact h1)
theorem rd_same {H H' : Hp} {a : Addr} {u : HO} (s : Same H H') (h : Rd H a u) : Rd H' a u := h.imp (fun e => s _ _ e) fun ⟨o, e⟩ => ⟨o, s _ _ e⟩
theorem dget_at {H : Hp} {d : Addr} {kvs : List (Key × V)} {z : Str} (e : Rd H d (.dK kvs)) : DGet H d (.str z) (valV kvs (.inr z)) := .inl ⟨kvs, .inr z, e, rfl, rfl⟩
theorem get_tup {H : Hp} {N : List Str} {f : Fm} {kvs : List (Key × V)} {z : Str} {p : Addr} (t : Tab N (TupF f H) (ShZ f) kvs) (hp : H p = some (.tup [.int 0, .int 1])) : ∃ u, (valV kvs (.inr z)).getD (.ref p) = .ref u ∧ H u = some (.tup [.int (f z).1, .int (f z).2]) := by
  cases q : valV kvs (.inr z) with
  | none => exact ⟨p, rfl, by rw [show f z = (0, 1) from t.z z q]; exact hp⟩
  | some v =>
    obtain ⟨u, rfl, h⟩ := t.r z v q
    exact ⟨u, rfl, h⟩
theorem fsame {ca : Nat → Addr} {H H' : Hp} {p : Addr} {N : List Str} {f : Fm} (s : Same H H') (h : FormAt ca H p N f) : FormAt ca H' p N f := h.same s
theorem tsame {H H' : Hp} {d : Addr} {N : List Str} {f : Fm} (s : Same H H') (h : TabAt H d N f) : TabAt H' d N f := h.same s
theorem addP_sz {n m : Nat} {x y : Int × Int} (hx : Sz n x.1 ∧ Sz n x.2) (hy : Sz m y.1 ∧ Sz m y.2) (nx : x.2 ≠ 0) (ny : y.2 ≠ 0) : Sz (n + m + 1) (addP x y).1 ∧ Sz (n + m + 1) (addP x y).2 := by
  have n0 := Int.mul_ne_zero nx ny
  unfold addP
  exact ⟨((hx.1.mul hy.2).add' ((hy.1.mul hx.2).mono (by omega))).le (nrm_le1 n0), ((hx.2.mul hy.2).mono (by omega)).le (nrm_le2 n0)⟩
theorem mulP_sz {n m : Nat} {x y : Int × Int} (hx : Sz n x.1 ∧ Sz n x.2) (hy : Sz m y.1 ∧ Sz m y.2) (nx : x.2 ≠ 0) (ny : y.2 ≠ 0) : Sz (n + m) (mulP x y).1 ∧ Sz (n + m) (mulP x y).2 := by
  have n0 := Int.mul_ne_zero nx ny
  unfold mulP
  exact ⟨(hx.1.mul hy.1).le (nrm_le1 n0), (hx.2.mul hy.2).le (nrm_le2 n0)⟩
theorem RedF.ne {f : Fm} (h : RedF f) (z : Str) : (f z).2 ≠ 0 := by have := (h z).pos; omega
theorem addF_sz {n m k : Nat} {f g : Fm} (hf : SzF n f) (hg : SzF m g) (rf : RedF f) (rg : RedF g) (l : n + m + 1 ≤ k := by decide) : SzF k fun z => addP (f z) (g z) := fun z =>
  let ⟨a, b⟩ := addP_sz (hf z) (hg z) (rf.ne z) (rg.ne z); ⟨a.mono l, b.mono l⟩
theorem mulF_sz {n m k : Nat} {f : Fm} {c d : Int} (hf : SzF n f) (rf : RedF f) (hc : Sz m c) (hd : Sz m d) (nd : d ≠ 0) (l : n + m ≤ k := by decide) : SzF k fun z => mulP (f z) (c, d) := fun z =>
  let ⟨a, b⟩ := mulP_sz (y := (c, d)) (hf z) ⟨hc, hd⟩ (rf.ne z) nd; ⟨a.mono l, b.mono l⟩
theorem neg_sub {x y : Int × Int} (h : Red x.1 x.2) (k : Red y.1 y.2) : mulP (addP x (mulP y (-1, 1))) (-1, 1) = addP y (mulP x (-1, 1)) := by
  have n1 : x.2 ≠ 0 := by have := h.pos; omega
  have n2 : y.2 ≠ 0 := by have := k.pos; omega
  rw [mulP_neg k, mulP_neg h]
  have r : Red (addP x (-y.1, y.2)).1 (addP x (-y.1, y.2)).2 := nrm_red (Int.mul_ne_zero n1 n2)
  rw [mulP_neg r]
  unfold addP
  show (-(nrm (x.1 * y.2 + -y.1 * x.2) (x.2 * y.2)).1, (nrm (x.1 * y.2 + -y.1 * x.2) (x.2 * y.2)).2) = nrm (y.1 * x.2 + -x.1 * y.2) (y.2 * x.2)
  rw [← nrm_neg (Int.mul_ne_zero n1 n2), Int.mul_comm y.2 x.2]
  congr 1
  rw [Int.neg_mul, Int.neg_mul]
  omega
/-! ### a dict and its copy -/
def Plain1 (v : V) : Prop := flatB v = true ∨ ∃ a, v = .ref a
theorem hits_copy {A : Around} {s : Shared} {all : List (Key × V)} {other : List (Key × Value)} (r : KV all other) : ∀ {part : List (Key × V)} {mine : List (Key × Value)}, KV part mine → (∀ e ∈ part, valV all e.1 = some e.2) → (∀ e ∈ part, Plain1 e.2) → PySem.W.KeqHits A s other mine true
  | _, _, .nil, _, _ => .nil
  | e :: part, (k, v) :: mine, .cons ⟨same, rv⟩ rest, hall, hplain => by
    obtain ⟨y, hy, ry⟩ := RelO.some_of (v := e.2) (o := valueAt other e.1) (by rw [← hall e List.mem_cons_self]; exact r.val e.1)
    have same : e.1 = k := same
    rw [same] at hy
    have tail := hits_copy (A := A) (s := s) r rest (fun x m => hall x (List.mem_cons_of_mem _ m)) fun x m => hplain x (List.mem_cons_of_mem _ m)
    have both : PySem.W.KeqHits A s other ((k, v) :: mine) (true && true) := by
      refine .hit hy ?_ tail
      rcases hplain e List.mem_cons_self with h | ⟨a, h⟩
      · exact eqAt_same rv ry h
      · rw [h] at rv ry
        cases rv
        cases ry
        exact SeqAt.EqAt.same (.ref a)
    exact both
def rNeCopy : R2 := fun x y H Q => ∃ (a b : Addr) (kvs : List (Key × V)), x = .ref a ∧ y = .ref b ∧ H a = some (.dK kvs) ∧ H b = some (.dK kvs) ∧ (kvs.map (·.1)).Nodup ∧ (∀ e ∈ kvs, Plain1 e.2) ∧ Q (.bl false) H
theorem op_ne_copy {X : Cx} (hu : X.A.units < cLine) : OpR X (compareOp .NotEq) rNeCopy := by
  intro pins s σ H x y v u Q I rx ry ⟨a, b, kvs, ex, ey, ea, eb, hnd, hpl, q⟩
  subst ex ey
  cases (show v = Value.ref a from rx)
  cases (show u = Value.ref b from ry)
  obtain ⟨_, la, va, ka, da⟩ := (show ObjOk X.prog X.w H s.heap a (.dK kvs) from I.hok a _ ea)
  obtain ⟨_, lb, vb, kb, db⟩ := (show ObjOk X.prog X.w H s.heap b (.dK kvs) from I.hok b _ eb)
  have len : va.length = vb.length := by rw [← ka.length, ← kb.length]
  refine PySem.W.keq_ne (knd := mixKind X.prog X.w) (r := true) la lb da db hu (fun _ => hits_copy kb ka (fun e m => valV_of hnd m) hpl) (fin_bl I q (by simp [len]))
def nameB (z : Str) : Bool := decide (z.length ≤ 12) && (decide (0 < z.length) && z.cps.toList.all fun c => decide (97 ≤ c) && decide (c ≤ 122))
theorem nameB_ok {z : Str} (h : nameB z = true) : NameOk z := by
  obtain ⟨h1, h⟩ := Bool.and_eq_true_iff.mp h
  obtain ⟨h2, h3⟩ := Bool.and_eq_true_iff.mp h
  refine ⟨of_decide_eq_true h1, of_decide_eq_true h2, fun c m => ?_⟩
  obtain ⟨a, b⟩ := Bool.and_eq_true_iff.mp (List.all_eq_true.mp h3 c m)
  exact ⟨of_decide_eq_true a, of_decide_eq_true b⟩
theorem namesB_ok {ws : List Str} (h : ws.all nameB = true) : ∀ z ∈ ws, NameOk z := fun z m => nameB_ok (List.all_eq_true.mp h z m)
theorem FormSh.putD {ca : Nat → Addr} {H H' : Hp} {d c : Addr} {N : List Str} {f : Fm} {kvs : List (Key × V)} (h : FormSh ca H d N f) (e : H c = some (.dK kvs)) (n : d ≠ c) (k : Keep c H H') : FormSh ca H' d N f :=
  let ⟨ks, e1, t⟩ := h; ⟨ks, k _ _ e1 n, t.mono (fun _ _ => ShR.keep e nd k) fun _ z => z⟩
theorem TabAt.putD {H H' : Hp} {d c : Addr} {N : List Str} {f : Fm} {kvs : List (Key × V)} (h : TabAt H d N f) (e : H c = some (.dK kvs)) (n : d ≠ c) (k : Keep c H H') : TabAt H' d N f :=
  let ⟨ks, e1, t⟩ := h; ⟨ks, k _ _ e1 n, t.mono (fun _ _ => TupF.keep e ndt k) fun _ z => z⟩
theorem TabAt.ne {H : Hp} {d c : Addr} {N : List Str} {f : Fm} (h : TabAt H d N f) (n : H c = none) : d ≠ c := let ⟨_, e, _⟩ := h; ne_of_none e n
theorem numR_plain {ca : Nat → Addr} {H : Hp} {N : List Str} {f : Fm} {kvs : List (Key × V)} (t : Tab N (NumR ca f H) (ShZ f) kvs) : ∀ e ∈ kvs, Plain1 e.2 := fun e m => by
  obtain ⟨k, v⟩ := e
  obtain ⟨z, _, ek⟩ := t.k.mem _ m
  have ek : k = .inr z := ek
  subst ek
  rcases t.r z v (valV_of t.k.nd m) with ⟨h, _⟩ | ⟨p, h, _⟩
  · exact .inl (by show flatB v = true; rw [h]; rfl)
  · exact .inr ⟨p, h⟩
theorem FormSh.putL {ca : Nat → Addr} {H H' : Hp} {d c : Addr} {N : List Str} {f : Fm} {xs : List V} (h : FormSh ca H d N f) (e : H c = some (.lst xs)) (k : Keep c H H') : FormSh ca H' d N f :=
  let ⟨ks, e1, t⟩ := h; ⟨ks, k _ _ e1 (ne_of e1 e fun z => nomatch z), t.mono (fun _ _ => ShR.keep e (fun _ _ _ z => nomatch z) k) fun _ z => z⟩
theorem oneT {H : Hp} {d t : Addr} {N : List Str} {z : Str} (hz : z ∈ N) (ht : H t = some (.tup [.int 1, .int 1])) (n : t ≠ d) : TabAt (upd H d (.dK (mergeK [] [(.inr z, .ref t)]))) d N (oneF z) := by
  refine ⟨_, upd_same, Tab.set (R := fun _ _ => False) (Z := fun _ => True) (.nil fun _ => True.intro) hz ?_ (fun _ _ _ h => h.elim) fun y c _ => oneF_ne c⟩
  refine ⟨t, rfl, ?_⟩
  rw [oneF_self, upd_ne n]
  exact ht
/-! ### values that may be names -/
def nmV (v : V) : Bool := match v with
  | .str z => nmB z
  | _ => false
def shortV (v : V) : Prop := flatV v = true ∧ ∀ z, v = .str z → z.length ≤ 1000
end Lo

set_option Elab.async false
set_option linter.all false
set_option maxRecDepth 100000
set_option maxHeartbeats 4000000
namespace Lo
open PySem PySem.Spec PyProof.Rows L2
/-! ### own errors with fields -/
/-- __init__ of an error stores its parameters under the names fs -/
def spErr (C : Addr) (fs : List Str) : Sp := fun vs H Q _ => ∃ (a : Addr) (us : List V), vs = .ref a :: us ∧ us.length = fs.length ∧ H a = some (exo a C none) ∧
  ∀ (dx : Addr) (H2 : Hp), H dx = none → dx ≠ a → H2 a = some (exo a C (some dx)) → H2 dx = some (exd dx (fs.zip us).reverse) → (∀ b o, H b = some o → b ≠ a → H2 b = some o) → Q .non H2
structure OwnE (P : Program) (w : World) (K : PySem.W.Frag) (mg : Str → Option Value) (base : Heap) (x : Str) (C : Addr) (fs : List Str) : Prop where
  cl : OexC K C
  ex : ∃ f fd ps, FnOk P w K mg base (L2N.CX P w) 1 f fd ps (spErr C fs) ∧ PySem.W.findIn K (.ref C) "__init__" = some (some (.ref f)) ∧ PySem.W.typeIn K (.ref f) = some (.type "function") ∧ mg x = some (.ref C) ∧ Binds K fd ps []
theorem pmk_err {X : Cx} {x : Str} {C : Addr} {fs : List Str} {e : Expr} {es : List Expr} {ta : TA} {p pos : Pos} (O : OwnE X.prog X.w X.K X.mg X.base x C fs) (hr : Room 2 X.A) (hg : Gl X x) (ha : PA X (e :: es) ta)
    (hdb : (x == ("__debug__" : Str)) = false := by decide) (he : starEach (e :: es) X.env = (false, eval e X.env) :: starEach es X.env := by rfl) (hpl : (backTo pos (starEach es X.env)).any (·.1) = false := by rfl) :
    L2N.PMk X (.Call (.Name x p) (e :: es) [] pos) (tMkO C (spErr C fs) [] ta) := by
  obtain ⟨f, fd, ps, G, hi, ht, hm, hb⟩ := O.ex
  obtain ⟨nm, q, N, bs, bm, sn, sub, ab, col, dd, k0, k1, k2, k3, k5, hC, hbm⟩ := O.cl.cls
  intro pins s σ H Q I h
  apply wpAny_Call_Name_kw (ld_glob I hg hm ?_ hdb)
  apply PySem.W.callWith_K (h₀ := X.base) I.ok.mod.kin O.cl.kC ?_ he hpl
  apply thn (ha.run pos pins s σ H _ I h)
  rintro us ⟨hp, g, dr, tk, os⟩ ⟨vs, H1, I1, r1, l1000, q1⟩
  refine ⟨I1.kIn, ?_⟩
  have sz : hp.objs.size ≤ hp.objs.size + 1 := Nat.le_succ _
  have hn : H1 (hp.objs.size + 1) = none := I1.hok.fresh sz
  have old : ∀ b o, hp.get? b = some o → ((hp.push (PySem.W.kdv_tup us)).push (PySem.HandSPX.excO C hp.objs.size)).get? b = some o := fun b o e =>
    Heap.get?_push_of_some _ (Heap.get?_push_of_some _ e)
  have new : ((hp.push (PySem.W.kdv_tup us)).push (PySem.HandSPX.excO C hp.objs.size)).get? (hp.objs.size + 1) =
      some (PySem.HandSPX.excO C hp.objs.size) := by heap_get
  have I2 := I1.laid (t' := tk) old sz (exo_ok (P := X.prog) (w := X.w) (H := upd H1 (hp.objs.size + 1) (exo (hp.objs.size + 1) C none)) new)
  have hsp := q1 _ hn
  have r2 : Vals (V.ref (hp.objs.size + 1) :: (vs ++ [])) (Value.ref (hp.objs.size + 1) :: (us ++ [])) := .cons rfl (r1.append .nil)
  have lps : (Value.ref (hp.objs.size + 1) :: us ++ []).length = ps.length := by
    have e := r2.length
    rw [G.len _ _ _ _ hsp] at e
    exact e.symm
  have lus : us.length ≤ sizeLine := by rw [← Paired.length r1, sizeLine_eq]; omega
  have run := G.run _ X.stack _ _ ⟨Value.ref (hp.objs.size + 1) :: us, []⟩ _ _ _ (fun _ _ _ => False) (hr.make C us []) (I2.env0.make C us []) (hb _ (Value.ref (hp.objs.size + 1) :: us) I2.kIn lps) r2 hsp
  refine wpAny_call (PySem.HandSPX.call_own F.excBase_ValueError (fun Y => PySem.HandSPX.refsVE_contains Y bm hbm) (I1.kIn _ _ hC) (PySem.W.looks_findIn I1.kIn hi) (fun self => PySem.W.bind_fn I1.kIn self ht) lus (codeAny_mono run ?_))
  rintro (er | fl) s' hq'
  · exact pas0 σ pins _ _ er s' I2 hq'
  · cases fl with
    | ret u =>
      obtain ⟨v, G2, hos, ab, un, ok2, rv, ev, d, gs, ga, gd, fresh, q3⟩ := hq'
      subst ev
      obtain ⟨z2, y2, x2, w2, u2⟩ := s'
      obtain ⟨t0, GG, J, kept, gone, at2, na⟩ := mk_end0 (d2 := x2) (t2 := w2) I1 sz old un ok2 hos ab ga gd fresh
      have hz : L2N.Zn (.ref C) (some d) ({ cls := .ref C, dict := some d, data := .fields #[.ref t0, .none, .none, .none, .bool false, .none] } : Obj) := ⟨rfl, rfl, fun vs e => by cases e; rfl⟩
      exact ⟨rv, ⟨_, _, _, ⟨GG, y2, x2, w2, u2⟩, _, _, _, rfl, J, kept, gone, at2, hz, rfl, rfl, na, rfl, ab, raises_own O.cl.exC O.cl.tyC, q3⟩⟩
    | next => exact hq'.elim
    | brk => exact hq'.elim
    | cont => exact hq'.elim
/-- raise X(e, ..) -/
def tRaiseE (C : Addr) (fs : List Str) (W : WX) (ta : TA) : TS := fun _ σ H => tMkO C (spErr C fs) [] ta σ H fun cls d H' => W cls d σ H'
theorem ps_raiseE {X : Cx} {x : Str} {C : Addr} {fs : List Str} {e : Expr} {es : List Expr} {ta : TA} {W : WX} {p pos pos2 : Pos} (hc : X.calm = true) (O : OwnE X.prog X.w X.K X.mg X.base x C fs) (hr : Room 2 X.A) (tk : L2N.Takes X W) (hg : Gl X x) (ha : PA X (e :: es) ta)
    (hdb : (x == ("__debug__" : Str)) = false := by decide) (he : starEach (e :: es) X.env = (false, eval e X.env) :: starEach es X.env := by rfl) (hpl : (backTo pos (starEach es X.env)).any (·.1) = false := by rfl) :
    PS X (.Raise (some (.Call (.Name x p) (e :: es) [] pos)) none pos2) (tRaiseE C fs W ta) := L2N.ps_raise hc tk (pmk_err O hr hg ha hdb he hpl)
/-- behind the arguments' reading -/
theorem err_in {C : Addr} {fs : List Str} {us : List V} {H1 : Hp} {Q : XK} (hl : us.length = fs.length) (h100 : fs.length ≤ 100) (k : ∀ (d : Addr) (H2 : Hp), H1 d = none → Same H1 H2 → H2 d = some (.xd (fs.zip us).reverse) → Q (.ref C) (some d) H2) :
    us.length ≤ 1000 ∧ ∀ a, H1 a = none → spErr C fs (.ref a :: (us ++ [])) (upd H1 a (exo a C none))
      (fun v H2 => v = .non ∧ ∃ (d : Addr) (fs' : List (Str × V)), H2 a = some (exo a C (some d)) ∧ H2 d = some (exd d fs') ∧ H1 d = none ∧ Q (.ref C) (some d) (upd (L2.del H2 a) d (.xd fs'))) (fun _ _ _ => False) := by
  refine ⟨by omega, fun a na => ⟨a, us, by rw [List.append_nil], hl, upd_same, fun dx H2 nd ne ea ed sm => ⟨rfl, dx, _, ea, ed, ?_, ?_⟩⟩⟩
  · rw [upd_ne ne] at nd
    exact nd
  · rw [upd_ne ne] at nd
    refine k dx _ nd (fun b o e => ?_) upd_same
    have hb := ne_of_none e na
    rw [upd_ne (ne_of_none e nd), del_ne hb]
    exact sm b o (by rw [upd_ne hb]; exact e) hb
/-- the stores of __init__ -/
theorem err_1 {K : PySem.W.Frag} {C a : Addr} {f : Str} {y : V} {H : Hp} {R : Hp → Prop} (T : OexC K C) (hno : PySem.W.findIn K (.ref C) f = some none) (h : H a = some (exo a C none)) (k : ∀ dx H2, H dx = none → dx ≠ a → H2 a = some (exo a C (some dx)) → H2 dx = some (exd dx [(f, y)]) → (∀ b o, H b = some o → b ≠ a → H2 b = some o) → R H2) :
    ∃ a' C' : Addr, V.ref a = .ref a' ∧ OexC K C' ∧ PySem.W.findIn K (.ref C') f = some none ∧
      ((H a' = some (exo a' C' none) ∧ ∀ dx, H dx = none → dx ≠ a' → R (upd (upd H dx (exd dx [(f, y)])) a' (exo a' C' (some dx)))) ∨
        ∃ (dx : Addr) (fs : List (Str × V)), H a' = some (exo a' C' (some dx)) ∧ H dx = some (exd dx fs) ∧ fs.length ≤ 900 ∧ R (upd H dx (exd dx ((f, y) :: fs)))) :=
  ⟨a, C, rfl, T, hno, .inl ⟨h, fun dx n ne => k dx _ n ne upd_same (by rw [upd_ne ne]; exact upd_same) fun b o e m => by rw [upd_ne m, upd_ne (ne_of_none e n)]; exact e⟩⟩
theorem err_2 {K : PySem.W.Frag} {C a dx : Addr} {f : Str} {y : V} {H : Hp} {R : Hp → Prop} {fs : List (Str × V)} (T : OexC K C) (hno : PySem.W.findIn K (.ref C) f = some none) (h : H a = some (exo a C (some dx))) (h2 : H dx = some (exd dx fs)) (hl : fs.length ≤ 900) (hne : dx ≠ a)
    (k : ∀ H2, H2 a = some (exo a C (some dx)) → H2 dx = some (exd dx ((f, y) :: fs)) → (∀ b o, H b = some o → b ≠ dx → H2 b = some o) → R H2) :
    ∃ a' C' : Addr, V.ref a = .ref a' ∧ OexC K C' ∧ PySem.W.findIn K (.ref C') f = some none ∧
      ((H a' = some (exo a' C' none) ∧ ∀ dx, H dx = none → dx ≠ a' → R (upd (upd H dx (exd dx [(f, y)])) a' (exo a' C' (some dx)))) ∨
        ∃ (dx : Addr) (fs : List (Str × V)), H a' = some (exo a' C' (some dx)) ∧ H dx = some (exd dx fs) ∧ fs.length ≤ 900 ∧ R (upd H dx (exd dx ((f, y) :: fs)))) :=
  ⟨a, C, rfl, T, hno, .inr ⟨dx, fs, h, h2, hl, k _ (by rw [upd_ne hne.symm]; exact h) upd_same fun b o e m => by rw [upd_ne m]; exact e⟩⟩
end Lo

set_option Elab.async false
set_option linter.all false
set_option maxRecDepth 100000
set_option maxHeartbeats 4000000
namespace Lo
open PySem L2
/-! ### sets of words: set(list), sorted(set) -/
section
variable {P : Program} {w : World} {K : Type} [DecidableEq K]
def SetQ (knd : KeyKind P w K) (h : Heap) (a : Addr) (S : K → Bool) (n : Nat) : Prop :=
  ∃ o es ep t, h.get? a = some o ∧ o.ExactSet ∧ o.data = Data.set es ep t ∧ ElemsOf knd es.toList ∧ (es.toList.Pairwise fun x y => ∀ k, knd.is k x.2 = true → knd.is k y.2 = false) ∧
    (∀ k, S k = true ↔ ∃ e, e ∈ es.toList ∧ knd.is k e.2 = true) ∧ es.size < scanBound ∧ t.fits es.size = true ∧ es.size = n ∧ Ris t.place.toList ∧ (w.params.followText "set-order" = true ∨ t.led = true)
theorem gate {M : Model} {A : Around} {E : Value → Shared → Prop} {s : Shared} {α : Type} {g : Bool → Sem Unit} {b : Bool} {rest : Unit → Sem α} {R : α → Shared → Prop} (hg : ∀ (b : Bool) (s₁ : Shared) (Q' : Unit → Shared → Prop), Q' () s₁ → wpAny M A (g b) Q' E s₁)
    (k : (∀ (b : Bool) (s₁ : Shared) (Q' : Unit → Shared → Prop), Q' () s₁ → wpAny M A (g b) Q' E s₁) → wpAny M A (rest ()) R E s) : wpAny M A (g b >>= rest) R E s := wpAny_bind (hg _ _ _ (k hg))
theorem pw_sym {knd : KeyKind P w K} {es es' : List (Int × Value)} (h : es.Perm es') (k : es'.Pairwise fun x y => ∀ k, knd.is k x.2 = true → knd.is k y.2 = false) : es.Pairwise fun x y => ∀ k, knd.is k x.2 = true → knd.is k y.2 = false :=
  (h.pairwise_iff (fun {x y} hxy k hy => by
    cases e : knd.is k x.2 with
    | false => rfl
    | true => rw [hxy k e] at hy; exact hy.symm)).mpr k
theorem setQ_tail {knd : KeyKind P w K} {A : Around} {E : Value → Shared → Prop} {s : Shared} {a : Addr} {g : Bool → Sem Unit} (hg : ∀ (b : Bool) (s₁ : Shared) (Q' : Unit → Shared → Prop), Q' () s₁ → wpAny (model P w) A (g b) Q' E s₁)
    {o : Obj} {es : Array (Int × Value)} {ep : Nat} {t : SetTable} (ho : s.heap.get? a = some o) (hex : o.ExactSet) (hd : o.data = Data.set es ep t) {es1 : Array (Int × Value)} {t2 : SetTable} {S' : K → Bool}
    (hel : ElemsOf knd es1.toList) (hnd : es1.toList.Pairwise fun x y => ∀ k, knd.is k x.2 = true → knd.is k y.2 = false) (hm : ∀ k, S' k = true ↔ ∃ e, e ∈ es1.toList ∧ knd.is k e.2 = true) (hsb : es1.size < scanBound)
    (hf : t2.fits es1.size = true) (hr : Ris t2.place.toList) (hl : w.params.followText "set-order" = true ∨ t2.led = true) {wasDummy : Bool} {R : Option Bool → Shared → Prop}
    (h : ∀ h', Heap.SameBut a s.heap h' → SetQ knd h' a S' es1.size → R (some true) { s with heap := h' }) :
    wpAny (model P w) A (do
      storeSet a es1 t2
      if (!wasDummy && t2.tooFull) = true then do
        g (relayAll t2 es1 (SetTable.grown es1.size)).snd.snd
        storeSet a (relayAll t2 es1 (SetTable.grown es1.size)).fst (relayAll t2 es1 (SetTable.grown es1.size)).snd.fst
        pure (some true)
      else pure (some true)) R E s := by
  have e1 := store_at (es' := es1) (t' := t2) ho hd
  refine wpAny_bind (wpAny_storeSet_of ho hd ?_ (fits_of_scanBound hsb))
  have sb := Heap.SameBut.update s.heap a (Obj.putSet es1 t2)
  generalize s.heap.update a (Obj.putSet es1 t2) = h1 at *
  by_cases c : (!wasDummy && t2.tooFull) = true
  · rw [if_pos c]
    refine wpAny_bind (hg _ _ _ ?_)
    have hp := relayAll_perm t2 es1 (SetTable.grown es1.size)
    have hz : (relayAll t2 es1 (SetTable.grown es1.size)).fst.size = es1.size := by simpa using hp.length_eq
    refine wpAny_bind (wpAny_storeSet_of e1 rfl ?_ (fits_of_scanBound (by rw [hz]; exact hsb)))
    have e2 := store_at (es' := (relayAll t2 es1 (SetTable.grown es1.size)).fst) (t' := (relayAll t2 es1 (SetTable.grown es1.size)).snd.fst) e1 rfl
    have sb2 := sb.trans (Heap.SameBut.update h1 a (Obj.putSet (relayAll t2 es1 (SetTable.grown es1.size)).fst (relayAll t2 es1 (SetTable.grown es1.size)).snd.fst))
    refine wpAny_pure (h _ sb2 ⟨_, _, _, _, e2, ⟨hex.1, hex.2.1, hex.2.2⟩, rfl, fun e m => hel e (hp.mem_iff.mp m), pw_sym hp hnd, fun k => ?_, by rw [hz]; exact hsb, relayAll_fits _ _ _, hz, relayAll_ris _ _ _, ?_⟩)
    · rw [hm]
      exact ⟨fun ⟨e, m, q⟩ => ⟨e, hp.mem_iff.mpr m, q⟩, fun ⟨e, m, q⟩ => ⟨e, hp.mem_iff.mp m, q⟩⟩
    · rw [relayAll_led]
      exact hl
  · rw [if_neg c]
    exact wpAny_pure (h _ sb ⟨_, _, _, _, e1, ⟨hex.1, hex.2.1, hex.2.2⟩, rfl, hel, hnd, hm, hsb, hf, rfl, hr, hl⟩)
theorem setQ_add {knd : KeyKind P w K} {A : Around} {E : Value → Shared → Prop} {s : Shared} {a : Addr} {S : K → Bool} {n : Nat} {k : K} {x : Value} {Q : Bool → Shared → Prop}
    (hS : SetQ knd s.heap a S n) (hn : n + 1 < scanBound) (hx : knd.is k x = true) (hsc : x.scannable = true)
    (h : ∀ h', Heap.SameBut a s.heap h' → SetQ knd h' a (fun j => S j || decide (j = k)) (if S k = true then n else n + 1) → Q (!S k) { s with heap := h' }) :
    wpAny (model P w) A (setAddHashed a x (knd.hash k)) Q E s := by
  obtain ⟨o, es, ep, t, ho, hex, hd, hel, hnd, hm, hsb, hf, hsz, hr, hl⟩ := hS
  unfold setAddHashed
  refine wpAny_holding ?_
  unfold setAddHashedIn
  refine wpAny_bind (wpAny_setState_of ho hd hf ?_)
  simp only
  rw [byScan_of hsc hsb hel]
  rw [if_pos rfl]
  refine wpAny_bind ?_
  unfold setAddByScan
  refine wpAny_bind (wpAny_rule ?_)
  refine wpAny_bind (wpAny_setScan_of hx ho hd hf hel ?_)
  have hk : S k = true ↔ (es.toList.findIdx? fun e => knd.is k e.2).isSome = true := by
    rw [hm, List.findIdx?_isSome, List.any_eq_true]
  cases q : es.toList.findIdx? fun e => knd.is k e.2 with
  | some j =>
    rw [q] at hk
    have hk : S k = true := hk.mpr rfl
    refine wpAny_pure (wpAny_pure ?_)
    have e : (fun j => S j || decide (j = k)) = S := by
      funext j
      by_cases c : j = k
      · rw [c, hk]; rfl
      · rw [decide_eq_false c, Bool.or_false]
    have := h s.heap ⟨rfl, fun _ _ => rfl⟩ (by rw [e, if_pos hk]; exact ⟨o, es, ep, t, ho, hex, hd, hel, hnd, hm, hsb, hf, hsz, hr, hl⟩)
    rw [hk] at this
    exact this
  | none =>
    rw [q] at hk
    have hk : S k = false := by
      cases e : S k with
      | false => rfl
      | true => exact nomatch hk.mp e
    rw [hk, if_neg (fun z => nomatch z)] at h
    simp only
    have hp := layNew_perm t es (knd.hash k) x
    have hf1 := layNew_fits t es (knd.hash k) x
    have hr1 := layNew_ris t es (knd.hash k) x hr
    have hl1 := layNew_led t es (knd.hash k) x
    have hz : (layNew t es (knd.hash k) x).1.size = n + 1 := by
      have := hp.length_eq
      simp at this
      omega
    have hmem : ∀ e, e ∈ (layNew t es (knd.hash k) x).1.toList ↔ e ∈ es.toList ∨ e = (knd.hash k, x) := fun e => by
      rw [hp.mem_iff, Array.toList_push, List.mem_append, List.mem_singleton]
    have tl : ∀ (g : Bool → Sem Unit) (hg : ∀ (b : Bool) (s₁ : Shared) (Q' : Unit → Shared → Prop), Q' () s₁ → wpAny (model P w) A (g b) Q' E s₁) (t2 : SetTable), t2.fits (layNew t es (knd.hash k) x).1.size = true → Ris t2.place.toList → t2.led = t.led → wpAny (model P w) A (do
        storeSet a (layNew t es (knd.hash k) x).1 t2
        if (!(layNew t es (knd.hash k) x).2.2.1 && t2.tooFull) = true then do
          g (relayAll t2 (layNew t es (knd.hash k) x).1 (SetTable.grown (layNew t es (knd.hash k) x).1.size)).snd.snd
          storeSet a (relayAll t2 (layNew t es (knd.hash k) x).1 (SetTable.grown (layNew t es (knd.hash k) x).1.size)).fst (relayAll t2 (layNew t es (knd.hash k) x).1 (SetTable.grown (layNew t es (knd.hash k) x).1.size)).snd.fst
          pure (some true)
        else pure (some true)) (fun a_1 s' => wpAny (model P w) A (match a_1 with | some added => pure added | none => setAddHashedIn a x (knd.hash k) 99999) Q E s') E s := by
      intro g hg t2 f2 r2 l2
      refine setQ_tail (knd := knd) (S' := fun j => S j || decide (j = k)) hg ho hex hd ?_ ?_ ?_ (by rw [hz]; exact hn) f2 r2 (by rw [l2]; exact hl) fun h' sb hq => wpAny_pure (h h' sb (by rw [← hz]; exact hq))
      · intro e m
        rcases (hmem e).mp m with m | rfl
        · exact hel e m
        · exact ⟨⟨k, hx, rfl⟩, hsc⟩
      · refine pw_sym hp ?_
        rw [Array.toList_push, List.pairwise_append]
        refine ⟨hnd, List.pairwise_singleton _ _, fun e m y my j hj => ?_⟩
        rw [List.mem_singleton] at my
        subst my
        cases ex : knd.is j x with
        | false => rfl
        | true =>
          have ej := knd.inj x j k ex hx
          subst ej
          rw [(hm j).mpr ⟨e, m, hj⟩] at hk
          cases hk
      · intro j
        rw [Bool.or_eq_true, decide_eq_true_iff, hm]
        constructor
        · rintro (⟨e, m, q⟩ | rfl)
          · exact ⟨e, (hmem e).mpr (.inl m), q⟩
          · exact ⟨_, (hmem _).mpr (.inr rfl), hx⟩
        · rintro ⟨e, m, q⟩
          rcases (hmem e).mp m with m | rfl
          · exact .inl ⟨e, m, q⟩
          · exact .inr (knd.inj x j k q hx)
    refine gate (fun b s₁ Q' q => ?_) fun hg => ?_
    · cases b
      · exact wpAny_pure q
      · exact wpAny_rule q
    by_cases c : (layNew t es (knd.hash k) x).2.1.plain = true
    · rw [if_pos c, hashByValue_scannable 8 hsc]
      refine wpAny_bind (wpAny_pure ?_)
      refine tl _ hg _ ?_ ?_ ?_
      · split
        · exact hf1
        · exact hf1
      · split
        · exact hr1
        · exact hr1
      · split
        · exact hl1
        · exact hl1
    · rw [if_neg c]
      refine wpAny_bind (wpAny_pure ?_)
      exact tl _ hg _ hf1 hr1 hl1
theorem SetQ.at {knd : KeyKind P w K} {h h' : Heap} {a : Addr} {S : K → Bool} {n : Nat} (q : SetQ knd h a S n) (k : ∀ o, h.get? a = some o → h'.get? a = some o) : SetQ knd h' a S n :=
  let ⟨o, es, ep, t, ho, r⟩ := q
  ⟨o, es, ep, t, k o ho, r⟩
theorem SetQ.congr {knd : KeyKind P w K} {h : Heap} {a : Addr} {S S' : K → Bool} {n : Nat} (q : SetQ knd h a S n) (k : S' = S) : SetQ knd h a S' n := k ▸ q
theorem setQ_update {knd : KeyKind P w K} {A : Around} {I : Addr} {fp wr : List Addr} {G : Array GenState → Array GenState → Prop} {n : Nat} {Pv : Nat → Value → Prop} {St : Nat → Shared → Prop} {R : Result → Shared → Prop}
    (hW : WalksS P w A.in1 I fp wr G n Pv St) (S : Addr) (hS : ¬ S ∈ fp) (ks : List K) (hn : n = ks.length) (hb : ks.length + 1 < scanBound) (hv : ∀ i v, Pv i v → ∃ k, ks[i]? = some k ∧ knd.is k v = true ∧ v.scannable = true) :
    ∀ (k i : Nat) (s : Shared), n - i = k → i ≤ n → St i s → (∃ c, c ≤ i ∧ SetQ knd s.heap S (fun j => decide (j ∈ ks.take i)) c) →
      (∀ (s' : Shared) (c : Nat), Moved (S :: wr) G s s' → c ≤ n → SetQ knd s'.heap S (fun j => decide (j ∈ ks)) c → R (Except.ok (Flow.ret Value.none)) s') →
      codeAny (model P w) A (Code.builtin "set.update.loop" { pos := [Value.ref S, Value.ref I] }) R s
  | k, i, s, hk, hi, hst, ⟨c, hc, hq⟩, h => by
    refine codeAny_builtin PyProof.Rows.F.entry_set_update_loop ?_
    unfold Builtin.«set.update.loop»
    simp only
    show wpAny _ A.in1 _ _ _ s
    have hSw : ¬ S ∈ wr := fun m => hS (hW.sub _ m)
    by_cases e : i = n
    · subst e
      refine wpAny_bind (hW.done s _ _ hst fun s' m => wpAny_pure (h s' c ⟨fun b o nb => m.heap b o fun z => nb (List.mem_cons_of_mem _ z), m.gens, m.drawn, m.os, m.toks⟩ hc ?_))
      refine (hq.at fun o => m.heap S o hSw).congr ?_
      rw [hn, List.take_length]
    · refine wpAny_bind (hW.item i s _ _ (by omega) hst fun v s' hp hst' m => ?_)
      obtain ⟨z, hz, hzv, hsc⟩ := hv i v hp
      simp only
      refine wpAny_bind (wpAny_holding ?_)
      unfold setAdd
      refine wpAny_holding (wpAny_bind (knd.pyHash hzv ?_))
      have hq1 := hq.at fun o => m.heap S o hSw
      refine setQ_add (s := { s' with toks := s'.toks + 1 }) (n := c) hq1 (by omega) hzv hsc fun h' sb q2 => wpAny_pure ⟨plainId_quiet PyProof.Rows.F.plain_set_update_loop _, ?_⟩
      have hst2 := hW.frame (i + 1) s' h' (s'.toks + 1) hst' (Nat.le_succ _) fun b mb o ho => by rw [sb.2 b (fun z => hS (z ▸ mb))]; exact ho
      refine setQ_update hW S hS ks hn hb hv (n - (i + 1)) (i + 1) _ rfl (by omega) hst2 ⟨_, ?_, q2.congr ?_⟩ fun s3 c3 m3 => h s3 c3 ⟨fun b o nb ho => ?_, ?_, ?_, ?_, ?_⟩
      · split <;> omega
      · funext j
        have e : ks.take (i + 1) = ks.take i ++ [z] := by rw [List.take_add_one, hz]; rfl
        rw [e]
        by_cases c1 : j ∈ ks.take i
        · rw [decide_eq_true c1, decide_eq_true (List.mem_append_left _ c1)]; rfl
        · rw [decide_eq_false c1, Bool.false_or]
          by_cases c2 : j = z
          · rw [decide_eq_true c2, decide_eq_true (List.mem_append_right _ (by rw [c2]; simp))]
          · rw [decide_eq_false c2, decide_eq_false fun q => (List.mem_append.mp q).elim c1 fun q => c2 (by simpa using q)]
      · refine m3.heap b o nb ?_
        show h'.get? b = some o
        rw [sb.2 b (fun z => nb (by rw [z]; exact List.mem_cons_self))]
        exact m.heap b o (fun z => nb (List.mem_cons_of_mem _ z)) ho
      · exact hW.gtrans _ _ _ m.gens m3.gens
      · exact m3.drawn.trans m.drawn
      · exact m3.os.trans m.os
      · exact Nat.le_trans m.toks (Nat.le_trans (Nat.le_succ _) m3.toks)
  termination_by k => k
  decreasing_by omega
theorem tc_quiet (a : Args) : (Code.builtin "type.__call__" a).quiet = true := by
  unfold Code.quiet Thread.loud
  simp [L2.call_set_tups._proof_1, Thread.atCollectorCode, Thread.yieldsInsideHandler, Thread.atExit]
theorem call_setQ {knd : KeyKind P w K} {A : Around} {E : Value → Shared → Prop} {s : Shared} {l : Addr} {items : Array Value} (ks : List K) {Q : Value → Shared → Prop} (hA : A.handled = none) (hl : s.heap.IsList l items)
    (hlen : items.size = ks.length) (hb : ks.length + 1 < scanBound) (hv : ∀ (i : Nat) (v : Value), items[i]? = some v → ∃ k, ks[i]? = some k ∧ knd.is k v = true ∧ v.scannable = true)
    (h : ∀ (h' : Heap) (tk c : Nat), c ≤ ks.length → SetQ knd h' s.heap.objs.size (fun j => decide (j ∈ ks)) c → (∀ (b : Addr) (o : Obj), s.heap.get? b = some o → h'.get? b = some o) → Q (Value.ref s.heap.objs.size) { s with heap := h', toks := tk }) :
    wpAny (model P w) A (call (Value.type "set") [Value.ref l]) Q E s := by
  refine wpAny_call (codeAny_of_tree ?_)
  show wpAny _ (A.under _) (pure (Fin.again (Code.builtin "type.__call__" { pos := [Value.type "set", Value.ref l] }))) _ _ s
  refine wpAny_pure ⟨tc_quiet _, ?_⟩
  refine codeAny_builtin F.entry_type_call ?_
  show wpAny _ A.in1 _ _ _ s
  unfold Builtin.«type.__call__»
  simp only
  refine wpAny_ite_false (by decide) ?_
  refine wpAny_ite_false (by decide +kernel) ?_
  rw [F.typeCall_set_1]
  refine wpAny_bind (wpAny_pure ?_)
  have hs := F.called_set
  obtain ⟨c0, tl, hm⟩ := hs.mro
  rw [hm]
  refine wpAny_bind (wpAny_pure ?_)
  refine wpAny_ite_false rfl ?_
  rw [hs.made]
  refine wpAny_bind (wpAny_pure ?_)
  simp only
  refine wpAny_bind (wpAny_pure ?_)
  refine wpAny_bind (wpAny_holding (wpAny_call ?_))
  refine codeAny_mono (code_set_led1 (E := fun _ _ => False) (Q₁ := fun v s' => v = Value.ref s.heap.objs.size ∧ s' = { s with heap := s.heap.push { cls := Value.type "set", data := Data.set #[] 0 (SetTable.fresh 0 0 !w.params.followText "set-order") } }) _ ⟨rfl, rfl⟩) fun r s1 hr => ?_
  obtain ⟨v, rfl, e1, e2⟩ : ∃ v, r = .ok (.ret v) ∧ v = Value.ref s.heap.objs.size ∧ s1 = { s with heap := s.heap.push { cls := Value.type "set", data := Data.set #[] 0 (SetTable.fresh 0 0 !w.params.followText "set-order") } } := by
    match r with
    | .ok (.ret v) => exact ⟨v, rfl, hr.1, hr.2⟩
    | .error _ => exact hr.elim
    | .ok (.next) => exact hr.elim
    | .ok (.brk) => exact hr.elim
  subst e1
  subst e2
  simp only
  have ho := Heap.get?_push_size (h := s.heap) (o := { cls := Value.type "set", data := Data.set #[] 0 (SetTable.fresh 0 0 !w.params.followText "set-order") }) rfl
  refine wpAny_bind (wpAny_isInstance (T := "set") ⟨_, ho, rfl⟩ hs.sub ?_)
  refine wpAny_ite_false rfl ?_
  refine wpAny_bind (wpAny_holding ?_)
  unfold callSpecial?
  refine wpAny_bind (wpAny_specialOf (T := "set") ⟨_, ho, rfl⟩ hs.init.lookup ?_)
  simp only
  refine wpAny_holding ?_
  rw [hs.init.bind]
  refine wpAny_bind (wpAny_pure ?_)
  simp only
  refine wpAny_bind (wpAny_call ?_)
  refine codeAny_call_builtin hs.init.plain F.entry_set_init (check_set_init_1 ⟨_, ho, rfl⟩ ?_)
  unfold Builtin.«set.__init__»
  simp only [List.cons_append, List.nil_append]
  refine wpAny_bind (wpAny_pure ?_)
  refine wpAny_bind ?_
  unfold typeNameOfCut
  refine wpAny_bind (?_ : wpAny _ _ (shownTypeOf _) _ _ _)
  unfold shownTypeOf
  refine wpAny_bind (wpAny_typeOf (T := "set") ⟨_, ho, rfl⟩ ?_)
  refine wpAny_ite_false (by decide) (wpAny_pure ?_)
  unfold typeNameCut typeName
  refine wpAny_pure ?_
  refine wpAny_bind ?_
  unfold checkCount
  refine wpAny_ite_false rfl ?_
  refine wpAny_ite_false rfl ?_
  refine wpAny_ite_false rfl (wpAny_pure ?_)
  refine wpAny_bind (wpAny_pure ?_)
  unfold setUsed
  refine wpAny_bind (wpAny_bind (wpAny_setState_of ho rfl rfl (wpAny_pure ?_)))
  refine wpAny_ite_false rfl ?_
  unfold Builtin.Frozenset.updateFrom
  refine wpAny_bind (wpAny_bind ?_)
  unfold Builtin.Frozenset.isAnySet
  obtain ⟨ol, hol, hcls, cap, hdat⟩ := hl
  have hol1 := Heap.get?_push_of_some (o := { cls := Value.type "set", data := Data.set #[] 0 (SetTable.fresh 0 0 !w.params.followText "set-order") }) hol
  refine wpAny_bind (wpAny_isInstance (T := "list") ⟨_, hol1, hcls⟩ F.sub_list_set ?_)
  refine wpAny_isInstance (T := "list") ⟨_, hol1, hcls⟩ F.sub_list_frozenset ?_
  refine wpAny_ite_false rfl ?_
  refine wpAny_bind (wpAny_typeOf (T := "list") ⟨_, hol1, hcls⟩ ?_)
  refine wpAny_ite_false (by decide) ?_
  refine wpAny_bind (wpAny_pyIter_list ⟨_, hol1, hcls, cap, hdat⟩ ?_)
  refine wpAny_bind (wpAny_runValue ?_)
  have hlt : l ≠ s.heap.objs.size + 1 := Nat.ne_of_lt (Nat.lt_succ_of_lt (Heap.lt_size hol))
  have hlt2 : l ≠ s.heap.objs.size := Nat.ne_of_lt (Heap.lt_size hol)
  have hI := Heap.get?_push_size (s.heap.push { cls := Value.type "set", data := Data.set #[] 0 (SetTable.fresh 0 0 !w.params.followText "set-order") }) (o := { cls := Value.type "list_iterator", data := Data.fields #[Value.ref l, Value.int 0 0] }) rfl
  have hol2 := Heap.get?_push_of_some { cls := Value.type "list_iterator", data := Data.fields #[Value.ref l, Value.int 0 0] } hol1
  have ho2 := Heap.get?_push_of_some { cls := Value.type "list_iterator", data := Data.fields #[Value.ref l, Value.int 0 0] } ho
  have hsz : (s.heap.push { cls := Value.type "set", data := Data.set #[] 0 (SetTable.fresh 0 0 !w.params.followText "set-order") }).objs.size = s.heap.objs.size + 1 := Heap.size_push _ _
  rw [hsz] at hI ⊢
  refine setQ_update (knd := knd) (Walks.toS (Walks.list (A := A.in1.in1.in1) hA (s.heap.objs.size + 1) l hlt items)) s.heap.objs.size ?_ ks hlen hb hv items.size 0 _ rfl (Nat.zero_le _) ⟨?_, ?_⟩ ⟨0, Nat.le_refl _, ?_⟩ fun s3 c3 m3 hc3 q3 => ?_
  · intro m
    simp only [List.mem_cons, List.not_mem_nil, or_false] at m
    rcases m with m | m
    · exact absurd m (Nat.ne_of_lt (Nat.lt_succ_self _))
    · exact hlt2 m.symm
  · exact ⟨_, hI, rfl, rfl⟩
  · exact ⟨_, hol2, hcls, cap, hdat⟩
  · refine ⟨_, _, _, _, ho2, ⟨rfl, rfl, rfl⟩, rfl, fun e m => ?_, ?_, fun j => ?_, ?_, rfl, rfl, ?_, ?_⟩
    · exact absurd m (by simp)
    · exact List.Pairwise.nil
    · simp
    · show 0 < scanBound
      omega
    · exact List.Pairwise.nil
    · show w.params.followText "set-order" = true ∨ (!w.params.followText "set-order") = true
      cases w.params.followText "set-order"
      · exact .inr rfl
      · exact .inl rfl
  · refine wpAny_pure (wpAny_pure (wpAny_pure ?_))
    refine wpAny_ite_false (by decide) (wpAny_pure ?_)
    have eg : s3.gens = s.gens := m3.gens
    have ed : s3.drawn = s.drawn := m3.drawn
    have eo : s3.os = s.os := m3.os
    have := h s3.heap s3.toks c3 (by omega) q3 fun b o hb => m3.heap b o (fun m => ?_) (Heap.get?_push_of_some _ (Heap.get?_push_of_some _ hb))
    · rw [← eg, ← ed, ← eo] at this
      exact this
    · have hb1 := Heap.lt_size hb
      rcases List.mem_cons.mp m with m | m
      · exact absurd m (Nat.ne_of_lt hb1)
      · exact absurd (List.mem_singleton.mp m) (Nat.ne_of_lt (Nat.lt_succ_of_lt hb1))
/-! ### sorted of a set of texts -/
def toS : Value → Str
  | .str z _ => z
  | _ => Str.empty
theorem strs_are : ∀ {vs : List Value}, (∀ v ∈ vs, ∃ z t, v = Value.str z t) → PyProof.Rows.StrsAre vs (vs.map toS)
  | [], _ => .nil
  | v :: vs, h => by
    obtain ⟨z, t, rfl⟩ := h v List.mem_cons_self
    exact .cons z t (strs_are fun u m => h u (List.mem_cons_of_mem _ m))
theorem isStrOf_of {z : Str} {v : Value} (h : Value.isStrOf z v = true) : ∃ t, v = Value.str z t := by
  cases v <;> simp [Value.isStrOf, Value.isStr] at h
  subst h
  exact ⟨_, rfl⟩
theorem sorted_setQ {A : Around} {E : Value → Shared → Prop} {s : Shared} {a : Addr} {S : Str → Bool} {n : Nat} {Q : Value → Shared → Prop} (hq : SetQ (strKind P w) s.heap a S n) (hA : A.handled = none) (hn : n < 64)
    (h : ∀ (s' : Shared) (p : Nat) (out : Array Value) (c : Nat) (ys : List Str), (∀ (b : Addr) (o : Obj), s.heap.get? b = some o → s'.heap.get? b = some o) → s'.gens = s.gens → s'.os = s.os → s.heap.objs.size ≤ p →
      s'.heap.get? p = some (PyProof.Rows.seqObj "list" out c) → PyProof.Rows.StrsAre out.toList ys → PyProof.Rows.sortedS ys = true → ys.Nodup → (∀ z, z ∈ ys ↔ S z = true) → ys.length = n → Q (Value.ref p) s') :
    wpAny (model P w) A (call (Value.builtin "sorted") [Value.ref a]) Q E s := by
  obtain ⟨o, es, ep, t, ho, hex, hd, hel, hnd, hm, hsb, hf, hsz, hr, hl⟩ := hq
  refine Calls.call_function_entry PyProof.Rows.kind_sorted PyProof.Rows.plain_sorted PyProof.Rows.entry_sorted (PyProof.Rows.args_sorted1 _) ?_
  unfold Builtin.sorted
  refine wpAny_bind ?_
  unfold checkCount
  refine wpAny_ite_false rfl ?_
  refine wpAny_ite_false rfl ?_
  refine wpAny_ite_false rfl (wpAny_pure ?_)
  refine wpAny_bind (collect_set (A := A.in1) hA ⟨o, ho, hex.1, hd⟩ hf hsb hr hl fun s1 out k1 z1 g1 o1 pm => ?_)
  have hlen : out.length = n := by
    have e := pm.length_eq
    rw [List.length_map] at e
    rw [e, ← hsz]
    exact Array.length_toList
  have ha : ∀ e ∈ es.toList, ∃ t, e.2 = Value.str (toS e.2) t := fun e m => by
    obtain ⟨⟨k, hk, _⟩, _⟩ := hel e m
    obtain ⟨t, ht⟩ := isStrOf_of hk
    rw [ht]
    exact ⟨t, rfl⟩
  have hs := strs_are (vs := out) fun v m => by
    obtain ⟨e, me, rfl⟩ := List.mem_map.mp (pm.mem_iff.mp m)
    obtain ⟨t, ht⟩ := ha e me
    exact ⟨_, t, ht⟩
  have nd : (out.map toS).Nodup := by
    have n1 : ((es.toList.map (·.2)).map toS).Nodup := by
      rw [List.map_map, List.Nodup, List.pairwise_map]
      refine (List.Pairwise.and_mem.mp hnd).imp fun {x y} ⟨mx, my, hxy⟩ e => ?_
      obtain ⟨t1, h1⟩ := ha x mx
      obtain ⟨t2, h2⟩ := ha y my
      have i1 : (strKind P w).is (toS x.2) x.2 = true := by rw [h1]; exact beq_self_eq_true _
      have i2 : (strKind P w).is (toS x.2) y.2 = true := by
        have e : toS x.2 = toS y.2 := e
        rw [e, h2]
        exact beq_self_eq_true _
      rw [hxy _ i1] at i2
      cases i2
    exact (pm.map toS).nodup_iff.mpr n1
  have mem : ∀ z, z ∈ out.map toS ↔ S z = true := fun z => by
    rw [hm]
    constructor
    · intro m
      obtain ⟨v, mv, rfl⟩ := List.mem_map.mp m
      obtain ⟨e, me, rfl⟩ := List.mem_map.mp (pm.mem_iff.mp mv)
      obtain ⟨t, ht⟩ := ha e me
      exact ⟨e, me, by rw [ht]; exact beq_self_eq_true _⟩
    · rintro ⟨e, me, hz⟩
      obtain ⟨t, ht⟩ := isStrOf_of hz
      exact List.mem_map.mpr ⟨e.2, pm.mem_iff.mpr (List.mem_map.mpr ⟨e, me, rfl⟩), by rw [ht]; rfl⟩
  refine wpAny_bind (wpAny_newList ?_ (by rw [hlen]; exact small64 hn))
  have hp := Heap.get?_push_size s1.heap (o := { cls := Value.type "list", data := Data.seq out.toArray }) rfl
  have old : ∀ (b : Addr) (o : Obj), s.heap.get? b = some o → (s1.heap.push { cls := Value.type "list", data := Data.seq out.toArray }).get? b = some o ∧ b < s1.heap.objs.size := fun b o hb => ⟨Heap.get?_push_of_some _ (k1 b o hb), Heap.lt_size (k1 b o hb)⟩
  refine wpAny_bind (wpAny_holding (wpAny_call_entry PyProof.Rows.slot_list_sort ⟨_, hp, rfl⟩ PyProof.Rows.entry_list_sort ?_ (PyProof.Rows.args_list_sort _)))
  refine PyProof.Rows.list_sort_treeK PyProof.Rows.strKind_oneLt hp (PyProof.Rows.StrsAre.keysOf hs) (fun v1 v2 rest e => ?_) (by rw [hlen]; exact hn) fun st' pm2 so => ?_
  · exact PyProof.Rows.keyKind_strs (e ▸ hs)
  · obtain ⟨ss, h1, h2, h3⟩ := PyProof.Rows.sorted_out_str hs pm2 so
    obtain ⟨c, hc⟩ := PyProof.Rows.sortedHeap_at (out := Array.map (fun x => x.2) (PyProof.Rows.arrOf st')) hp
    generalize hO : Array.map (fun x => x.2) (PyProof.Rows.arrOf st') = O at *
    have old2 : ∀ (b : Addr) (o : Obj), s.heap.get? b = some o → (PyProof.Rows.sortedHeap (s1.heap.push { cls := Value.type "list", data := Data.seq out.toArray }) s1.heap.objs.size out O).get? b = some o := fun b o hb => by
      obtain ⟨e1, e2⟩ := old b o hb
      have e3 : b < (s1.heap.push { cls := Value.type "list", data := Data.seq out.toArray }).objs.size := by
        rw [Heap.size_push]
        exact Nat.lt_succ_of_lt e2
      rw [PyProof.Rows.sortedHeap_old (Nat.ne_of_lt e2) e3]
      exact e1
    generalize PyProof.Rows.sortedHeap (s1.heap.push { cls := Value.type "list", data := Data.seq out.toArray }) s1.heap.objs.size out O = HF at *
    have key := h { heap := HF, gens := s1.gens, drawn := s1.drawn, toks := s1.toks, os := s1.os } s1.heap.objs.size _ c ss old2 g1 o1 z1 hc h1 h3 (h2.nodup_iff.mpr nd) (fun z => by rw [h2.mem_iff, mem]) (by rw [h2.length_eq, List.length_map, hlen])
    refine ⟨Value.none, rfl, ?_⟩
    exact wpAny_pure ⟨_, rfl, key⟩
theorem strs_at : ∀ {vs : List Value} {zs : List Str} {i : Nat} {v : Value}, PyProof.Rows.StrsAre vs zs → vs[i]? = some v → ∃ z t, zs[i]? = some z ∧ v = Value.str z t
  | _, _, 0, _, .cons y t _, e => by
    have e : some (Value.str y t) = some _ := e
    cases e
    exact ⟨y, t, rfl, rfl⟩
  | _, _, i + 1, _, .cons y t h, e => strs_at (i := i) h e
/-- the set that set(words) makes -/
def SetQO (P : Program) (w : World) (a : Addr) (zs : List Str) : HO := .ext fun h => ∃ c, c ≤ zs.length ∧ SetQ (strKind P w) h a (fun j => decide (j ∈ zs)) c
theorem setQO_ok {H : Hp} {h : Heap} {a : Addr} {zs : List Str} {c : Nat} (hc : c ≤ zs.length) (q : SetQ (strKind P w) h a (fun j => decide (j ∈ zs)) c) : ObjOk P w H h a (SetQO P w a zs) := by
  unfold SetQO
  rw [ObjOk.eq_13]
  exact ⟨⟨c, hc, q⟩, ⟨q.choose, q.choose_spec.choose_spec.choose_spec.choose_spec.1⟩, fun h1 h2 ⟨c, hc, q⟩ k => ⟨c, hc, q.at k⟩⟩
def rSetOfS (K : W.Frag) (P : Program) (w : World) : List V → Hp → VK → Prop := fun xs H Q => ∃ (l : Addr) (zs : List Str), xs = [V.ref l] ∧ SqL K H l (zs.map V.str) ∧ zs.length < 1000 ∧ ∀ a, H a = none → Q (.ref a) (upd H a (SetQO P w a zs))
theorem cr_setOfS {X : Cx} (hc : X.calm = true) : CallR X (Value.type "set") (rSetOfS X.K X.prog X.w) := by
  intro pins s σ H xs us Q I rx hr
  obtain ⟨l, zs, rfl, hl, hlen, k⟩ := hr
  cases Vals.ref1 rx
  obtain ⟨its, hv, ⟨o, n, ho, hcl, hdi, hda⟩, _⟩ := I.list hl
  have hs := Vals.strs hv
  have e : its.length = zs.length := by
    have := Vals.length hv
    rw [List.length_map] at this
    exact this.symm
  refine call_setQ (knd := strKind X.prog X.w) (items := its.toArray) zs (I.ok.hd hc) ⟨o, ho, hcl, n, hda⟩ (by rw [List.size_toArray]; exact e) ?_ (fun i v hi => ?_) fun h' tk c hc' q old => ?_
  · have : (1000 : Nat) < scanBound := by decide
    omega
  · rw [List.getElem?_toArray] at hi
    obtain ⟨z, t, hz, rfl⟩ := strs_at hs hi
    exact ⟨z, hz, beq_self_eq_true _, rfl⟩
  · exact ⟨.ref s.heap.objs.size, _, I.laid old (Nat.le_refl _) (setQO_ok hc' q), rfl, k _ (HOk.fresh I.hok (Nat.le_refl _))⟩
def rSortedQ (P : Program) (w : World) : List V → Hp → VK → Prop := fun vs H Q => ∃ (a : Addr) (zs : List Str), vs = [V.ref a] ∧ H a = some (SetQO P w a zs) ∧ zs.length < 64 ∧
  ∀ (ys : List Str) (p : Addr), PyProof.Rows.sortedS ys = true → ys.Nodup → (∀ z, z ∈ ys ↔ z ∈ zs) → H p = none → Q (.ref p) (upd H p (.lst (ys.map V.str)))
theorem cr_sortedQ {X : Cx} (hc : X.calm = true) : CallR X (Value.builtin "sorted") (rSortedQ X.prog X.w) := by
  intro pins s σ H xs us Q I rx hr
  obtain ⟨a, zs, rfl, ha, hlen, k⟩ := hr
  cases Vals.ref1 rx
  have q := I.hok a _ ha
  unfold SetQO at q
  rw [ObjOk.eq_13] at q
  obtain ⟨c, hc', q⟩ := q.1
  refine sorted_setQ q (I.ok.hd hc) (by omega) fun s' p out e ys old hg hos hle hp hs so nd mem len => ?_
  have hn := HOk.fresh I.hok hle
  refine ⟨.ref p, _, ?_, rfl, k ys p so nd (fun z => by rw [mem, decide_eq_true_iff]) hn⟩
  obtain ⟨h', g', d', t', o'⟩ := s'
  cases hos
  have hg : g' = s.gens := hg
  refine I.call (ch := []) (Un.laid old hle hn) (HOk.laid I.hok old hle ?_) (hg ▸ I.bare) (fun b m => nomatch m)
  rw [ObjOk.eq_1]
  refine ⟨?_, out.toList, e, vals_of_strs hs, by rw [Array.toArray_toList]; exact hp⟩
  rw [List.length_map, len]
  exact small64 (by omega)
end
end Lo

set_option Elab.async false
set_option linter.all false
set_option maxRecDepth 100000
set_option maxHeartbeats 4000000
namespace Lo
open PySem PySem.Spec PyProof.Rows L2
/-! ### errors with fields, caught -/
/-- isinstance(e, c), e the error that the suite holds, of the class at D, with a dict or without -/
def rIsD (K : PySem.W.Frag) (D a : Addr) (cls : Value) (d : Option Addr) : List V → Hp → VK → Prop := fun xs H Q => ∃ (c : V) (cv : Value) (b : Bool), xs = [.ref a, c] ∧ cls = .ref D ∧ (∀ x, d = some x → ∃ fs, H x = some (.xd fs)) ∧ (∀ u, RelV c u → u = cv) ∧ PySem.W.kitOne K (.ref D) cv = some b ∧ Q (.bl b) H
theorem call_isD {X : Cx} {a D : Addr} {oe : Obj} {cls : Value} {d : Option Addr} {pn : List (Addr × Obj)} (C : ExcC X.K D) (hz : Zc cls d oe) (hf : ∃ vs, oe.data = .fields vs) : CallR (X.suite a ((a, oe) :: pn)) (.builtin "isinstance") (rIsD X.K D a cls d) := by
  intro pins s σ H xs us Q I r h
  obtain ⟨c, cv, b, rfl, hcl, hd, hcv, e, q⟩ := h
  subst hcl
  match us, r with
  | _, .cons rx (.cons rt .nil) =>
    obtain rfl := hcv _ rt
    cases rx
    have hp := (I.pin (a, oe) (List.mem_append.mpr (.inl List.mem_cons_self))).1
    obtain ⟨vs, hv⟩ := hf
    obtain ⟨od, J⟩ : ∃ od, PySem.W.InstAt s.heap a oe D od := by
      cases d with
      | none => exact ⟨none, hp, hz.1, by unfold PySem.W.notCls; rw [hv] <;> rfl, by rw [hz.2]; exact True.intro⟩
      | some x =>
        obtain ⟨fs, ex⟩ := hd x rfl
        obtain ⟨mA, hns, _⟩ := (show ObjOk X.prog X.w H s.heap x (.xd fs) from I.hok x _ ex)
        obtain ⟨o, ho, _⟩ := lookIn_ns hns
        exact ⟨some o, hp, hz.1, by unfold PySem.W.notCls; rw [hv] <;> rfl, by rw [hz.2]; exact ho⟩
    obtain ⟨cd, hcd, _⟩ := PySem.W.any_some C.hd
    exact PySem.W.kia_one (PySem.W.kitx_exc (by rw [hcd]; rfl) C.hg C.hk C.hs C.ha C.hn C.ht C.hm) I.kIn J e (fun z => nomatch z) fun tk => ⟨.bl b, H, I.kept (t' := tk) fun _ _ z => z, rfl, q⟩
theorem list_1 {α : Type} {us : List α} {a : Str} (h : us.length = [a].length) : ∃ x, us = [x] := match us, h with | [x], _ => ⟨x, rfl⟩
theorem list_2 {α : Type} {us : List α} {a b : Str} (h : us.length = [a, b].length) : ∃ x y, us = [x, y] := match us, h with | [x, y], _ => ⟨x, y, rfl⟩
theorem list_3 {α : Type} {us : List α} {a b c : Str} (h : us.length = [a, b, c].length) : ∃ x y z, us = [x, y, z] := match us, h with | [x, y, z], _ => ⟨x, y, z, rfl⟩
/-! ### C(e, .., k = v, ..) -/
structure OwnK (P : Program) (w : World) (K : PySem.W.Frag) (mg : Str → Option Value) (base : Heap) (k : Nat) (x : Str) (C : Addr) (ps : List Str) (n : Nat) (ks : List Str) (gV : List V → List V → List V) (sp : Sp) : Prop where
  ex : ∃ f fd g, FnOk P w K mg base (L2N.CX P w) k f fd ps sp ∧ Mk K C f ∧ mg x = some (.ref C) ∧ KBn K fd ps (n + 1) ks g gV
def tOwnK (C : Addr) (n m : Nat) (sp : Sp) (gV : List V → List V → List V) (E : L2.St → XK) (t tk : TA) : TE := fun σ H Q => t σ H fun vs H1 => tk σ H1 fun zs H2 => vs.length = n ∧ zs.length = m ∧ ∀ x dx, H2 x = none → H2 dx = none → dx ≠ x →
  sp (gV (.ref x :: vs) zs) (upd (upd H2 dx (.own x)) x (.ins C dx [])) (fun v H3 => v = .non ∧ Q (.ref x) H3) (E σ)
theorem pe_ownk {X : Cx} {k n : Nat} {C : Addr} {ps ks : List Str} {sp : Sp} {E : L2.St → XK} {x : Str} {p pos : Pos} {e : Expr} {es : List Expr} {kws : List Keyword} {t tk : TA} {gV : List V → List V → List V} (O : OwnK X.prog X.w X.K X.mg X.base k x C ps n ks gV sp) (hr : Room (k + 1) X.A) (hg : Gl X x)
    (hx : ∀ σ, PassesAt (L2N.CX X.prog X.w) X σ (E σ)) (ha : PA X (e :: es) t) (hkw : PK X kws tk)
    (hall : (backToKw pos (keywordEach kws X.env)).all (·.1.isSome) = true := by rfl) (hks : (backToKw pos (keywordEach kws X.env)).filterMap (·.1) = ks := by rfl) (hdb : (x == ("__debug__" : Str)) = false := by decide)
    (he : starEach (e :: es) X.env = (false, eval e X.env) :: starEach es X.env := by rfl) (hpl : ((backTo pos (starEach (e :: es) X.env)).any (·.1) || (backToKw pos (keywordEach kws X.env)).any (·.1.isNone)) = false := by rfl) :
    PE X (.Call (.Name x p) (e :: es) kws pos) (tOwnK C n ks.length sp gV E t tk) := by
  obtain ⟨f, fd, g, F, M, hm, hb⟩ := O.ex
  constructor
  intro pins s σ H Q I h
  apply wpAny_Call_Name_kw (ld_glob I hg hm ?_ hdb)
  apply PySem.W.callWith_KW (h₀ := X.base) I.ok.mod.kin M.kp hall ?_ hpl he
  apply thn (ha.run pos pins s σ H _ I h)
  rintro us s1 ⟨vs, H1, I1, r, q⟩
  apply thn (hkw.run pos pins s1 σ H1 _ I1 q)
  rintro ws s2 ⟨zs, H2, I2, rz, l1, l2, q2⟩
  refine ⟨I2.kIn, ?_⟩
  rw [hks]
  have hq := q2 (s2.heap.objs.size + 1) s2.heap.objs.size (I2.hok.fresh (Nat.le_succ _)) (I2.hok.fresh (Nat.le_refl _)) (Nat.ne_of_lt (Nat.lt_succ_self _))
  have I3 := Inv.made (C := C) I2
  have r1 : Vals (V.ref (s2.heap.objs.size + 1) :: vs) (Value.ref (s2.heap.objs.size + 1) :: us) := .cons rfl r
  have n1 : (Value.ref (s2.heap.objs.size + 1) :: us).length = n + 1 := by rw [List.length_cons, ← r.length, l1]
  have run := F.run _ X.stack _ _ ⟨Value.ref (s2.heap.objs.size + 1) :: us, ks.zip ws⟩ _ _ _ (E σ) (hr.make C us (ks.zip ws)) (I3.env0.make C us (ks.zip ws)) (hb.to _ (Value.ref (s2.heap.objs.size + 1) :: us) ws I3.kIn n1 (rz.length.symm.trans l2)) (hb.rel r1 rz) hq
  refine wpAny_call (make_map (f := f) I2.kIn M.makes M.init (beq_iff_eq.mp M.fn) (codeAny_mono run ?_))
  rintro (e | fl) s' hq'
  · exact hx σ pins _ _ e s' I3 hq'
  · cases fl with
    | ret u =>
      obtain ⟨v, H', I4, rv, ev, q3⟩ := I3.after hq'
      subst ev
      exact ⟨rv, ⟨V.ref (s2.heap.objs.size + 1), H', I4, rfl, q3⟩⟩
    | next => exact hq'.elim
    | brk => exact hq'.elim
    | cont => exact hq'.elim
theorem vals_rev {vs : List V} {us : List Value} (h : Vals vs us) : Vals vs.reverse us.reverse := by
  induction h with
  | nil => exact .nil
  | cons r _ ih =>
    rw [List.reverse_cons, List.reverse_cons]
    exact ih.append (.cons r .nil)
theorem hq_nil {F : Str × V → Prop} : ∀ q ∈ ([] : List (Str × V)), F q := fun _ h => by cases h
theorem hq_cons {F : Str × V → Prop} {p : Str × V} {l : List (Str × V)} (h : F p) (k : ∀ q ∈ l, F q) : ∀ q ∈ p :: l, F q := fun q m => by
  rcases List.mem_cons.mp m with rfl | m
  · exact h
  · exact k q m
end Lo
namespace Lo
open PySem PySem.Spec PyProof.Rows L2
theorem iteBT {b : Bool} {A B : Prop} (h : b = true) (k : A) : if b = true then A else B := by rw [if_pos h]; exact k
theorem iteBF {b : Bool} {A B : Prop} (h : b = false) (k : B) : if b = true then A else B := by rw [if_neg (by rw [h]; decide)]; exact k
/-- a whole number from l to 1000000 -/
def wholeB (v : V) (l : Int) : Bool := match v with
  | .int i => decide (l ≤ i) && decide (i ≤ 1000000)
  | _ => false
/-! ### flat values compared -/
def dat : V → PyData
  | .non => .none | .bl b => .bool b | .int i => .int i | .str z => .str z
  | _ => .none
/-- None, a bool, an int, a text of sound signs -/
def fdB : V → Bool
  | .non => true | .bl _ => true | .int _ => true | .str z => PyData.strOk z
  | _ => false
theorem fd_flat {v : V} (h : fdB v = true) : flatV v = true := by
  cases v <;> first | rfl | cases h
theorem fd_all {K : PySem.W.Frag} {H : Hp} : ∀ {vs : List V}, vs.all fdB = true → DpAll K H vs (vs.map dat) ∧ PyData.canLayAll0 (vs.map dat) = true ∧ PyData.depthAll (vs.map dat) = 0
  | [], _ => ⟨.nil, rfl, rfl⟩
  | v :: vs, h => by
    obtain ⟨h1, h2⟩ := Bool.and_eq_true_iff.mp (show (fdB v && vs.all fdB) = true from h)
    obtain ⟨a, b, c⟩ := fd_all (K := K) (H := H) h2
    have one : Dp K H v (dat v) ∧ (dat v).canLay0 = true ∧ (dat v).depth = 0 := by
      cases v with
      | non => exact ⟨.non, rfl, rfl⟩
      | bl b => exact ⟨.bl b, rfl, rfl⟩
      | int i => exact ⟨.int i, rfl, rfl⟩
      | str z => exact ⟨.str z, h1, rfl⟩
      | _ => cases h1
    refine ⟨.cons one.1 a, ?_, ?_⟩
    · show ((dat v).canLay0 && PyData.canLayAll0 (vs.map dat)) = true
      rw [one.2.1, b]
      rfl
    · show max (dat v).depth (PyData.depthAll (vs.map dat)) = 0
      rw [one.2.2, c]
      rfl
theorem fd_tup {vs : List V} {K : PySem.W.Frag} {H : Hp} (h : vs.all fdB = true) : (PyData.tuple (vs.map dat)).canLay0 = true ∧ SeqAt.shaped (PyData.tuple (vs.map dat)) = true := by
  obtain ⟨_, b, c⟩ := fd_all (K := K) (H := H) h
  refine ⟨b, ?_⟩
  unfold SeqAt.shaped
  rw [show (PyData.tuple (vs.map dat)).canLay0 = true from b, Bool.true_and]
  refine decide_eq_true ?_
  show PyData.depthAll (vs.map dat) + 1 ≤ 64
  rw [c]
  decide
/-- t != u, tuples of the same flat values -/
theorem neTF {K : PySem.W.Frag} {H : Hp} {p q : Addr} {vs : List V} {Q : VK} (hp : H p = some (.tup vs)) (hq : H q = some (.tup vs)) (h : vs.all fdB = true) (k : Q (.bl false) H) : rNeD K (.ref p) (.ref q) H Q := by
  obtain ⟨c, s⟩ := fd_tup (K := K) (H := H) h
  have d := (fd_all (K := K) (H := H) h).1
  refine ⟨_, _, .tup (SqT.of hp) d, .tup (SqT.of hq) d, s, s, ?_⟩
  rw [SeqAt.eqv_refl _ c]
  exact k
theorem eqTF {K : PySem.W.Frag} {H : Hp} {p q : Addr} {vs : List V} {Q : VK} (hp : H p = some (.tup vs)) (hq : H q = some (.tup vs)) (h : vs.all fdB = true) (k : Q (.bl true) H) : rEqD K (.ref p) (.ref q) H Q := by
  obtain ⟨c, s⟩ := fd_tup (K := K) (H := H) h
  have d := (fd_all (K := K) (H := H) h).1
  refine ⟨_, _, .tup (SqT.of hp) d, .tup (SqT.of hq) d, s, s, ?_⟩
  rw [SeqAt.eqv_refl _ c]
  exact k
/-- one of a list at a place that was drawn -/
theorem at_mem {xs : List V} {d : Int} (h0 : 0 ≤ d) (h1 : d < (xs.length : Nat)) : ∃ v, atI xs d = some v ∧ v ∈ xs := by
  obtain ⟨D, rfl⟩ := Int.eq_ofNat_of_zero_le h0
  have hD : D < xs.length := by omega
  exact ⟨xs[D], atI_nat (by simp [hD]), List.getElem_mem hD⟩
end Lo

set_option Elab.async false
set_option linter.all false
set_option maxRecDepth 100000
set_option maxHeartbeats 4000000
namespace Lo
open PySem PySem.Spec PyProof.Rows L2
/-! ### own errors as values -/
def tExV (C : Addr) (fs : List Str) (ta : TA) : TE := fun σ H Q => ta σ H fun us H1 => us.length = fs.length ∧ fs.length ≤ 100 ∧
  ∀ (a d : Addr) (H2 : Hp), H1 a = none → H1 d = none → d ≠ a → Same H1 H2 → H2 a = some (exo a C (some d)) → H2 d = some (exd d (fs.zip us).reverse) → Q (.ref a) H2
theorem pe_exv {X : Cx} {x : Str} {C : Addr} {fs : List Str} {e : Expr} {es : List Expr} {ta : TA} {p pos : Pos} (O : OwnE X.prog X.w X.K X.mg X.base x C fs) (hr : Room 2 X.A) (hg : Gl X x) (ha : PA X (e :: es) ta)
    (hdb : (x == ("__debug__" : Str)) = false := by decide) (he : starEach (e :: es) X.env = (false, eval e X.env) :: starEach es X.env := by rfl) (hpl : (backTo pos (starEach es X.env)).any (·.1) = false := by rfl) :
    PE X (.Call (.Name x p) (e :: es) [] pos) (tExV C fs ta) := by
  obtain ⟨f, fd, ps, G, hi, ht, hm, hb⟩ := O.ex
  obtain ⟨nm, q, N, bs, bm, sn, sub, ab, col, dd, k0, k1, k2, k3, k5, hC, hbm⟩ := O.cl.cls
  constructor
  intro pins s σ H Q I h
  apply wpAny_Call_Name_kw (ld_glob I hg hm ?_ hdb)
  apply PySem.W.callWith_K (h₀ := X.base) I.ok.mod.kin O.cl.kC ?_ he hpl
  apply thn (ha.run pos pins s σ H _ I h)
  rintro us ⟨hp, g, dr, tk, os⟩ ⟨vs, H1, I1, r1, hl, h100, q1⟩
  refine ⟨I1.kIn, ?_⟩
  have sz : hp.objs.size ≤ hp.objs.size + 1 := Nat.le_succ _
  have hn : H1 (hp.objs.size + 1) = none := I1.hok.fresh sz
  have old : ∀ b o, hp.get? b = some o → ((hp.push (PySem.W.kdv_tup us)).push (PySem.HandSPX.excO C hp.objs.size)).get? b = some o := fun b o e =>
    Heap.get?_push_of_some _ (Heap.get?_push_of_some _ e)
  have new : ((hp.push (PySem.W.kdv_tup us)).push (PySem.HandSPX.excO C hp.objs.size)).get? (hp.objs.size + 1) =
      some (PySem.HandSPX.excO C hp.objs.size) := by heap_get
  have I2 := I1.laid (t' := tk) old sz (exo_ok (P := X.prog) (w := X.w) (H := upd H1 (hp.objs.size + 1) (exo (hp.objs.size + 1) C none)) new)
  have hsp : spErr C fs (.ref (hp.objs.size + 1) :: (vs ++ [])) (upd H1 (hp.objs.size + 1) (exo (hp.objs.size + 1) C none)) (fun v H2 => v = .non ∧ Q (.ref (hp.objs.size + 1)) H2) (fun _ _ _ => False) :=
    ⟨_, vs, by rw [List.append_nil], hl, upd_same, fun dx H2 nd ne ea ed sm => ⟨rfl, q1 _ dx H2 hn (by rw [upd_ne ne] at nd; exact nd) ne
      (fun b o e => sm b o (by rw [upd_ne (ne_of_none e hn)]; exact e) (ne_of_none e hn)) ea ed⟩⟩
  have r2 : Vals (V.ref (hp.objs.size + 1) :: (vs ++ [])) (Value.ref (hp.objs.size + 1) :: (us ++ [])) := .cons rfl (r1.append .nil)
  have lps : (Value.ref (hp.objs.size + 1) :: us ++ []).length = ps.length := by
    have e := r2.length
    rw [G.len _ _ _ _ hsp] at e
    exact e.symm
  have lus : us.length ≤ sizeLine := by rw [← Paired.length r1, sizeLine_eq]; omega
  have run := G.run _ X.stack _ _ ⟨Value.ref (hp.objs.size + 1) :: us, []⟩ _ _ _ (fun _ _ _ => False) (hr.make C us []) (I2.env0.make C us []) (hb _ (Value.ref (hp.objs.size + 1) :: us) I2.kIn lps) r2 hsp
  refine wpAny_call (PySem.HandSPX.call_own F.excBase_ValueError (fun Y => PySem.HandSPX.refsVE_contains Y bm hbm) (I1.kIn _ _ hC) (PySem.W.looks_findIn I1.kIn hi) (fun self => PySem.W.bind_fn I1.kIn self ht) lus (codeAny_mono run ?_))
  rintro (er | fl) s' hq'
  · exact pas0 σ pins _ _ er s' I2 hq'
  · cases fl with
    | ret u =>
      obtain ⟨v, H', I3, rv, ev, q3⟩ := I2.after hq'
      subst ev
      exact ⟨rv, ⟨.ref (hp.objs.size + 1), H', I3, rfl, q3⟩⟩
    | next => exact hq'.elim
    | brk => exact hq'.elim
    | cont => exact hq'.elim
/-- C(), C without own __init__ -/
def tExV0 (C : Addr) : TE := fun _ H Q => ∀ a : Addr, H a = none → Q (.ref a) (upd H a (exo a C none))
theorem pe_exv0 {X : Cx} {C : Addr} {bmB : List Value} {B newId initId : String} {x : Str} {p pos : Pos} (F : ExcBaseFacts B newId initId bmB) (q : PySem.W.excIn X.K C bmB newId = true) (gC : X.mg x = some (.ref C))
    (kC : PySem.W.keepIn X.K (.ref C) = true) (hg : Gl X x) (hdb : (x == ("__debug__" : Str)) = false := by decide) : PE X (.Call (.Name x p) [] [] pos) (tExV0 C) := by
  constructor
  intro pins s σ H Q I h
  apply wpAny_Call_Name_kw (ld_glob I hg gC ?_ hdb)
  apply PySem.W.callWith_K0 I.kIn kC
  obtain ⟨bm, N, nm, qn, bs, hdct, sn, sub, ab, col, dd, k0, k1, k2, k3, k5, mN, hC, hN, hni, T⟩ := exc_obj I.kIn q
  refine wpAny_call_exc_subT F T hC hN hni (fun h' e hm => ?_) (Nat.zero_le _)
  obtain ⟨t, he, _, _⟩ := hm.there
  have hn := I.hok.gone hm.new
  exact ⟨.ref e, _, I.laidN (t' := s.toks) hm.keeps hm.new hn (exo_ok he), rfl, h e hn⟩
/-- x.f, x an own error -/
def tExF (K : PySem.W.Frag) (f : Str) (te : TE) : TE := fun σ H Q => te σ H fun x H1 => ∃ (a C d : Addr) (fs : List (Str × V)) (v : V), x = .ref a ∧ XfC K C ∧ PySem.W.findIn K (.ref C) f = some none ∧ H1 a = some (exo a C (some d)) ∧ H1 d = some (exd d fs) ∧ fs.lookup f = some v ∧ Q v H1
theorem pe_exf {X : Cx} {K : PySem.W.Frag} {e : Expr} {te : TE} {pos : Pos} {f : Str} (he : PE X e te) (hK : X.K = K) (hb : attributeBase e f X.env (eval e X.env) = eval e X.env := by rfl) : PE X (.Attribute e f pos) (tExF K f te) := by
  subst hK
  constructor
  intro pins s σ H Q I h
  apply attr_of hb
  apply thn (he.run pins s σ H _ I h)
  rintro u s1 ⟨x, H1, I1, rx, a, C, d, fs, v, ex, T, hno, ea, ed, l, q⟩
  subst ex
  obtain rfl : u = Value.ref a := rx
  obtain ⟨t1, ho⟩ := exo_at I1.hok ea
  obtain ⟨mA, hns, hr⟩ := exd_at I1.hok ed
  obtain ⟨od, hod, hl⟩ := lookIn_ns hns
  obtain ⟨u, hu, ru⟩ := RelO.some_of (v := v) (o := mA f) (by rw [← l]; exact hr f)
  exact HandSPX.exc_get I1.kIn ⟨ho, rfl, rfl, hod⟩ T.ga T.gg T.exC (PySem.W.findObj_own T.hdC hno rfl (by rw [hl, hu])) (handed_of ru) ⟨v, H1, I1.tok _, ru, q⟩
/-- isinstance(x, c), x an own error -/
def rIsX (K : PySem.W.Frag) : List V → Hp → VK → Prop := fun xs H Q => ∃ (a C : Addr) (od : Option Addr) (c : V) (cv : Value) (b : Bool), xs = [.ref a, c] ∧ H a = some (exo a C od) ∧ (∀ d, od = some d → ∃ fs, H d = some (exd d fs)) ∧ ExcC K C ∧
  (∀ u, RelV c u → u = cv) ∧ PySem.W.kitOne K (.ref C) cv = some b ∧ Q (.bl b) H
theorem call_isX {X : Cx} : CallR X (.builtin "isinstance") (rIsX X.K) := by
  intro pins s σ H xs us Q I r h
  obtain ⟨a, C, od, c, cv, b, rfl, ea, hd, T, hcv, e, q⟩ := h
  match us, r with
  | _, .cons rx (.cons rt .nil) =>
    obtain rfl := hcv _ rt
    cases rx
    obtain ⟨t1, ho⟩ := exo_at I.hok ea
    obtain ⟨oo, J⟩ : ∃ oo, PySem.W.InstAt s.heap a { cls := .ref C, dict := od, data := .fields #[.ref t1, .none, .none, .none, .bool false, .none] } C oo := by
      cases od with
      | none => exact ⟨none, ho, rfl, rfl, True.intro⟩
      | some x =>
        obtain ⟨fs, ed⟩ := hd x rfl
        obtain ⟨mA, hns, _⟩ := exd_at I.hok ed
        obtain ⟨o, h1, _⟩ := lookIn_ns hns
        exact ⟨some o, ho, rfl, rfl, h1⟩
    obtain ⟨cd, hcd, _⟩ := PySem.W.any_some T.hd
    exact PySem.W.kia_one (PySem.W.kitx_exc (by rw [hcd]; rfl) T.hg T.hk T.hs T.ha T.hn T.ht T.hm) I.kIn J e (fun z => nomatch z) fun tk => ⟨.bl b, H, I.kept (t' := tk) fun _ _ z => z, rfl, q⟩
/-! ### sum of a list of bools -/
section
variable {P : Program} {w : World} {A : Around} {R : Result → Shared → Prop} {I : Addr} {fp wr : List Addr} {n : Nat} {Pv : Nat → Value → Prop} {St : Nat → Heap → Prop}
theorem sumB_loop (W : Walks P w A.in1 I fp wr n Pv St) (bv : Nat → Bool) (hv : ∀ i v, Pv i v → v = .bool (bv i)) (S : Addr) (hS : S ∉ fp) :
    ∀ (k i : Nat) (s : Shared) (tA : Tok) (c : Nat) (z : Int), (z = 0 ∨ z = 2) → n - i = k → i ≤ n → St i s.heap → s.heap.get? S = some { cls := .type "list", dict := none, data := .seq #[.int (preSum (fun j => if bv j = true then 1 else 0) i) tA] c, slots := #[] } →
    (∀ h' tk t', (∀ b o, b ∉ wr → b ≠ S → s.heap.get? b = some o → h'.get? b = some o) → R (.ok (.ret (.int (preSum (fun j => if bv j = true then 1 else 0) n) t'))) { s with heap := h', toks := tk }) →
    codeAny (model P w) A (.builtin "sum.loop" ⟨[.ref I, .ref S, rawInt z, rawInt 0], []⟩) R s := by
  have nS : S ∉ wr := fun h => hS (W.sub _ h)
  intro k
  induction k with
  | zero =>
    intro i s tA c z hz hk hi hst e hR
    obtain rfl : i = n := by omega
    apply codeAny_builtin F.entry_sum_loop
    rw [Around.under_plainId F.plain_sum_loop _]
    show wpAny _ A.in1 (seqItems? (.ref S) >>= _) _ _ s
    apply wpAny_bind
    apply wpAny_seqItems e rfl
    show wpAny _ A.in1 (tryCatch (pyNext (.ref I)) _ >>= _) _ _ s
    apply wpAny_bind
    apply wpAny_tryCatch
    refine W.done s _ _ hst fun h' tk hk' => ?_
    exact wpAny_pure (hR h' tk tA fun b o hb _ e => hk' b o hb e)
  | succ k ih =>
    intro i s tA c z hz hk hi hst e hR
    have lt : i < n := by omega
    apply codeAny_builtin F.entry_sum_loop
    rw [Around.under_plainId F.plain_sum_loop _]
    show wpAny _ A.in1 (seqItems? (.ref S) >>= _) _ _ s
    apply wpAny_bind
    apply wpAny_seqItems e rfl
    show wpAny _ A.in1 (tryCatch (pyNext (.ref I)) _ >>= _) _ _ s
    apply wpAny_bind
    apply wpAny_tryCatch
    refine W.item i s _ _ lt hst fun v h' tk hP hst' hk' => ?_
    obtain rfl := hv i v hP
    have e' := hk' S _ nS e
    have off : ∀ {b : Addr}, b ∈ fp → S ≠ b := fun hb q => hS (q ▸ hb)
    obtain ⟨y, hy⟩ : ∃ y : Int, (if bv i = true then (1 : Int) else 0) = y := ⟨_, rfl⟩
    obtain ⟨T, hT⟩ : ∃ T : Int, preSum (fun j => if bv j = true then 1 else 0) i = T := ⟨_, rfl⟩
    have e3 : preSum (fun j => if bv j = true then 1 else 0) (i + 1) = T + y := by
      show preSum (fun j => if bv j = true then 1 else 0) i + (if bv i = true then (1 : Int) else 0) = _
      rw [hy, hT]
    rw [hT] at e'
    have fin : ∀ (h2 : Heap) (z : Int) (tk2 tA2 : Tok) (c2 : Nat), (z = 0 ∨ z = 2) → (∀ b, b ≠ S → h2.get? b = h'.get? b) → h2.get? S = some { cls := .type "list", dict := none, data := .seq #[.int (T + y) tA2] c2, slots := #[] } →
        codeAny (model P w) A (.builtin "sum.loop" ⟨[.ref I, .ref S, rawInt z, rawInt 0], []⟩) R { s with heap := h2, toks := tk2 } := fun h2 z tk2 tA2 c2 hz k2 e2 =>
      ih (i + 1) _ tA2 c2 z hz (by omega) lt (W.frame _ _ _ hst' fun b hb o q => (k2 b (Ne.symm (off hb))).trans q) (by rw [e3]; exact e2) fun h3 tk3 t3 k3 => hR h3 tk3 t3 fun b o hb hs q => k3 b o hb hs ((k2 b hs).trans (hk' b o hb q))
    have slow : ∀ tk2 : Nat, wpAny (model P w) A.in1 (do
        updateSeq S fun _ => #[.int (T + y) tk2]
        letGo [Value.int T tA, Value.bool (bv i)]
        updateSeq S fun _ => #[.int (T + y) tk2]
        again (Code.builtin "sum.loop" ⟨[.ref I, .ref S, rawInt 2, rawInt 0], []⟩)) (fun x s' => match x with
          | .done f => R (.ok f) s'
          | .again c' => c'.quiet = true ∧ codeAny (model P w) A c' R s') (fun e s' => R (.error e) s') { s with heap := h', toks := tk + 1 } := fun tk2 => by
      apply wpAny_bind
      apply wpAny_updateSeq e' rfl
      have e2 := Heap.get?_update_self (Obj.mapSeq fun _ => #[Value.int (T + y) tk2]) e' rfl
      apply wpAny_bind
      apply wpAny_letGo
      apply wpAny_bind
      exact wpAny_updateSeq e2 rfl (wpAny_pure ⟨plainId_quiet F.plain_sum_loop _, fin _ 2 _ tk2 _ (.inr rfl) (fun b hb => (Heap.get?_update_other _ _ (Ne.symm hb)).trans (Heap.get?_update_other _ _ (Ne.symm hb))) (Heap.get?_update_self _ e2 rfl)⟩)
    rcases hz with rfl | rfl
    · show wpAny _ A.in1 (if (_ : Bool) = true then (mkInt (preSum (fun j => if bv j = true then 1 else 0) i + (if bv i = true then 1 else 0)) >>= _) else _) _ _ _
      rw [hy, hT]
      split
      · apply wpAny_bind
        apply wpAny_mkInt
        show wpAny _ A.in1 (updateSeq S (fun _ => #[.int (T + y) tk]) >>= _) _ _ _
        apply wpAny_bind
        exact wpAny_updateSeq e' rfl (wpAny_pure ⟨plainId_quiet F.plain_sum_loop _, fin _ 0 _ tk _ (.inl rfl) (fun b hb => Heap.get?_update_other _ _ (Ne.symm hb)) (Heap.get?_update_self _ e' rfl)⟩)
      · apply wpAny_bind
        apply wpAny_rule
        apply wpAny_bind
        refine wpAny_attempt (wpAny_holding (add_int_bool ?_))
        rw [hy]
        exact slow tk
    · show wpAny _ A.in1 ((holding [Value.bool (bv i)] (binaryOp .Add (.int (preSum (fun j => if bv j = true then 1 else 0) i) tA) (.bool (bv i)))).attempt >>= _) _ _ _
      rw [hT]
      apply wpAny_bind
      refine wpAny_attempt (wpAny_holding (add_int_bool ?_))
      rw [hy]
      exact slow tk
variable {E : Value → Shared → Prop} {s : Shared}
theorem sumB_raw {l : Addr} {bs : List Bool} {Q : Value → Shared → Prop} (hh : A.handled = none) (hl : s.heap.IsList l (bs.map Value.bool).toArray)
    (h : ∀ h' tk t', (∀ b o, s.heap.get? b = some o → h'.get? b = some o) → Q (.int (preSum (fun j => if bs.getD j false = true then 1 else 0) bs.length) t') { s with heap := h', toks := tk }) : wpAny (model P w) A (call (.builtin "sum") [.ref l]) Q E s := by
  have hlt : l < s.heap.objs.size := by obtain ⟨_, e, _⟩ := hl; exact Heap.lt_size e
  apply call_function_tree F.kind_sum F.plain_sum F.entry_sum (F.args_sum1 _)
  unfold Builtin.«sum»
  simp only [List.length_cons, List.length_nil]
  rw [if_neg (by decide)]
  apply wpAny_bind
  refine wpAny_of_eq (show Builtin.Builtins.bindParams "sum" ["start"] 0 { } = pure [none] from rfl) ?_
  apply wpAny_bind
  apply wpAny_pyIter_list hl
  have hn : l ≠ s.heap.objs.size := Nat.ne_of_lt hlt
  apply wpAny_bind
  apply wpAny_mkInt
  apply wpAny_bind
  apply wpAny_pure
  simp only [List.forIn_cons, List.forIn_nil]
  refine wpAny_bind (wpAny_bind (wpAny_bind (wpAny_isInstance (T := "int") (b := false) (typeIs_int _ _ _) PySem.sub_int_str ?_)))
  rw [if_neg Bool.false_ne_true]
  refine wpAny_pure (wpAny_bind (wpAny_bind (wpAny_isInstance (T := "int") (b := false) (typeIs_int _ _ _) PySem.sub_int_bytes ?_)))
  rw [if_neg Bool.false_ne_true]
  refine wpAny_pure (wpAny_bind (wpAny_bind (wpAny_isInstance (T := "int") (b := false) (typeIs_int _ _ _) PySem.sub_int_bytearray ?_)))
  rw [if_neg Bool.false_ne_true]
  apply wpAny_pure
  apply wpAny_pure
  refine wpAny_bind (wpAny_newObj_type ?_)
  have W := Walks.list (prog := P) (w := w) (A := A.in1) hh s.heap.objs.size l hn (bs.map Value.bool).toArray
  have hv : ∀ (i : Nat) (v : Value), (bs.map Value.bool).toArray[i]? = some v → v = .bool (bs.getD i false) := fun i v e => by
    rw [List.getElem?_toArray, List.getElem?_map] at e
    cases q : bs[i]? with
    | none => rw [q] at e; cases e
    | some b =>
      rw [q] at e
      cases e
      rw [List.getD_eq_getElem?_getD, q]
      rfl
  have size1 : ∀ o, (s.heap.push o).objs.size = s.heap.objs.size + 1 := fun o => Heap.size_push _ _
  have hn2 : (bs.map Value.bool).toArray.size = bs.length := by rw [List.size_toArray, List.length_map]
  refine wpAny_pure ⟨plainId_quiet F.plain_sum_loop _, sumB_loop W (fun j => bs.getD j false) hv _ ?_ _ 0 _ s.toks 0 0 (.inl rfl) rfl (Nat.zero_le _) ?_ (Heap.get?_push_size _ rfl) fun h' tk t' hk => ?_⟩
  · intro m
    rcases List.mem_cons.mp m with e | m
    · exact absurd ((size1 _).symm.trans e) (by omega)
    · rcases List.mem_cons.mp m with e | m
      · have q : s.heap.objs.size + 1 = l := (size1 _).symm.trans e
        have q2 : l < s.heap.objs.size := hlt
        rw [← q] at q2
        exact absurd (Nat.lt_of_succ_lt q2) (Nat.lt_irrefl _)
      · cases m
  · exact ⟨⟨_, Heap.get?_push_of_some _ (Heap.get?_push_size _ rfl), rfl, rfl⟩, (hl.push _).push _⟩
  · rw [hn2]
    refine h h' tk t' fun b o e => hk b o (fun m => ?_) (fun z => ?_) (Heap.get?_push_of_some _ (Heap.get?_push_of_some _ e))
    · rcases List.mem_cons.mp m with z | m
      · exact absurd (Heap.lt_size e) (by rw [z]; exact Nat.lt_irrefl _)
      · cases m
    · have lt := Heap.lt_size e
      rw [z] at lt
      have := size1 { cls := .type "list_iterator", data := .fields #[.ref l, .int 0 0] }
      exact absurd (show (s.heap.push { cls := .type "list_iterator", data := .fields #[.ref l, .int 0 0] }).objs.size < s.heap.objs.size from lt) (by omega)
end
def cntB (bs : List Bool) : Int := preSum (fun j => if bs.getD j false = true then 1 else 0) bs.length
def rSumB (K : PySem.W.Frag) : List V → Hp → VK → Prop := fun vs H Q => ∃ (a : Addr) (bs : List Bool), vs = [V.ref a] ∧ SqL K H a (bs.map V.bl) ∧ Q (.int (cntB bs)) H
theorem cr_sumB {X : Cx} (hc : X.calm = true) : CallR X (.builtin "sum") (rSumB X.K) := by
  intro pins s σ H vs us Q I r h
  obtain ⟨a, bs, rfl, hs, q⟩ := h
  obtain ⟨its, rv, hl, _⟩ := I.list hs
  rw [Vals.ref1 r]
  have e := rv.bls
  subst e
  exact sumB_raw (I.ok.hd hc) hl.isList fun h' tk t' hk => ⟨.int _, H, I.kept hk, ⟨_, rfl⟩, q⟩
/-! ### isinstance of the own errors among each other -/
structure ErrC (K : PySem.W.Frag) (C0 C : Addr) : Prop where
  ex : ∃ cd, PySem.W.clsIn K C = some cd ∧ cd.mro = [.ref C, .ref C0, .type "ValueError", .type "Exception", .type "BaseException", .type "object"] ∧ PySem.W.typeIn K (.ref C) = some (.type "type") ∧ ExcC K C
structure KitTab (K : PySem.W.Frag) (ca : Nat → Addr) (ns : List Nat) : Prop where
  ec : ∀ c ∈ ns, ExcC K (ca c)
  each : ∀ c ∈ ns, ∀ d ∈ ns, PySem.W.kitOne K (.ref (ca c)) (.ref (ca d)) = some (decide (c = d))
  base : ∀ c ∈ ns, PySem.W.kitOne K (.ref (ca c)) (.ref (ca 0)) = some true
  val : ∀ c ∈ ns, PySem.W.kitOne K (.ref (ca c)) (.type "ValueError") = some true
theorem ct_nil {F : Nat → Prop} : ∀ c ∈ ([] : List Nat), F c := fun _ h => by cases h
theorem ct_cons {K : PySem.W.Frag} {ca : Nat → Addr} {n : Nat} {l : List Nat} (h : ErrC K (ca 0) (ca n)) (k : ∀ c ∈ l, ErrC K (ca 0) (ca c)) : ∀ c ∈ n :: l, ErrC K (ca 0) (ca c) := fun c m => by
  rcases List.mem_cons.mp m with rfl | m
  · exact h
  · exact k c m
theorem inj_of {α β : Type} {f : α → β} : ∀ {l : List α}, (l.map f).Nodup → ∀ a ∈ l, ∀ b ∈ l, f a = f b → a = b
  | [], _, _, h, _, _, _ => by cases h
  | x :: l, h, a, ha, b, hb, e => by
    obtain ⟨h1, h2⟩ := List.nodup_cons.mp (show (f x :: l.map f).Nodup from h)
    rcases List.mem_cons.mp ha with e1 | ha2 <;> rcases List.mem_cons.mp hb with e2 | hb2
    · rw [e1, e2]
    · exact absurd (List.mem_map.mpr ⟨b, hb2, by rw [← e, e1]⟩) h1
    · exact absurd (List.mem_map.mpr ⟨a, ha2, by rw [e, e2]⟩) h1
    · exact inj_of h2 a ha2 b hb2 e
theorem kit_tab {K : PySem.W.Frag} {ca : Nat → Addr} {ns : List Nat} (nd : ((0 :: ns).map ca).Nodup) (h0 : ∃ cd, PySem.W.clsIn K (ca 0) = some cd ∧ PySem.W.typeIn K (.ref (ca 0)) = some (.type "type")) (h : ∀ c ∈ ns, ErrC K (ca 0) (ca c)) : KitTab K ca ns := by
  have sub : ∀ (c : Nat) (D : Value), c ∈ ns → PySem.W.subIn K (.ref (ca c)) D = some ([.ref (ca c), .ref (ca 0), .type "ValueError", .type "Exception", .type "BaseException", .type "object"].contains D) := fun c D hc => by
    obtain ⟨⟨cd, h1, h2, h3, _⟩⟩ := h c hc
    show PySem.W.mroIn K (ca c) D = _
    unfold PySem.W.mroIn
    rw [h1, Option.bind_some, h2]
    rfl
  have kc : ∀ (c d : Nat), c ∈ ns → (∃ cd, PySem.W.clsIn K (ca d) = some cd ∧ PySem.W.typeIn K (.ref (ca d)) = some (.type "type")) →
      PySem.W.kitOne K (.ref (ca c)) (.ref (ca d)) = some ([Value.ref (ca c), .ref (ca 0), .type "ValueError", .type "Exception", .type "BaseException", .type "object"].contains (.ref (ca d))) := fun c d hc ⟨cd, h1, h2⟩ => by
    unfold PySem.W.kitOne
    by_cases e : ca c = ca d
    · rw [if_pos (by rw [e]; exact beq_self_eq_true _), e]
      simp
    · rw [if_neg (by simpa using e)]
      show (if ((PySem.W.clsIn K (ca d)).isSome && PySem.W.typeIn K (.ref (ca d)) == some (.type "type")) = true then PySem.W.subIn K (.ref (ca c)) (.ref (ca d)) else none) = _
      rw [h1, h2]
      rw [if_pos (by simp), sub c _ hc]
  refine ⟨fun c hc => ?_, fun c hc d hd => ?_, fun c hc => ?_, fun c hc => ?_⟩
  · obtain ⟨⟨_, _, _, _, e⟩⟩ := h c hc
    exact e
  · obtain ⟨⟨cd, h1, _, h3, _⟩⟩ := h d hd
    rw [kc c d hc ⟨cd, h1, h3⟩]
    have n0 : ca d ≠ ca 0 := fun e => by
      obtain ⟨a, _⟩ := List.nodup_cons.mp (show (ca 0 :: ns.map ca).Nodup from nd)
      exact a (List.mem_map.mpr ⟨d, hd, e⟩)
    congr 1
    by_cases e : c = d
    · subst e
      simp
    · have e2 : ca d ≠ ca c := fun q => e (inj_of (List.nodup_cons.mp (show (ca 0 :: ns.map ca).Nodup from nd)).2 c hc d hd q.symm)
      simp [e, n0, e2]
  · rw [kc c 0 hc h0]
    simp
  · unfold PySem.W.kitOne
    rw [if_neg (by simp)]
    show (if PySem.W.kitMeta "ValueError" = true then PySem.W.subIn K (.ref (ca c)) (.type "ValueError") else none) = _
    rw [if_pos (by decide +kernel), sub c _ hc]
    simp
/-- the numbers of the own errors but their base -/
abbrev ERRS : List Nat := [1, 4, 5, 6, 7, 8, 9, 10, 11, 12, 13, 14, 15, 16, 17, 18, 19, 20, 21]
def ErrO (ca : Nat → Addr) (H : Hp) (a : Addr) : Prop := ∃ c ∈ ERRS, ∃ od, H a = some (exo a (ca c) od) ∧ ∀ d, od = some d → ∃ fs, H d = some (exd d fs)
def ErrT (ca : Nat → Addr) (H : Hp) (t : V) : Prop := ∃ q a, t = .ref q ∧ H q = some (.tup [.ref a, .bl true]) ∧ ErrO ca H a
theorem exo_lst {e C : Addr} {d : Option Addr} {xs : List V} : exo e C d ≠ .lst xs := fun z => by
  have y : HO.ext _ = HO.lst xs := z
  cases y
theorem exd_lst {e : Addr} {fs : List (Str × V)} {xs : List V} : exd e fs ≠ .lst xs := fun z => by
  have y : HO.ext _ = HO.lst xs := z
  cases y
theorem ErrO.same {ca : Nat → Addr} {H H' : Hp} {a : Addr} (h : ErrO ca H a) (s : Same H H') : ErrO ca H' a :=
  let ⟨c, m, od, e, k⟩ := h; ⟨c, m, od, s _ _ e, fun d q => let ⟨fs, z⟩ := k d q; ⟨fs, s _ _ z⟩⟩
theorem ErrO.put {ca : Nat → Addr} {H H' : Hp} {a D : Addr} {xs : List V} (h : ErrO ca H a) (e : H D = some (.lst xs)) (s : Keep D H H') : ErrO ca H' a :=
  let ⟨c, m, od, q, k⟩ := h; ⟨c, m, od, s _ _ q (ne_of q e exo_lst), fun d y => let ⟨fs, z⟩ := k d y; ⟨fs, s _ _ z (ne_of z e exd_lst)⟩⟩
theorem ErrT.same {ca : Nat → Addr} {H H' : Hp} {t : V} (h : ErrT ca H t) (s : Same H H') : ErrT ca H' t :=
  let ⟨q, a, e, h1, h2⟩ := h; ⟨q, a, e, s _ _ h1, h2.same s⟩
theorem ErrT.put {ca : Nat → Addr} {H H' : Hp} {t : V} {D : Addr} {xs : List V} (h : ErrT ca H t) (e : H D = some (.lst xs)) (s : Keep D H H') : ErrT ca H' t :=
  let ⟨q, a, y, h1, h2⟩ := h; ⟨q, a, y, s _ _ h1 (ne_of h1 e fun z => nomatch z), h2.put e s⟩
/-- an error of class c with these fields -/
structure ErrF (ca : Nat → Addr) (H : Hp) (a : Addr) (c : Nat) (d : Addr) (fs : List (Str × V)) : Prop where
  at_ : H a = some (exo a (ca c) (some d))
  dd : H d = some (exd d fs)
theorem ErrF.same {ca : Nat → Addr} {H H' : Hp} {a d : Addr} {c : Nat} {fs : List (Str × V)} (h : ErrF ca H a c d fs) (s : Same H H') : ErrF ca H' a c d fs := ⟨s _ _ h.at_, s _ _ h.dd⟩
theorem ErrF.put {ca : Nat → Addr} {H H' : Hp} {a d D : Addr} {c : Nat} {fs : List (Str × V)} {xs : List V} (h : ErrF ca H a c d fs) (e : H D = some (.lst xs)) (s : Keep D H H') : ErrF ca H' a c d fs := ⟨s _ _ h.at_ (ne_of h.at_ e exo_lst), s _ _ h.dd (ne_of h.dd e exd_lst)⟩
theorem ErrF.o {ca : Nat → Addr} {H : Hp} {a d : Addr} {c : Nat} {fs : List (Str × V)} (h : ErrF ca H a c d fs) (m : c ∈ ERRS := by decide) : ErrO ca H a := ⟨c, m, some d, h.at_, fun _ q => by cases q; exact ⟨fs, h.dd⟩⟩
theorem eqLF {K : PySem.W.Frag} {H : Hp} {p q : Addr} {vs : List V} {Q : VK} (hp : H p = some (.lst vs)) (hq : H q = some (.lst vs)) (h : vs.all fdB = true) (k : Q (.bl true) H) : rEqD K (.ref p) (.ref q) H Q := by
  obtain ⟨c, s⟩ := fd_tup (K := K) (H := H) h
  have d := (fd_all (K := K) (H := H) h).1
  have c' : (PyData.list (vs.map dat)).canLay0 = true := c
  have s' : SeqAt.shaped (PyData.list (vs.map dat)) = true := s
  refine ⟨_, _, .lst (SqL.of hp) d, .lst (SqL.of hq) d, s', s', ?_⟩
  rw [SeqAt.eqv_refl _ c']
  exact k
end Lo

set_option Elab.async false
set_option linter.all false
set_option maxRecDepth 100000
set_option maxHeartbeats 4000000
namespace Lo
open PySem PySem.Spec PyProof.Rows L2
/-! ### several clauses, each with a name -/
def wAll (K : PySem.W.Frag) (out : WX) (D : Ends) : List (Value × Nat × (Addr → Value → Option Addr → TS)) → WX
  | [] => out
  | (c, i, ts) :: r => fun cls d τ G => ∃ b, PySem.W.exmOne K cls c = some b ∧
      (b = true → ∀ a, G a = none → ts a cls d { nx := fun τ' G' => D.nx (τ'.set i none) G', rt := D.rt, bk := fun τ' G' => D.bk (τ'.set i none) G', ct := fun τ' G' => D.ct (τ'.set i none) G' } (τ.set i (some (.ref a))) G) ∧
      (b = false → wAll K out D r cls d τ G)
inductive Clauses (X : Cx) : List ExceptHandler → List (Value × Nat × (Addr → Value → Option Addr → TS)) → Prop
  | nil : Clauses X [] []
  | cons {x n : Str} {c : Value} {i : Nat} {ts : Addr → Value → Option Addr → TS} {b₀ : Stmt} {suite : List Stmt} {np pp : Pos} {hds : List ExceptHandler} {l : List (Value × Nat × (Addr → Value → Option Addr → TS))} (hi : X.N[i]? = some n) (hl : X.env.kindOf n = some .local) (hc : Names X x c)
      (su : ∀ (a : Addr) (oe : Obj) (cls : Value) (d : Option Addr) (pn : List (Addr × Obj)), L2N.Zn cls d oe → (∃ vs, oe.data = .fields vs) → PSs (X.suite a ((a, oe) :: pn)) (b₀ :: suite) (ts a cls d)) (r : Clauses X hds l) :
      Clauses X (.ExceptHandler (some (.Name x np)) (some n) (b₀ :: suite) pp :: hds) ((c, i, ts) :: l)
theorem ps_try_all {X : Cx} {body : List Stmt} {h₀ : ExceptHandler} {hds : List ExceptHandler} {l : List (Value × Nat × (Addr → Value → Option Addr → TS))} {pos : Pos} {tb : WX → TS} {out : WX} (hs : X.stack = X.env :: X.outer) (hf : X.env.frame = some X.env.locals) (hN : X.N.Nodup) (tk : L2N.Takes X out)
    (hb : ∀ (W : WX) (pn : List (Addr × Obj)) (xe : Value → Shared → Prop), L2N.Takes (X.tr pn xe) W → PassesOwn (model X.prog X.w) X.A X.env xe → PSs (X.tr pn xe) body (tb W)) (hh : Clauses X (h₀ :: hds) l) :
    PS X (.Try body (h₀ :: hds) [] [] pos) (fun D σ H => tb (wAll X.K out D l) D σ H) := by
  constructor
  intro pins s σ H D I h
  have ok := I.ok
  have frs' : X.A.frames = some (X.env :: X.outer) := by rw [ok.frames, hs]
  apply wpAny_Try_except
  have run := (hb (wAll X.K out D l) (X.pn ++ pins) (fun e t1 => wpAny (model X.prog X.w) X.A (noteFrame e X.env) (fun _ t2 => wpAny (model X.prog X.w) X.A (setFlight e none)
    (fun _ t3 => wpAny (model X.prog X.w) X.A (handleBy e X.env (h₀ :: hds)) (SP X pins D) X.xe t3) X.xe t2) X.xe t1) ?_ PassesOwn.looking).run [] s σ H D (I.toTry _) h
  · refine wpAny_mono run (fun f t hsp => ?_) (fun e t he => he)
    cases f with
    | next =>
      obtain ⟨τ, G, J, q⟩ := hsp
      exact wpAny_execs_nil ⟨τ, G, J.ofTry ok, q⟩
    | brk =>
      obtain ⟨τ, G, J, q⟩ := hsp
      exact ⟨τ, G, J.ofTry ok, q⟩
    | cont =>
      obtain ⟨τ, G, J, q⟩ := hsp
      exact ⟨τ, G, J.ofTry ok, q⟩
    | ret u =>
      obtain ⟨v, τ, G, J, r, q⟩ := hsp
      exact ⟨v, τ, G, J.ofTry ok, r, q⟩
  · intro u t xx
    obtain ⟨a, B, sI, pins2, τ, G, cls, d, rfl, J0, nb, up, sky, na, os, ag, w⟩ := xx
    have J : Inv X pins τ G sI := J0.ofTry ok
    rw [← show X.stack = X.env :: X.outer from hs] at frs'
    have sky2 : Sky B X.stack a (L2N.Zn cls d) X.env.locals t.heap := sky
    rw [hs] at frs' sky2
    show wpAny (model X.prog X.w) X.A (noteFrame (.ref a) X.env) _ _ _
    refine L2N.Sky.land L2N.Zn.steady frs' hf sky2 fun h3 fl up3 => ?_
    have J3 : Inv X pins τ G { t with heap := h3 } := J.landed nb fl.1 (up.trans up3) os ag
    obtain ⟨oe3, vs3, at3, z3, d3⟩ := fl.there
    have off : a ∉ frs (X.env :: X.outer) := fun m => by
      obtain ⟨_, o, e, no⟩ := fl.2.2.1.mem m
      rw [at3] at e
      cases e
      exact no _ d3
    have offL : a ≠ X.env.locals := fun z => off (List.mem_filterMap.mpr ⟨X.env, List.mem_cons_self, by rw [hf, z]⟩)
    have offF : a ∉ X.fs := fun m => by
      obtain ⟨e, he, q⟩ := List.mem_filterMap.mp m
      exact off (List.mem_filterMap.mpr ⟨e, List.mem_cons_of_mem _ he, q⟩)
    have S3 := J3.suite at3 d3 na offL offF
    have go : ∀ {hs2 : List ExceptHandler} {l2 : List (Value × Nat × (Addr → Value → Option Addr → TS))}, Clauses X hs2 l2 → wAll X.K out D l2 cls d τ G →
        wpAny (model X.prog X.w) X.A (handleBy (.ref a) X.env hs2) (SP X pins D) X.xe { t with heap := h3 } := by
      intro hs2 l2 cl
      induction cl with
      | nil =>
        intro w
        apply wpAny_handleBy_nil
        obtain ⟨k1, k2, k3, oe, vs, T, oT, ts2, he, hz, hd, h1, hr⟩ := id fl
        unfold PySem.passOn
        apply wpAny_bind
        apply wpAny_field he hd h1
        rw [if_neg (show ¬ ((Value.ref T == Value.none) = true) by simp)]
        have fin : wpAny (model X.prog X.w) X.A (setFlight (.ref a) X.env.frame) (fun _ t4 => wpAny (model X.prog X.w) X.A (throw (.ref a) : Sem Flow) (SP X pins D) X.xe t4) X.xe { t with heap := h3 } := by
          rw [hf]
          exact HandSPX.setFlight_upZ fl fun h4 hh4 up4 => wpAny_throw (tk _ _ ⟨a, B, sI, pins, τ, G, cls, d, rfl, J, nb, (up.trans up3).trans up4, .inr (.inr (by rw [hs]; exact hh4)), na, os, ag, w⟩)
        first
          | exact wpAny_bind (wpAny_pure (wpAny_bind fin))
          | exact wpAny_bind fin
      | @cons x n c i ts b₀ suite np pp hds2 l3 hi hl hc su r ih =>
        intro w
        obtain ⟨b, eb, yes, no⟩ := w
        apply wpAny_handleBy_cons (codeAny_handlers_test ?_) (by intro q; cases q)
        have look : PySem.W.Looks (model X.prog X.w) h3 (typeOf (.ref a)) cls := fun A Q E s k q => wpAny_typeOf_ref (k _ _ at3) (by rw [z3.1]; exact q)
        have test : ∀ {Q : Value → Shared → Prop} {E : Value → Shared → Prop}, Q c { t with heap := h3 } → wpAny (model X.prog X.w) (X.A.mark (some (.ref a))) (eval (.Name x np) X.env) Q E { t with heap := h3 } := fun {Q E} q => by
          rcases hc with ⟨hg, hdbg, hm | ⟨hm, hv, hnn⟩⟩
          · exact ld_glob (X := X.suite a ((a, oe3) :: (X.pn ++ pins))) S3 hg hm q hdbg
          · exact ld_blt (X := X.suite a ((a, oe3) :: (X.pn ++ pins))) S3 hg hm hv q hnn hdbg
        apply test
        apply (PySem.W.exm_one (M := model X.prog X.w) J3.kIn look eb).here
        cases b with
        | true =>
          apply codeAny_handlers_suite_as
          refine HandSPX.lands_againZ fl fun h4 fl4 up4 => ?_
          have J4 : Inv X pins τ G { t with heap := h4 } := J.landed nb fl4.1 ((up.trans up3).trans up4) os ag
          obtain ⟨oe4, vs4, at4, z4, d4⟩ := fl4.there
          refine store_ok (X := X.suite a ((a, oe4) :: (X.pn ++ pins))) (v := .ref a) (J4.suite at4 d4 na offL offF) hN hi (.inl hl) rfl (fun t5 S5 => ?_) (.inr hl)
          refine wpAny_mono ((su a oe4 cls d (X.pn ++ pins) z4 ⟨_, d4⟩).run [] t5 _ G _ S5 (yes rfl a na)) (fun f t6 hsp => ?_) (fun _ _ z => z.elim)
          cases f with
          | next =>
            obtain ⟨τ6, G6, S6, q6⟩ := hsp
            exact gone_ok (S6.unsuite ok) hN hi hl fun t7 J7 => ⟨_, _, J7, q6⟩
          | brk =>
            obtain ⟨τ6, G6, S6, q6⟩ := hsp
            exact gone_ok (S6.unsuite ok) hN hi hl fun t7 J7 => ⟨_, _, J7, q6⟩
          | cont =>
            obtain ⟨τ6, G6, S6, q6⟩ := hsp
            exact gone_ok (S6.unsuite ok) hN hi hl fun t7 J7 => ⟨_, _, J7, q6⟩
          | ret u =>
            obtain ⟨v6, τ6, G6, S6, r6, q6⟩ := hsp
            exact gone_ok (S6.unsuite ok) hN hi hl fun t7 J7 => ⟨_, _, _, J7, r6, q6⟩
        | false => exact ih (no rfl)
    exact go hh w
/-! ### min of a list of texts -/
theorem best_min (f : Nat → Str) : ∀ k, argBest (fun i j => decide ((f i).cps.toList < (f j).cps.toList)) k ≤ k ∧ ∀ j, j ≤ k → ¬ (f j).cps.toList < (f (argBest (fun i j => decide ((f i).cps.toList < (f j).cps.toList)) k)).cps.toList
  | 0 => ⟨Nat.le_refl _, fun j hj => by
    obtain rfl : j = 0 := by omega
    exact List.lt_irrefl _⟩
  | k + 1 => by
    obtain ⟨h1, h2⟩ := best_min f k
    unfold argBest
    by_cases c : (f (k + 1)).cps.toList < (f (argBest (fun i j => decide ((f i).cps.toList < (f j).cps.toList)) k)).cps.toList
    · rw [if_pos (decide_eq_true c)]
      refine ⟨Nat.le_refl _, fun j hj z => ?_⟩
      rcases Nat.lt_or_ge k j with q | q
      · obtain rfl : j = k + 1 := by omega
        exact List.lt_irrefl _ z
      · exact h2 j q (List.lt_trans z c)
    · rw [if_neg (by simpa using c)]
      refine ⟨Nat.le_succ_of_le h1, fun j hj => ?_⟩
      rcases Nat.lt_or_ge k j with q | q
      · obtain rfl : j = k + 1 := by omega
        exact c
      · exact h2 j q
def rMinS (K : PySem.W.Frag) : List V → Hp → VK → Prop := fun vs H Q => ∃ (a : Addr) (zs : List Str), vs = [V.ref a] ∧ SqL K H a (zs.map V.str) ∧ zs ≠ [] ∧ ∀ z, z ∈ zs → (∀ y ∈ zs, ¬ y.cps.toList < z.cps.toList) → Q (.str z) H
theorem strs_at2 : ∀ {us : List Value} {zs : List Str} {i : Nat} {v : Value}, PyProof.Rows.StrsAre us zs → us[i]? = some v → ∃ t, v = Value.str (zs.getD i Str.empty) t
  | _, _, 0, v, .cons x k t, h => by
    simp at h
    exact ⟨k, by rw [← h]; rfl⟩
  | _, _, i + 1, v, .cons x k t, h => by
    obtain ⟨q, e⟩ := strs_at2 (i := i) t (by simpa using h)
    exact ⟨q, by rw [e]; rfl⟩
theorem cr_minS {X : Cx} (hc : X.calm = true) : CallR X (.builtin "min") (rMinS X.K) := by
  intro pins s σ H vs us Q I r h
  obtain ⟨a, zs, rfl, hs, hne, q⟩ := h
  obtain ⟨its, rv, hl, _⟩ := I.list hs
  rw [Vals.ref1 r]
  have hst := rv.strs
  have hh := I.ok.hd hc
  have len : its.length = zs.length := by have := rv.length; rw [List.length_map] at this; exact this.symm
  have pos : 0 < zs.length := List.length_pos_iff.mpr hne
  have hl := hl.isList
  have hlt : a < s.heap.objs.size := by obtain ⟨_, e, _⟩ := hl; exact Heap.lt_size e
  have hn : a ≠ s.heap.objs.size := Nat.ne_of_lt hlt
  apply call_min_walk
  apply wpAny_pyIter_list hl
  refine ⟨_, _, _, _, _, _, fun i j => decide ((zs.getD i Str.empty).cps.toList < (zs.getD j Str.empty).cps.toList), rfl, Walks.list (A := X.A.in1) hh s.heap.objs.size a hn its.toArray, ⟨⟨_, Heap.get?_push_size _ rfl, rfl, rfl⟩, hl.push _⟩, fun b hb => ?_, by simp [len]; exact pos, ?_, fun v h' tk hP hk => ?_⟩
  · show b < (s.heap.push _).objs.size
    rw [Heap.size_push]
    simp only [List.mem_cons, List.not_mem_nil, or_false] at hb
    rcases hb with rfl | rfl
    · exact Nat.lt_succ_self _
    · exact Nat.lt_succ_of_lt hlt
  · intro i j vi vj s2 Q2 E2 hi hj hQ
    obtain ⟨t, rfl⟩ := strs_at2 hst (by simpa using hi)
    obtain ⟨u, rfl⟩ := strs_at2 hst (by simpa using hj)
    exact PyProof.Rows.lt_str hQ
  · obtain ⟨b1, b2⟩ := best_min (fun i => zs.getD i Str.empty) (zs.length - 1)
    rw [show its.toArray.size - 1 = zs.length - 1 by rw [List.size_toArray, len]] at hP
    generalize argBest (fun i j => decide ((zs.getD i Str.empty).cps.toList < (zs.getD j Str.empty).cps.toList)) (zs.length - 1) = m at *
    obtain ⟨t, rfl⟩ := strs_at2 hst (by simpa using hP)
    have hm : m < zs.length := by omega
    have e : zs.getD m Str.empty = zs[m] := by simp [List.getD_eq_getElem?_getD, hm]
    refine ⟨.str (zs.getD m Str.empty), H, I.kept (t' := tk) fun b o ho => hk b o (fun z => ?_) (Heap.get?_push_of_some _ ho), ⟨t, rfl⟩, q _ (by rw [e]; exact List.getElem_mem hm) fun y my => ?_⟩
    · simp only [List.mem_cons, List.not_mem_nil, or_false] at z
      exact absurd (Heap.lt_size ho) (by rw [z]; exact Nat.lt_irrefl _)
    · obtain ⟨j, hj, rfl⟩ := List.mem_iff_getElem.mp my
      have := b2 j (by omega)
      simpa [List.getD_eq_getElem?_getD, hj] using this
/-! ### a class method called within a try -/
def tClsS (C : Addr) (sp : Sp) (E : L2.St → XK) (ta : TE) (t : TA) : TE := fun σ H Q => ta σ H fun x H1 => x = .ref C ∧ t σ H1 fun vs H2 => sp (.ref C :: vs) H2 Q (E σ)
theorem pe_owncS {X : Cx} {k : Nat} {C : Addr} {m : Str} {ps : List Str} {sp : Sp} {E : L2.St → XK} {pos apos : Pos} {e o : Expr} {es : List Expr} {ta : TE} {t : TA} {pl : Sem Bool} (O : OwnC X.prog X.w X.K X.mg X.base k C m ps sp) (he : PE X o ta) (hr : Room k X.A)
    (hx : ∀ σ, PassesAt (L2N.CX X.prog X.w) X σ (E σ)) (ha : PA X (e :: es) t)
    (hst : starEach (e :: es) X.env = (false, eval e X.env) :: starEach es X.env := by rfl) (hpl : (backTo pos (starEach es X.env)).any (·.1) = false := by rfl)
    (ht : eval (.Call (.Attribute o m apos) (e :: es) [] pos) X.env = (do
        let ov ← eval o X.env
        standAt apos.atName
        let (g, first) ← holding [ov] (getMethod ov m pl)
        callWith pos g first (backTo pos (starEach (e :: es) X.env)) (backToKw pos (keywordEach [] X.env))) := by rfl) :
    PE X (.Call (.Attribute o m apos) (e :: es) [] pos) (tClsS C sp E ta t) := by
  obtain ⟨f, fd, q, mc, F, r, c, hb⟩ := O.ex
  constructor
  intro pins s σ H Q I h
  apply PySem.W.methodCall_KW (pl := pl) ?_ ht
  apply thn (he.run pins s σ H _ I h)
  rintro u s1 ⟨x, H1, I1, rx, ex, q1⟩
  subst ex
  obtain rfl : u = Value.ref C := rx
  refine ClX.getmethcm_ok I1 r c fun s2 I2 => ?_
  refine ClX.callwith_cm I2 (ClX.base_none I1 (Nat.le_refl _)) c.fi (thn (ha.run pos _ s2 σ H1 _ I2 q1) ?_) hst hpl
  rintro us s3 ⟨vs, H2, I3, rv, q2⟩
  refine ⟨⟨ClX.pin_at I3, I3.kIn⟩, ?_⟩
  have r2 : Vals (V.ref C :: vs) (Value.ref C :: us) := .cons rfl rv
  have len : (Value.ref C :: us ++ []).length = ps.length := by
    have e := r2.length
    rw [F.len _ _ _ _ q2] at e
    rw [List.append_nil]
    exact e.symm
  have bt := hb s3 (Value.ref C :: us) I3.kIn len
  rw [List.append_nil] at bt
  have run := F.run X.A X.stack s3 H2 ⟨Value.ref C :: us, []⟩ (Value.ref C :: us) (V.ref C :: vs) Q (E σ) hr I3.env0 bt r2 q2
  refine thn (Q := EP X ((s1.heap.objs.size, PySem.W.methodObj (.ref f) (.ref C)) :: pins) σ Q) (wpAny_call (PySem.W.method_call (ClX.pin_at I3) (codeAny_mono run ?_))) fun _ _ y => ClX.unpinE y
  rintro (e | fl) s' hq
  · exact hx σ _ _ _ e s' I3 hq
  · cases fl with
    | ret u => exact I3.after hq
    | next => exact hq.elim
    | brk => exact hq.elim
    | cont => exact hq.elim
theorem neLF {K : PySem.W.Frag} {H : Hp} {p q : Addr} {vs : List V} {Q : VK} (hp : H p = some (.lst vs)) (hq : H q = some (.lst vs)) (h : vs.all fdB = true) (k : Q (.bl false) H) : rNeD K (.ref p) (.ref q) H Q := by
  obtain ⟨c, s⟩ := fd_tup (K := K) (H := H) h
  have d := (fd_all (K := K) (H := H) h).1
  have c' : (PyData.list (vs.map dat)).canLay0 = true := c
  have s' : SeqAt.shaped (PyData.list (vs.map dat)) = true := s
  refine ⟨_, _, .lst (SqL.of hp) d, .lst (SqL.of hq) d, s', s', ?_⟩
  rw [SeqAt.eqv_refl _ c']
  exact k
end Lo

set_option Elab.async false
set_option linter.all false
set_option maxRecDepth 100000
set_option maxHeartbeats 4000000
namespace Lo
open PySem PySem.Spec PyProof.Rows L2
/-! ### slices -/
theorem cut_from {xs : List V} {k : Nat} : cutV xs (some (k : Int)) none = xs.drop k := by
  unfold cutV
  rw [HT.sIx_nat, HT.sIx_none]
  by_cases h : k ≤ xs.length
  · rw [Nat.min_eq_left h, ← List.length_drop, List.take_length]
  · rw [Nat.min_eq_right (by omega), Nat.sub_self, List.take_zero, List.drop_eq_nil_of_le (by omega)]
theorem cut_to {xs : List V} {k : Nat} : cutV xs none (some (k : Int)) = xs.take k := by
  unfold cutV
  rw [HT.sIx_nat, HT.sIx_none, List.drop_zero, Nat.sub_zero]
  by_cases h : k ≤ xs.length
  · rw [Nat.min_eq_left h]
  · rw [Nat.min_eq_right (by omega), List.take_length, List.take_of_length_le (by omega)]
/-! ### dicts -/
theorem valV_drop {κ : Type} [DecidableEq κ] : ∀ {kvs : List (κ × V)} {k j : κ}, valV (dropK kvs k) j = if j = k then none else valV kvs j
  | [], k, j => by
    show valV ([] : List (κ × V)) j = _
    rw [valV_nil]
    split <;> rfl
  | (i, v) :: r, k, j => by
    have ih := valV_drop (kvs := r) (k := k) (j := j)
    by_cases c : i = k
    · rw [dropK_pos c, ih]
      by_cases q : j = k
      · rw [if_pos q, if_pos q]
      · rw [if_neg q, if_neg q]
        have n : ¬ i = j := fun e => q (by rw [← e, c])
        unfold valV
        simp [n]
    · rw [dropK_neg c]
      by_cases e : i = j
      · subst e
        rw [if_neg c]
        unfold valV
        simp
      · have a : valV ((i, v) :: dropK r k) j = valV (dropK r k) j := by unfold valV; simp [e]
        have b : valV ((i, v) :: r) j = valV r j := by unfold valV; simp [e]
        rw [a, b, ih]
/-- texts == [] -/
theorem eq_nilS {K : PySem.W.Frag} {H : Hp} {p q : Addr} {zs : List Str} {Q : VK} (hp : H p = some (.lst (zs.map V.str))) (hq : H q = some (.lst [])) (h : ∀ z ∈ zs, Lets z) (k : Q (.bl (decide (zs = []))) H) : rEqD K (.ref p) (.ref q) H Q := by
  obtain ⟨a, b⟩ := strs_lay h
  have c : (PyData.list (zs.map .str)).canLay0 = true := a
  have s : SeqAt.shaped (PyData.list (zs.map .str)) = true := by
    unfold SeqAt.shaped
    rw [c, Bool.true_and]
    refine decide_eq_true ?_
    show PyData.depthAll (zs.map .str) + 1 ≤ 64
    rw [b]
    decide
  refine ⟨_, _, .lst (SqL.of hp) strs_dp, .lst (SqL.of hq) .nil, s, by rfl, ?_⟩
  have e : PyData.eqv (.list (zs.map .str)) (.list []) = decide (zs = []) := by
    cases zs with
    | nil => rfl
    | cons z r => rfl
  rw [e]
  exact k
/-! ### fractions in order -/
def leQ (x y : Int × Int) : Prop := x.1 * y.2 ≤ y.1 * x.2
theorem nrm_lt {a b : Int} (h : 0 < b) : (nrm a b).1 < 0 ↔ a < 0 := by
  have c := nrm_cross (a := a) (b := b)
  have r := (nrm_red (a := a) (b := b) (by omega)).pos
  constructor
  · intro n
    have : (nrm a b).1 * b < 0 := Int.mul_neg_of_neg_of_pos n h
    rw [c] at this
    exact Int.not_le.mp fun q => absurd (Int.mul_nonneg q (Int.le_of_lt r)) (by omega)
  · intro n
    have : a * (nrm a b).2 < 0 := Int.mul_neg_of_neg_of_pos n r
    rw [← c] at this
    exact Int.not_le.mp fun q => absurd (Int.mul_nonneg q (Int.le_of_lt h)) (by omega)
theorem sub_lt {x y : Int × Int} (h : Red x.1 x.2) (k : Red y.1 y.2) : (addP x (mulP y (-1, 1))).1 < 0 ↔ ¬ leQ y x := by
  rw [mulP_neg k]
  unfold addP leQ
  rw [nrm_lt (Int.mul_pos h.pos k.pos)]
  show x.1 * y.2 + -y.1 * x.2 < 0 ↔ _
  rw [Int.neg_mul]
  omega
/-! ### a text in a list of texts -/
theorem inV_strs {z : Str} {ys : List Str} : inV (.str z) (ys.map V.str) = decide (z ∈ ys) := by
  unfold inV
  rw [List.any_map]
  rw [Bool.eq_iff_iff, List.any_eq_true, decide_eq_true_iff]
  constructor
  · rintro ⟨y, m, e⟩
    have e : (y == z) = true := e
    rw [beq_iff_eq] at e
    rw [← e]
    exact m
  · intro m
    exact ⟨z, m, show (z == z) = true from beq_self_eq_true z⟩
theorem flat_strs {ys : List Str} : (ys.map V.str).all flatV = true := by
  rw [List.all_map]
  exact List.all_eq_true.mpr fun _ _ => rfl
end Lo

set_option Elab.async false
set_option linter.all false
set_option maxRecDepth 100000
set_option maxHeartbeats 4000000
namespace Lo
open PySem PySem.Spec PyProof.Rows L2 L2H
/-! ### within an except suite: a list's iterator comes to its end -/
theorem list_end_hot {prog : Program} {w : World} {A : Around} {E : Value → Shared → Prop} {s : Shared} {it l x1 : Addr} {i : Nat} {items : Array Value} {Q : Option Value → Shared → Prop} (hot : HotX.HotAt A x1 s.heap) (ne : x1 ≠ it)
    (hit : s.heap.IsListIter it l i) (hl : s.heap.IsList l items) (over : items[i]? = none) (q : ∀ h', Heap.ExtBut it s.heap h' → Q none { s with heap := h' }) : wpAny (model prog w) A (pyNext (.ref it)) Q E s := by
  have ⟨handled, o1, vs1, e1, d1, c1⟩ := hot
  have ⟨o, ho, _, hd⟩ := hit
  have ⟨ol, hol, _, _, hdl⟩ := hl
  unfold pyNext
  apply wpAny_bind
  apply wpAny_attempt
  apply wpAny_callSpecial?_slot (name := Str.ofString "__next__") hit.typeIs slot_listiter_next
  apply wpAny_call_entry slot_listiter_next hit.typeIs entry_listiter_next ?_ (args_listiter_next _)
  show wpAny _ _ (field (.ref it) 0 >>= _) _ _ s
  apply wpAny_bind
  apply wpAny_field ho hd (x := .ref l) rfl
  show wpAny _ _ (if (Value.ref l == Value.none) = true then _ else _) _ _ s
  rw [if_neg (show ¬ ((Value.ref l == Value.none) = true) by exact Bool.false_ne_true)]
  show wpAny _ _ (field (.ref it) 1 >>= _) _ _ s
  apply wpAny_bind
  apply wpAny_field ho hd (x := .int i 0) rfl
  show wpAny _ _ (seqItems? (.ref l) >>= _) _ _ s
  apply wpAny_bind
  apply wpAny_seqItems hol hdl
  simp only [Int.toNat_natCast, over]
  apply wpAny_bind
  apply wpAny_rule
  apply wpAny_bind
  apply wpAny_setField ho hd (by simp)
  show wpAny _ _ (newExc (.type "StopIteration") [] >>= _) _ _ _
  apply wpAny_bind
  simp only [newExc, newTuple]
  apply wpAny_bind
  refine wpAny_newObj_type ?_ (by size_fits)
  refine wpAny_bind (m := firstArgMember _ _) (wpAny_of_eq (a := Value.none) (by first | rfl | (simp only [firstArgMember]; rfl)) ?_)
  refine wpAny_newObj_type ?_ (by size_fits)
  have e2 := (Heap.get?_update_other s.heap (Obj.mapFields (·.setIfInBounds 0 Value.none)) (Ne.symm ne)).trans e1
  refine HotX.raiseNew_hot ⟨handled, o1, vs1, Heap.get?_push_of_some _ (Heap.get?_push_of_some _ e2), d1, c1⟩ (Nat.ne_of_lt (Heap.lt_size (Heap.get?_push_of_some _ e2))) (Heap.get?_push_size _ rfl) rfl (by first | (simp; done) | (simp; omega) | (simp only [Array.size_append]; simp; omega)) ?_
  refine wpAny_bind (wpAny_isInstance (T := "StopIteration") (b := true) ⟨_, Heap.get?_update_self _ (Heap.get?_push_size _ rfl) rfl, rfl⟩ isSubtype_stop ?_)
  refine wpAny_pure (q _ fun b o2 nb eb => ?_)
  have e3 := (Heap.get?_update_other s.heap (Obj.mapFields (·.setIfInBounds 0 Value.none)) (Ne.symm nb)).trans eb
  rw [Heap.get?_update_other _ _ (Nat.ne_of_gt (Heap.lt_size (Heap.get?_push_of_some _ e3)))]
  exact Heap.get?_push_of_some _ (Heap.get?_push_of_some _ e3)
/-- the walk over a list while x1's exception is handled -/
theorem walk_hot {prog : Program} {w : World} {A : Around} {x1 : Addr} (handled : A.handled = some (.ref x1)) (I l : Addr) (nl : l ≠ I) (nx : x1 ≠ I) (items : Array Value) :
    Walks prog w A I [I, l, x1] [I] items.size (fun i v => items[i]? = some v) (fun i h => h.IsListIter I l i ∧ h.IsList l items ∧ HotX.HotAt A x1 h) where
  sub := fun b hb => by simp at hb; simp [hb]
  frame := fun _ _ _ ⟨a, b, c, o, vs, e, d, n⟩ k => ⟨a.at fun u z => k I (by simp) u z, b.at fun u z => k l (by simp) u z, c, o, vs, k x1 (by simp) o e, d, n⟩
  item := fun i s Q E lt ⟨a, b, c, o, vs, e, d, n⟩ q => by
    refine wpAny_pyNext_list_item a b (x := items[i]) (by simp [lt]) fun h' a' sb => ?_
    exact q _ h' s.toks (by simp [lt]) ⟨a', b.extBut sb.extBut nl, c, o, vs, sb.extBut x1 o nx e, d, n⟩ fun y u ny z => sb.extBut y u (fun g => ny (by simp [g])) z
  done := fun s Q E ⟨a, b, c⟩ q => list_end_hot c nx a b (by simp) fun h' eb => q h' s.toks fun y u ny z => eb y u (fun g => ny (by simp [g])) z
  self := fun _ _ _ _ st q => wpAny_pyIter_listiter st.1 q
/-! ### min of texts within an except suite -/
theorem cr_minH {X : Cx} (hc : HotC X) : CallR X (.builtin "min") (rMinS X.K) := by
  intro pins s σ H vs us Q I r h
  obtain ⟨a, zs, rfl, hs, hne, q⟩ := h
  obtain ⟨its, rv, hl, _⟩ := I.list hs
  rw [Vals.ref1 r]
  have hst := rv.strs
  obtain ⟨x1, hot⟩ := hc.at I
  obtain ⟨handled, o1, vs1, e1, d1, c1⟩ := hot
  have len : its.length = zs.length := by have := rv.length; rw [List.length_map] at this; exact this.symm
  have pos : 0 < zs.length := List.length_pos_iff.mpr hne
  have hl := hl.isList
  have hlt : a < s.heap.objs.size := by obtain ⟨_, e, _⟩ := hl; exact Heap.lt_size e
  have x1lt : x1 < s.heap.objs.size := Heap.lt_size e1
  have hn : a ≠ s.heap.objs.size := Nat.ne_of_lt hlt
  apply call_min_walk
  apply wpAny_pyIter_list hl
  refine ⟨_, _, _, _, _, _, fun i j => decide ((zs.getD i Str.empty).cps.toList < (zs.getD j Str.empty).cps.toList), rfl, walk_hot (A := X.A.in1) handled s.heap.objs.size a hn (Nat.ne_of_lt x1lt) its.toArray,
    ⟨⟨_, Heap.get?_push_size _ rfl, rfl, rfl⟩, hl.push _, handled, o1, vs1, Heap.get?_push_of_some _ e1, d1, c1⟩, fun b hb => ?_, by simp [len]; exact pos, ?_, fun v h' tk hP hk => ?_⟩
  · show b < (s.heap.push _).objs.size
    rw [Heap.size_push]
    simp only [List.mem_cons, List.not_mem_nil, or_false] at hb
    rcases hb with rfl | rfl | rfl
    · exact Nat.lt_succ_self _
    · exact Nat.lt_succ_of_lt hlt
    · exact Nat.lt_succ_of_lt x1lt
  · intro i j vi vj s2 Q2 E2 hi hj hQ
    obtain ⟨t, rfl⟩ := strs_at2 hst (by simpa using hi)
    obtain ⟨u, rfl⟩ := strs_at2 hst (by simpa using hj)
    exact PyProof.Rows.lt_str hQ
  · obtain ⟨b1, b2⟩ := best_min (fun i => zs.getD i Str.empty) (zs.length - 1)
    rw [show its.toArray.size - 1 = zs.length - 1 by rw [List.size_toArray, len]] at hP
    generalize argBest (fun i j => decide ((zs.getD i Str.empty).cps.toList < (zs.getD j Str.empty).cps.toList)) (zs.length - 1) = m at *
    obtain ⟨t, rfl⟩ := strs_at2 hst (by simpa using hP)
    have hm : m < zs.length := by omega
    have e : zs.getD m Str.empty = zs[m] := by simp [List.getD_eq_getElem?_getD, hm]
    refine ⟨.str (zs.getD m Str.empty), H, I.kept (t' := tk) fun b o ho => hk b o (fun z => ?_) (Heap.get?_push_of_some _ ho), ⟨t, rfl⟩, q _ (by rw [e]; exact List.getElem_mem hm) fun y my => ?_⟩
    · simp only [List.mem_cons, List.not_mem_nil, or_false] at z
      exact absurd (Heap.lt_size ho) (by rw [z]; exact Nat.lt_irrefl _)
    · obtain ⟨j, hj, rfl⟩ := List.mem_iff_getElem.mp my
      have := b2 j (by omega)
      simpa [List.getD_eq_getElem?_getD, hj] using this
/-! ### [str(x) for x in a list of texts] within an except suite -/
def tStrs (K : PySem.W.Frag) (ti : TE) : TE := fun σ H Q => ti σ H fun v H1 => ∃ (a : Addr) (zs : List Str), v = .ref a ∧ SqL K H1 a (zs.map V.str) ∧ zs.length ≤ 1000 ∧ ∀ D, H1 D = none → Q (.ref D) (upd H1 D (.lst (zs.map V.str)))
theorem vals_strs : ∀ {us : List Value} {zs : List Str}, us.length = zs.length → (∀ j, j < zs.length → ∃ t, us[j]? = some (Value.str (zs.getD j Str.empty) t)) → Vals (zs.map V.str) us
  | [], [], _, _ => .nil
  | u :: us, z :: zs, l, h => by
    obtain ⟨t, e⟩ := h 0 (by simp)
    obtain rfl : u = Value.str z t := by simpa using e
    exact .cons ⟨t, rfl⟩ (vals_strs (by simpa using l) fun j hj => by
      obtain ⟨t, e⟩ := h (j + 1) (by simpa using hj)
      exact ⟨t, by simpa using e⟩)
  | [], _ :: _, l, _ => by simp at l
  | _ :: _, [], l, _ => by simp at l
theorem pair_at {F : Value → Value → Prop} : ∀ {xs ys : List Value}, Paired F xs ys → ∀ (j : Nat) (x : Value), xs[j]? = some x → ∃ y, ys[j]? = some y ∧ F x y
  | _, _, .cons h t, 0, x, e => ⟨_, rfl, by simp at e; exact e ▸ h⟩
  | _, _, .cons h t, j + 1, x, e => by
    obtain ⟨y, a, b⟩ := pair_at t j x (by simpa using e)
    exact ⟨y, by simpa using a, b⟩
theorem pe_strsH {X : Cx} {K : PySem.W.Frag} (hK : X.K = K) (hc : HotC X) {x : Str} {iter : Expr} {scope : Scope} {px p1 p2 p3 pos : Pos} {ti : TE} (free : ∀ y ∈ scope.names, y.2 ≠ .free) (cell : ∀ y ∈ scope.names, y.2 ≠ .cell) (kind : scope.kind = .function)
    (names : ∀ y ∈ scope.names, y.2 = .local → scope.names.lookup y.1 = some .local) (lx : scope.names.lookup x = some .local) (gs : ∀ C, (compEnv scope C X.env).kindOf "str" = some .globalImplicit) (ls : ∀ C, (compEnv scope C X.env).kindOf x = some .local)
    (hm : X.mg "str" = none) (he : PE X iter ti) (dbx : (x == ("__debug__" : Str)) = false := by decide) (hs : ∀ v, foldedSetIterable iter X.env v = pure v := by intro _; rfl) :
    PE X (.ListComp (.Call (.Name "str" p1) [.Name x p2] [] p3) [⟨.Name x px, iter, [], 0⟩] scope pos) (tStrs K ti) := by
  subst hK
  constructor
  intro pins s σ H Q I h
  apply wpAny_ListComp_walk (fun _ => true) (fun v y => ∃ z t, v = Value.str z t ∧ y = Value.str z t) free cell kind names lx ?_ hs
  apply thn (he.run pins s σ H _ I h)
  rintro u s1 ⟨v, H1, I1, r1, a, zs, rfl, sq, small, q⟩
  obtain rfl : u = .ref a := r1
  obtain ⟨its, rv, hl, _⟩ := I1.list sq
  have hl := hl.isList
  have hst := rv.strs
  obtain ⟨x1, handled, o1, vs1, e1, d1, c1⟩ := hc.at I1
  have len : its.length = zs.length := by have := rv.length; rw [List.length_map] at this; exact this.symm
  have hlt : a < s1.heap.objs.size := by obtain ⟨_, e, _⟩ := hl; exact Heap.lt_size e
  have x1lt : x1 < s1.heap.objs.size := Heap.lt_size e1
  have off : ∀ {b : Addr} {o : Obj}, s1.heap.get? b = some o → b ∉ [s1.heap.objs.size] := fun {b o} e m => by
    have z : b = s1.heap.objs.size := by simpa using m
    exact absurd (Heap.lt_size e) (by rw [z]; exact Nat.lt_irrefl _)
  apply wpAny_pyIter_list hl
  refine ⟨_, _, _, _, _, _, rfl, walk_hot handled s1.heap.objs.size a (Nat.ne_of_lt hlt) (Nat.ne_of_lt x1lt) its.toArray, by simp [len, sizeLine_eq]; omega,
    ⟨⟨_, Heap.get?_push_size _ rfl, rfl, rfl⟩, hl.push _, handled, o1, vs1, Heap.get?_push_of_some _ e1, d1, c1⟩, fun b hb => ?_, ⟨?_, ?_⟩, ?_⟩
  · show b < (s1.heap.push _).objs.size
    rw [Heap.size_push]
    simp only [List.mem_cons, List.not_mem_nil, or_false] at hb
    rcases hb with rfl | rfl | rfl
    · exact Nat.lt_succ_self _
    · exact Nat.lt_succ_of_lt hlt
    · exact Nat.lt_succ_of_lt x1lt
  · intro C i v s3 m3 E' _ _ _ _ _
    exact wpAny_pure ⟨rfl, ⟨s3.heap, s3.toks, rfl, fun _ _ e => e⟩⟩
  · intro C i v s3 m3 E' hP _ ns mx keep _
    obtain ⟨t, rfl⟩ := strs_at2 hst (by simpa using hP)
    have bk : X.base.StaysIn s3.heap := fun b o e => keep b o (off (I1.bk b o e)) (Heap.get?_push_of_some _ (I1.bk b o e))
    obtain ⟨mb, h1, h2⟩ := I1.ok.mod.blt
    refine wpAny_Call_Name_kw ?_
    refine Calls.Name_function_global (env := compEnv scope C X.env) kind (gs C) ?_
    apply Calls.loadGlobal_builtin (by show s3.heap.Ns X.env.globals _; rw [I1.ok.glob]; exact I1.ok.mod.glob.keeps bk) hm (by show s3.heap.Ns X.env.builtins _; rw [I1.ok.blt]; exact h1.keeps bk) ((h2 "str" (by decide)).trans PySem.Pv.boot_str)
    refine PyProof.Rows.callWith_type1 ?_
    apply Calls.spliced_cons
    apply wpAny_Name ?_ dbx
    apply wpAny_loadName_local (env := compEnv scope C X.env) kind (ls C) ns mx
    apply Calls.spliced_nil
    exact PySem.P.str_of_str ⟨⟨_, _, rfl, rfl⟩, ⟨s3.heap, s3.toks, rfl, fun _ _ e => e⟩⟩
  · intro D h' tk ys vs nD _ ⟨n, pl⟩ hlen hP hF hk
    have nD1 : s1.heap.get? D = none := by
      cases z : s1.heap.get? D with
      | none => rfl
      | some o => rw [Heap.get?_push_of_some _ z] at nD; cases nD
    have hn := I1.hok.gone nD1
    have vs' : vs.filter (fun _ => true) = vs := List.filter_eq_self.mpr fun _ _ => rfl
    rw [vs'] at hF
    have hval : Vals (zs.map V.str) ys.toList := vals_strs (by rw [← hF.length, hlen, List.size_toArray, len]) fun j hj => by
      have hjv : j < vs.length := by rw [hlen, List.size_toArray, len]; exact hj
      obtain ⟨y, ey, z, t, e1, e2⟩ := pair_at hF j vs[j] (by simp [hjv])
      obtain ⟨t2, e3⟩ := strs_at2 hst (i := j) (v := vs[j]) (by simpa using hP j vs[j] (by simp [hjv]))
      rw [e1] at e3
      cases e3
      exact ⟨t, by rw [ey, e2]⟩
    refine ⟨.ref D, _, I1.laidN (t' := tk) (o := .lst (zs.map V.str)) (fun b o e => hk b o (off e) (Heap.get?_push_of_some _ e)) nD1 hn ⟨by rw [List.length_map, sizeLine_eq]; omega, ys.toList, n, hval, pl⟩, rfl, q D hn⟩
theorem hot_suite {X : Cx} {a : Addr} {oe : Obj} {cls : Value} {d : Option Addr} (hA : X.A.handled = some (.ref a)) (hp : (a, oe) ∈ X.pn) (hz : L2N.Zn cls d oe) (hf : ∃ vs, oe.data = .fields vs) : HotC X :=
  ⟨(a, oe), ⟨hA, hf.elim fun vs e => ⟨vs, e, hz.2.2 vs e⟩⟩, hp⟩
end Lo

set_option Elab.async false
set_option linter.all false
set_option maxRecDepth 100000
set_option maxHeartbeats 4000000
/-! LoB9: lcm; one common bottom; cents dealt out; lists that are not equal. -/
namespace Lo
open PySem PySem.Spec PyProof.Rows L2
/-! ### lcm -/
def rLcm : List V → Hp → VK → Prop := fun vs H Q => ∃ a b : Int, vs = [.int a, .int b] ∧ Sz 8000 a ∧ Sz 8000 b ∧ Sz 8000 ((Nat.lcm a.natAbs b.natAbs : Nat) : Int) ∧ Q (.int ((Nat.lcm a.natAbs b.natAbs : Nat) : Int)) H
theorem cr_lcm {X : Cx} : CallR X (.builtin "math.lcm") rLcm := by
  intro pins s σ H vs us Q I r h
  obtain ⟨a, b, rfl, ha, hb, hc, q⟩ := h
  obtain ⟨t, u, rfl⟩ := Vals.int2 r
  have h1 : (max 1 a.natAbs).log2 < 8000 := PySem.Flt.log2_lt_of (by decide) (Nat.max_lt.mpr ⟨Nat.one_lt_two_pow (by decide), ha⟩)
  have h2 : (max a.natAbs b.natAbs).log2 < 8000 := PySem.Flt.log2_lt_of (by decide) (Nat.max_lt.mpr ⟨ha, hb⟩)
  have e1 : Nat.lcm 1 a.natAbs = a.natAbs := Nat.lcm_one_left _
  have h3 : ((Nat.lcm a.natAbs b.natAbs : Nat) : Int).natAbs.log2 < 8000 := PySem.Flt.log2_lt_of (by decide) hc
  have h4 : (8000 : Nat) ≤ bitsLine := by rw [PySem.bitsLine_eq]; decide
  have g := PySem.W.mg_run_lcm a t b u (by omega) (by omega) (by rw [e1]; omega)
  rw [e1] at g
  exact call_function_meets PySem.W.MGF.kind_lcm PySem.W.MGF.plain_lcm PySem.W.MGF.entry_lcm (PySem.W.MGF.args_lcm _ _) g.meets ⟨.int _, H, I.tok _, ⟨_, rfl⟩, q⟩
/-- the least common bottom -/
def lcmL (fs : List (Int × Int)) : Nat := fs.foldl (fun b f => Nat.lcm b f.2.natAbs) 1
theorem lcmL_snoc {fs : List (Int × Int)} {f : Int × Int} : lcmL (fs ++ [f]) = Nat.lcm (lcmL fs) f.2.natAbs := by
  unfold lcmL
  rw [List.foldl_append]
  rfl
theorem lcmG_dvd (fs : List (Int × Int)) : ∀ b : Nat, b ∣ fs.foldl (fun b f => Nat.lcm b f.2.natAbs) b ∧ ∀ f ∈ fs, f.2.natAbs ∣ fs.foldl (fun b f => Nat.lcm b f.2.natAbs) b := by
  induction fs with
  | nil => exact fun b => ⟨Nat.dvd_refl _, fun f m => nomatch m⟩
  | cons g fs ih =>
    intro b
    obtain ⟨h1, h2⟩ := ih (Nat.lcm b g.2.natAbs)
    refine ⟨Nat.dvd_trans (Nat.dvd_lcm_left _ _) h1, fun f m => ?_⟩
    rcases List.mem_cons.mp m with rfl | m
    · exact Nat.dvd_trans (Nat.dvd_lcm_right _ _) h1
    · exact h2 f m
theorem lcmL_dvd {fs : List (Int × Int)} {f : Int × Int} (m : f ∈ fs) : f.2.natAbs ∣ lcmL fs := (lcmG_dvd fs 1).2 f m
theorem lcmL_take {fs : List (Int × Int)} (i : Nat) : lcmL (fs.take i) ∣ lcmL fs := by
  have e : lcmL fs = (fs.drop i).foldl (fun b f => Nat.lcm b f.2.natAbs) (lcmL (fs.take i)) := by
    unfold lcmL
    rw [← List.foldl_append, List.take_append_drop]
  rw [e]
  exact (lcmG_dvd _ _).1
theorem lcmG_pos (fs : List (Int × Int)) : ∀ b : Nat, 0 < b → (∀ f ∈ fs, 0 < f.2) → 0 < fs.foldl (fun b f => Nat.lcm b f.2.natAbs) b := by
  induction fs with
  | nil => exact fun b h _ => h
  | cons g fs ih =>
    intro b hb h
    have := h g List.mem_cons_self
    exact ih _ (Nat.lcm_pos hb (by omega)) fun f m => h f (List.mem_cons_of_mem _ m)
theorem lcmL_pos {fs : List (Int × Int)} (h : ∀ f ∈ fs, 0 < f.2) : 0 < lcmL fs := lcmG_pos fs 1 (by decide) h
theorem dvd_sz {n : Nat} {a b : Nat} (h : a ∣ b) (hb : 0 < b) (z : Sz n (b : Int)) : Sz n (a : Int) := by
  have l := Nat.le_of_dvd hb h
  exact z.le (by omega)
/-- all tops over the common bottom -/
def topsL (fs : List (Int × Int)) : List Int := fs.map fun f => f.1 * ((lcmL fs : Int) / f.2)
theorem topsL_len {fs : List (Int × Int)} : (topsL fs).length = fs.length := by simp [topsL]
theorem part_pos {fs : List (Int × Int)} (h : ∀ f ∈ fs, 0 < f.2) {f : Int × Int} (m : f ∈ fs) : 0 < (lcmL fs : Int) / f.2 := by
  have h1 := lcmL_dvd m
  have h2 := lcmL_pos h
  have h3 := h f m
  obtain ⟨c, hc⟩ := h1
  have e : (lcmL fs : Int) = f.2 * c := by
    rw [hc]
    push_cast
    congr 1
    omega
  rw [e, Int.mul_ediv_cancel_left _ (by omega)]
  rcases Nat.eq_zero_or_pos c with z | z
  · rw [z] at hc
    omega
  · omega
theorem part_sz {n : Nat} {fs : List (Int × Int)} (h : ∀ f ∈ fs, 0 < f.2) (z : Sz n (lcmL fs : Int)) {f : Int × Int} (m : f ∈ fs) : Sz n ((lcmL fs : Int) / f.2) := by
  refine z.le ?_
  have h1 := part_pos h m
  have h2 := lcmL_pos h
  have h3 : (lcmL fs : Int) / f.2 ≤ lcmL fs := Int.ediv_le_self _ (by omega)
  omega
/-! ### nearest, and what is dealt -/
def near (c w T : Int) : Int := (2 * c * w + T) / (2 * T)
theorem near_nrm {c w T : Int} (h : 0 < T) : (2 * (nrm (c * w) T).1 + (nrm (c * w) T).2) / (2 * (nrm (c * w) T).2) = near c w T := by
  have e1 := nrm_a (a := c * w) (b := T)
  have e2 := nrm_b (a := c * w) (b := T)
  have p := (nrm_red (a := c * w) (b := T) (by omega)).pos
  have gp : 0 < nrmC (c * w) T := by
    rcases Int.lt_or_le 0 (nrmC (c * w) T) with h1 | h1
    · exact h1
    · have := Int.mul_nonpos_of_nonneg_of_nonpos (Int.le_of_lt p) h1
      omega
  generalize nrmC (c * w) T = g at *
  generalize (nrm (c * w) T).1 = t at *
  generalize (nrm (c * w) T).2 = b at *
  unfold near
  have f1 : 2 * c * w + T = g * (2 * t + b) := by rw [Int.mul_assoc, ← e1, ← e2, Int.mul_add]; ac_rfl
  have f2 : 2 * T = g * (2 * b) := by rw [← e2]; ac_rfl
  rw [f1, f2, Int.mul_ediv_mul_of_pos _ _ gp]
theorem near_zero {c T : Int} (h : 0 < T) : near c 0 T = 0 := by
  unfold near
  rw [Int.mul_zero, Int.zero_add]
  exact Int.ediv_eq_zero_of_lt (by omega) (by omega)
theorem near_all {c T : Int} (h : 0 < T) : near c T T = c := by
  unfold near
  have e : 2 * c * T + T = T + c * (2 * T) := by rw [Int.add_comm, Int.mul_comm 2 c, Int.mul_assoc]
  rw [e, Int.add_mul_ediv_right _ _ (by omega), Int.ediv_eq_zero_of_lt (by omega) (by omega), Int.zero_add]
theorem near_between {c w T : Int} (h : 0 < T) : -T < 2 * (near c w T * T - c * w) ∧ 2 * (near c w T * T - c * w) ≤ T := by
  have h1 := Int.emod_nonneg (2 * c * w + T) (show 2 * T ≠ 0 by omega)
  have h2 := Int.emod_lt_of_pos (2 * c * w + T) (show 0 < 2 * T by omega)
  have h3 := Int.mul_ediv_add_emod (2 * c * w + T) (2 * T)
  unfold near
  generalize (2 * c * w + T) % (2 * T) = r at *
  generalize (2 * c * w + T) / (2 * T) = q at *
  have e : 2 * T * q = 2 * (q * T) := by rw [Int.mul_assoc, Int.mul_comm T q]
  have e2 : 2 * c * w = 2 * (c * w) := Int.mul_assoc _ _ _
  rw [e, e2] at h3
  omega
/-- the sum of the first ones -/
def sumT (ws : List Int) (k : Nat) : Int := (ws.take k).sum
theorem sumT_zero {ws : List Int} : sumT ws 0 = 0 := rfl
theorem sumT_succ {ws : List Int} {k : Nat} {x : Int} (h : ws[k]? = some x) : sumT ws (k + 1) = sumT ws k + x := by
  unfold sumT
  rw [List.take_add_one, h]
  simp
theorem sumT_all {ws : List Int} : sumT ws ws.length = ws.sum := by
  unfold sumT
  rw [List.take_length]
def partOf (c T : Int) (ws : List Int) (k : Nat) : Int := near c (sumT ws (k + 1)) T - near c (sumT ws k) T
def dealtL (c T : Int) (ws : List Int) : List Int := (List.range ws.length).map (partOf c T ws)
theorem dealtL_len {c T : Int} {ws : List Int} : (dealtL c T ws).length = ws.length := by simp [dealtL]
theorem dealtL_get {c T : Int} {ws : List Int} {k : Nat} (h : k < ws.length) : (dealtL c T ws)[k]? = some (partOf c T ws k) := by
  unfold dealtL
  rw [List.getElem?_map, List.getElem?_range h]
  rfl
theorem part_near {c T : Int} {ws : List Int} {k : Nat} {x : Int} (h : 0 < T) (hx : ws[k]? = some x) : (partOf c T ws k * T - c * x).natAbs < T := by
  obtain ⟨a1, a2⟩ := near_between (c := c) (w := sumT ws (k + 1)) h
  obtain ⟨b1, b2⟩ := near_between (c := c) (w := sumT ws k) h
  rw [sumT_succ hx] at a1 a2
  unfold partOf
  rw [sumT_succ hx]
  generalize near c (sumT ws k + x) T = m at *
  generalize near c (sumT ws k) T = n at *
  rw [Int.mul_add] at a1 a2
  rw [Int.sub_mul]
  generalize c * sumT ws k = u at *
  generalize c * x = v at *
  generalize m * T = p at *
  generalize n * T = q at *
  omega
/-- no proportion -/
def BadA (fs : List (Int × Int)) : Prop := (topsL fs).sum = 0 ∨ ∃ t ∈ topsL fs, t < 0
theorem bad_neg {fs : List (Int × Int)} (h : ∀ f ∈ fs, 0 < f.2) {f : Int × Int} (m : f ∈ fs) (n : f.1 < 0) : BadA fs :=
  .inr ⟨_, List.mem_map.mpr ⟨f, m, rfl⟩, Int.mul_neg_of_neg_of_pos n (part_pos h m)⟩
theorem bad_zero {fs : List (Int × Int)} (h : ∀ f ∈ fs, f.1 = 0) : BadA fs := by
  refine .inl ?_
  have e : topsL fs = fs.map fun _ => (0 : Int) := List.map_congr_left fun f m => by rw [h f m, Int.zero_mul]
  rw [e]
  clear h e
  induction fs with
  | nil => rfl
  | cons f fs ih =>
    rw [List.map_cons, List.sum_cons, Int.zero_add]
    exact ih
theorem sum_nonneg : ∀ {ws : List Int}, (∀ w ∈ ws, 0 ≤ w) → 0 ≤ ws.sum
  | [], _ => Int.le_refl _
  | w :: ws, h => by
    rw [List.sum_cons]
    have h1 := h w List.mem_cons_self
    have h2 := sum_nonneg fun v m => h v (List.mem_cons_of_mem w m)
    omega
theorem not_bad {fs : List (Int × Int)} (h : ¬ BadA fs) : (∀ t ∈ topsL fs, 0 ≤ t) ∧ 0 < (topsL fs).sum := by
  have h1 : ∀ t ∈ topsL fs, 0 ≤ t := fun t m => Int.not_lt.mp fun n => h (.inr ⟨t, m, n⟩)
  have h2 := sum_nonneg h1
  have h3 : (topsL fs).sum ≠ 0 := fun n => h (.inl n)
  exact ⟨h1, by omega⟩
theorem sum_sz {n : Nat} : ∀ {ws : List Int} {k : Nat}, (∀ w ∈ ws, Sz n w) → ws.length ≤ k → Sz (n + k) ws.sum
  | [], k, _, _ => show (0 : Int).natAbs < 2 ^ (n + k) from Nat.two_pow_pos _
  | w :: ws, 0, _, l => by simp at l
  | w :: ws, k + 1, h, l => by
    rw [List.sum_cons]
    have h1 := h w List.mem_cons_self
    have h2 := sum_sz (k := k) (fun v m => h v (List.mem_cons_of_mem w m)) (by simpa using l)
    exact (h1.mono (Nat.le_add_right n k)).add' h2
theorem sumT_sz {n : Nat} {ws : List Int} {k : Nat} (h : ∀ w ∈ ws, Sz n w) (l : ws.length ≤ k) (i : Nat) : Sz (n + k) (sumT ws i) := by
  unfold sumT
  refine sum_sz (fun w m => h w (List.mem_of_mem_take m)) ?_
  rw [List.length_take]
  omega
/-! ### lists that are compared item by item -/
/-- what == says of two values: flat ones by their worth, an object is itself -/
def EqB (x y : V) (b : Bool) : Prop := (flatV x = true ∧ flatV y = true ∧ eqV x y = b) ∨ ∃ a, x = .ref a ∧ y = .ref a ∧ b = true
def rNeL : R2 := fun x y H Q => ∃ (a b : Addr) (xs ys : List V) (e : Nat → Bool), x = .ref a ∧ y = .ref b ∧ H a = some (.lst xs) ∧ H b = some (.lst ys) ∧ xs.length = ys.length ∧ (∀ i x y, xs[i]? = some x → ys[i]? = some y → EqB x y (e i)) ∧ Q (.bl (!(List.range xs.length).all e)) H
theorem eqB_at {A : Around} {s : Shared} {x y : V} {u v : Value} {b : Bool} (h : EqB x y b) (r : RelV x u) (q : RelV y v) : SeqAt.EqAt A s u v b := by
  rcases h with ⟨fx, fy, e⟩ | ⟨a, rfl, rfl, rfl⟩
  · have z := eqAt_V (A := A) (s := s) r q fx fy
    rw [e] at z
    exact z
  · cases r
    cases q
    exact SeqAt.EqAt.same (.ref a)
theorem op_neL {X : Cx} (hu : X.A.units < cLine) : OpR X (compareOp .NotEq) rNeL := by
  intro pins s σ H x y v u Q I rx ry ⟨a, b, xs, ys, e, ex, ey, ha, hb, hl, he, q⟩
  subst ex ey
  cases (show v = Value.ref a from rx)
  cases (show u = Value.ref b from ry)
  obtain ⟨z, its, k, r, e1⟩ := I.hok a _ ha
  obtain ⟨z2, its2, k2, r2, e2⟩ := I.hok b _ hb
  have l1 : its.toArray.size = xs.length := by rw [List.size_toArray, ← r.length]
  have l2 : its2.toArray.size = xs.length := by rw [List.size_toArray, ← r2.length, hl]
  refine SeqAt.RcNeAt.lists (A := X.A) (e := e) ⟨_, e1, rfl, _, rfl⟩ ⟨_, e2, rfl, _, rfl⟩ (by rw [l1, l2]) hu (fun j h1 h2 => ?_) X.prog X.w X.xe _ ⟨.bl _, H, I, rfl, by rw [l1]; exact q⟩
  have k1 : j < xs.length := by rw [← l1]; exact h1
  have k2 : j < ys.length := by rw [← hl]; exact k1
  have g1 : its[j]? = some its.toArray[j] := by
    have h1' : j < its.length := by simpa using h1
    rw [List.getElem?_eq_getElem h1'] <;> simp
  have g2 : its2[j]? = some its2.toArray[j] := by
    have h2' : j < its2.length := by simpa using h2
    rw [List.getElem?_eq_getElem h2'] <;> simp
  obtain ⟨u, hu, ru⟩ := r.get (List.getElem?_eq_getElem k1)
  obtain ⟨v, hv, rv⟩ := r2.get (List.getElem?_eq_getElem k2)
  rw [g1] at hu
  rw [g2] at hv
  rw [Option.some.inj hu, Option.some.inj hv]
  exact eqB_at (he j _ _ (List.getElem?_eq_getElem k1) (List.getElem?_eq_getElem k2)) ru rv
/-- a list and its copy -/
theorem neCopy {H : Hp} {a b : Addr} {xs : List V} {Q : VK} (ha : H a = some (.lst xs)) (hb : H b = some (.lst xs)) (h : ∀ x ∈ xs, (∃ i, x = .int i) ∨ ∃ p, x = .ref p) (k : Q (.bl false) H) : rNeL (.ref a) (.ref b) H Q := by
  refine ⟨a, b, xs, xs, fun _ => true, rfl, rfl, ha, hb, rfl, fun i x y h1 h2 => ?_, ?_⟩
  · rw [h1] at h2
    cases h2
    rcases h x (List.mem_of_getElem? h1) with ⟨i, rfl⟩ | ⟨p, rfl⟩
    · exact .inl ⟨rfl, rfl, by simp [eqV]⟩
    · exact .inr ⟨p, rfl, rfl, rfl⟩
  · have e : (List.range xs.length).all (fun _ => true) = true := by simp
    rw [e]
    exact k
/-! ### amounts as the law draws them -/
def Amt (f : Int × Int) : Prop := Red f.1 f.2 ∧ 0 ≤ f.1 ∧ Sz 70 f.1 ∧ f.2 ≤ 100
def AmtAt (H : Hp) (x : V) (f : Int × Int) : Prop := ∃ t, x = .ref t ∧ H t = some (.tup [.int f.1, .int f.2])
theorem AmtAt.same {H H' : Hp} {x : V} {f : Int × Int} (h : AmtAt H x f) (s : Same H H') : AmtAt H' x f := let ⟨t, e, q⟩ := h; ⟨t, e, s _ _ q⟩
theorem AmtAt.put {H H' : Hp} {x : V} {f : Int × Int} {c : Addr} {xs : List V} (h : AmtAt H x f) (e : H c = some (.lst xs)) (k : Keep c H H') : AmtAt H' x f := let ⟨t, e1, q⟩ := h; ⟨t, e1, tput q e k⟩
theorem NumV.put {ca : Nat → Addr} {H H' : Hp} {x : V} {a b : Int} {c : Addr} {xs : List V} (h : NumV ca H x a b) (e : H c = some (.lst xs)) (k : Keep c H H') : NumV ca H' x a b := h.keep e (fun _ _ _ z => nomatch z) k
def Handed (ca : Nat → Addr) (H : Hp) : List V → List (Int × Int) → Prop := Paired fun x f => NumV ca H x f.1 f.2
theorem Handed.same {ca : Nat → Addr} {H H' : Hp} {xs : List V} {fs : List (Int × Int)} (h : Handed ca H xs fs) (s : Same H H') : Handed ca H' xs fs := Paired.mapP h fun _ _ n => n.same s
theorem Handed.put {ca : Nat → Addr} {H H' : Hp} {xs ys : List V} {fs : List (Int × Int)} {c : Addr} (h : Handed ca H xs fs) (e : H c = some (.lst ys)) (k : Keep c H H') : Handed ca H' xs fs := Paired.mapP h fun _ _ n => n.put e k
theorem Handed.plain {ca : Nat → Addr} {H : Hp} {xs : List V} {fs : List (Int × Int)} (h : Handed ca H xs fs) : ∀ x ∈ xs, (∃ i, x = .int i) ∨ ∃ p, x = .ref p := fun x m => by
  obtain ⟨i, hi⟩ := List.getElem?_of_mem m
  have l := h.length
  have li := (List.getElem?_eq_some_iff.mp hi).1
  have hf : fs[i]? = some (fs[i]'(by omega)) := List.getElem?_eq_getElem (by omega)
  rcases paired_get h hi hf with ⟨e, _⟩ | ⟨p, e, _⟩
  · exact .inl ⟨_, e⟩
  · exact .inr ⟨p, e⟩
theorem paired_app {α β : Type} {F : α → β → Prop} : ∀ {a b : List α} {c d : List β}, Paired F a c → Paired F b d → Paired F (a ++ b) (c ++ d)
  | _, _, _, _, .nil, h => h
  | _, _, _, _, .cons r t, h => .cons r (paired_app t h)
theorem paired_take {α β : Type} {F : α → β → Prop} : ∀ {a : List α} {c : List β} (n : Nat), Paired F a c → Paired F (a.take n) (c.take n)
  | _, _, 0, _ => .nil
  | _, _, _ + 1, .nil => .nil
  | _, _, n + 1, .cons r t => .cons r (paired_take n t)
theorem paired_drop {α β : Type} {F : α → β → Prop} : ∀ {a : List α} {c : List β} (n : Nat), Paired F a c → Paired F (a.drop n) (c.drop n)
  | _, _, 0, h => h
  | _, _, _ + 1, .nil => .nil
  | _, _, n + 1, .cons r t => paired_drop n t
theorem amt_lcm {fs : List (Int × Int)} (h : ∀ f ∈ fs, 0 < f.2 ∧ f.2 ≤ 1000) (l : fs.length ≤ 20) : Sz 2000 (lcmL fs : Int) := by
  have g : ∀ (fs : List (Int × Int)) (b n : Nat), (∀ f ∈ fs, 0 < f.2 ∧ f.2 ≤ 1000) → b ≤ 1024 ^ n → fs.foldl (fun b f => Nat.lcm b f.2.natAbs) b ≤ 1024 ^ (n + fs.length) := by
    intro fs
    induction fs with
    | nil => exact fun b n _ h => h
    | cons f fs ih =>
      intro b n hf hb
      have h1 := hf f List.mem_cons_self
      have h2 : Nat.lcm b f.2.natAbs ≤ b * f.2.natAbs := by
        unfold Nat.lcm
        exact Nat.div_le_self _ _
      have h3 : b * f.2.natAbs ≤ 1024 ^ n * 1024 := Nat.mul_le_mul hb (by omega)
      have h4 := ih (Nat.lcm b f.2.natAbs) (n + 1) (fun g m => hf g (List.mem_cons_of_mem _ m)) (by rw [Nat.pow_succ]; omega)
      rw [List.length_cons, Nat.add_comm fs.length 1, ← Nat.add_assoc]
      exact h4
  have h1 := g fs 1 0 h (by decide)
  have h2 : 1024 ^ (0 + fs.length) ≤ 1024 ^ 20 := Nat.pow_le_pow_right (by decide) (by omega)
  have h3 : (1024 : Nat) ^ 20 < 2 ^ 2000 := by
    have e : (1024 : Nat) = 2 ^ 10 := by decide
    rw [e, ← Nat.pow_mul]
    exact Nat.pow_lt_pow_right (by decide) (by decide)
  unfold Sz
  rw [Int.natAbs_natCast]
  exact Nat.lt_of_le_of_lt h1 (Nat.lt_of_le_of_lt h2 h3)
/-- few amounts with small bottoms -/
structure Ok20 (fs : List (Int × Int)) : Prop where
  len : fs.length ≤ 20
  all : ∀ f ∈ fs, Sz 100 f.1 ∧ 0 < f.2 ∧ f.2 ≤ 1000
theorem Ok20.a {fs : List (Int × Int)} (h : Ok20 fs) : ∀ f ∈ fs, Sz 2000 f.1 ∧ 0 < f.2 := fun f m => ⟨(h.all f m).1.mono, (h.all f m).2.1⟩
theorem Ok20.l {fs : List (Int × Int)} (h : Ok20 fs) : Sz 2000 (lcmL fs : Int) := amt_lcm (fun f m => (h.all f m).2) h.len
theorem Ok20.n {fs : List (Int × Int)} (h : Ok20 fs) : fs.length ≤ 1000 := by have := h.len; omega
theorem lt_sz {n m : Nat} {z : Int} (h : z.natAbs < 2 ^ n) (l : n ≤ m := by decide) : Sz m z := Sz.mono (n := n) h l
theorem Ok20.snoc {fs : List (Int × Int)} {f : Int × Int} (h : Ok20 fs) (l : fs.length < 20) (z : f.1.natAbs < 2 ^ 100) (p : 0 < f.2) (q : f.2 ≤ 1000) : Ok20 (fs ++ [f]) :=
  ⟨by rw [List.length_append]; simp; omega, fun g m => by
    rcases List.mem_append.mp m with m | m
    · exact h.all g m
    · rw [List.mem_singleton.mp m]
      exact ⟨z, p, q⟩⟩
theorem Ok20.cons {fs : List (Int × Int)} {f : Int × Int} (h : Ok20 fs) (l : fs.length < 20) (z : f.1.natAbs < 2 ^ 100) (p : 0 < f.2) (q : f.2 ≤ 1000) : Ok20 ([f] ++ fs) :=
  ⟨by rw [List.length_append]; simp; omega, fun g m => by
    rcases List.mem_append.mp m with m | m
    · rw [List.mem_singleton.mp m]
      exact ⟨z, p, q⟩
    · exact h.all g m⟩
end Lo

set_option Elab.async false
set_option linter.all false
set_option maxRecDepth 100000
set_option maxHeartbeats 4000000
/-! LoB10: own [], []=, in, len; sorted of a dict whose keys are tuples of ints. -/
namespace Lo
open PySem PySem.Spec PyProof.Rows L2
section
variable {X : Cx} {k : Nat} {C : Addr} {ps : List Str} {sp : Sp}
theorem fn_get {K : PySem.W.Frag} {C f g : Addr} {m : Str} (h1 : PySem.W.findIn K (.ref C) m = some (some (.ref g))) (h2 : PySem.W.fnIn K g = true) (h : PySem.W.findIn K (.ref C) m = some (some (.ref f))) : PySem.W.fnIn K f = true := by
  rw [h1] at h
  cases h
  exact h2
theorem passOf {E : XK} (h : ∀ σ, PassesAt (L2N.CX X.prog X.w) X σ E) : Passes (L2N.CX X.prog X.w) X E := fun pins σ => h σ pins
/-- o[i], o an instance with an own __getitem__ -/
def tIxOwn (C : Addr) (sp : Sp) (E : L2.St → XK) (ta tb : TE) : TE := fun σ H Q => ta σ H fun x H1 => tb σ H1 fun y H2 => ∃ a dx fs, x = .ref a ∧ H2 a = some (.ins C dx fs) ∧ sp [x, y] H2 Q (E σ)
theorem pe_ixOwn {E : L2.St → XK} {a b : Expr} {ta tb : TE} {pos : Pos} (O : OwnM X.prog X.w X.K X.mg X.base k C "__getitem__" ps sp) (hf : ∀ f, PySem.W.findIn X.K (.ref C) "__getitem__" = some (some (.ref f)) → PySem.W.fnIn X.K f = true) (hr : Room (k + 1) X.A)
    (hx : ∀ σ, PassesAt (L2N.CX X.prog X.w) X σ (E σ)) (ha : PE X a ta) (hb : PE X b tb) (hsl : ∀ o i, subscripted b true o i = runValue (.builtin "lifetime.subscript" ⟨[o, i], []⟩)) : PE X (.Subscript a b pos) (tIxOwn C sp E ta tb) := by
  obtain ⟨f, fd, F, hm, hbd⟩ := O.ex
  refine ⟨fun pins s σ H Q I h => ?_⟩
  refine Subscript_ (binT (R := fun x y H2 => ∃ a dx fs, x = .ref a ∧ H2 a = some (.ins C dx fs) ∧ sp [x, y] H2 Q (E σ)) ha hb I h fun v u s2 x y H2 I2 rx ry ⟨a, dx, fs, ex, ea, q2⟩ => ?_)
  subst ex
  obtain rfl : v = Value.ref a := rx
  obtain ⟨_, od, J⟩ := inst_at I2 ea
  obtain ⟨m, hF⟩ := I2.fr
  refine PySem.W.sub_K hF I2.ok.mod.kin J hm.at_ (hf f hm.at_) hm.fn ?_ (hsl _ _)
  have bd := hbd s2 [.ref a, u] I2.kIn (F.len _ _ _ _ q2)
  refine wpAny_call (codeAny_mono (F.run X.A.in1 X.stack s2 H2 ⟨[.ref a, u], []⟩ [.ref a, u] [.ref a, y] Q (E σ) hr.in1 I2.env0.in1 bd (.cons rfl (.cons ry .nil)) q2) fun r s' hq => ?_)
  cases r with
  | error e => exact hx σ pins H2 s2 e s' I2 hq
  | ok fl =>
    cases fl with
    | ret u => exact I2.after hq
    | next => exact False.elim hq
    | brk => exact False.elim hq
    | cont => exact False.elim hq
/-- o[i] = v -/
def tSetOwn (C : Addr) (sp : Sp) (E : XK) : TSet := fun o i v H R => ∃ a dx fs, o = .ref a ∧ H a = some (.ins C dx fs) ∧ sp [o, i, v] H (fun _ H' => R H') E
theorem set_own {E : XK} (O : OwnM X.prog X.w X.K X.mg X.base k C "__setitem__" ps sp) (hq : PySem.W.noSeq X.K C = true) (hr : Room k X.A) (hx : ∀ σ, PassesAt (L2N.CX X.prog X.w) X σ E) : PSet X (tSetOwn C sp E) := by
  obtain ⟨f, fd, F, hm, hbd⟩ := O.ex
  intro pins s σ H o i v ov iv u Q I ro ri rv ⟨a, dx, fs, ex, ea, q⟩
  subst ex
  obtain rfl : ov = Value.ref a := ro
  obtain ⟨_, od, J⟩ := inst_at I ea
  obtain ⟨m, hF⟩ := I.fr
  refine PySem.W.ksp_setItem hF I.ok.mod.kin J hq hm.at_ hm.fn ?_
  refine wpAny_mono (run_fn (us := [.ref a, iv, u]) (vs := [.ref a, i, v]) (dvs := []) F hr hbd .nil (passOf hx) I (.cons rfl (.cons ri (.cons rv .nil))) q) (fun r s' h => ?_) fun _ _ z => z
  obtain ⟨w, H', I', _, q'⟩ := h
  exact ⟨H', I', q'⟩
/-- x in o, x not in o -/
def rInOwn (neg : Bool) (C : Addr) (sp : Sp) (E : XK) : R2 := fun x y H Q => ∃ a dx fs, y = .ref a ∧ H a = some (.ins C dx fs) ∧ sp [y, x] H (fun v H' => ∃ b, v = .bl b ∧ Q (.bl (if neg then !b else b)) H') E
theorem op_inOwn {E : XK} (O : OwnM X.prog X.w X.K X.mg X.base k C "__contains__" ps sp) (hr : Room k X.A) (hx : ∀ σ, PassesAt (L2N.CX X.prog X.w) X σ E) : OpR X (compareOp .In) (rInOwn false C sp E) := by
  obtain ⟨f, fd, F, hm, hbd⟩ := O.ex
  intro pins s σ H x y v u Q I rx ry ⟨a, dx, fs, ey, ea, q⟩
  subst ey
  obtain rfl : u = Value.ref a := ry
  obtain ⟨_, od, J⟩ := inst_at I ea
  obtain ⟨m, hF⟩ := I.fr
  refine PySem.W.in_K hF I.ok.mod.kin J hm.at_ hm.fn ?_
  refine wpAny_mono (run_fn (us := [.ref a, v]) (vs := [.ref a, x]) (dvs := []) F hr hbd .nil (passOf hx) I (.cons rfl (.cons rx .nil)) q) (fun r s' h => ?_) fun _ _ z => z
  obtain ⟨w, H', I', rw', b, ew, q'⟩ := h
  subst ew
  obtain rfl : r = Value.bool b := rw'
  exact wpAny_truthy_bool ⟨.bl b, H', I', rfl, q'⟩
theorem op_notInOwn {E : XK} (O : OwnM X.prog X.w X.K X.mg X.base k C "__contains__" ps sp) (hr : Room k X.A) (hx : ∀ σ, PassesAt (L2N.CX X.prog X.w) X σ E) : OpR X (compareOp .NotIn) (rInOwn true C sp E) := by
  obtain ⟨f, fd, F, hm, hbd⟩ := O.ex
  intro pins s σ H x y v u Q I rx ry ⟨a, dx, fs, ey, ea, q⟩
  subst ey
  obtain rfl : u = Value.ref a := ry
  obtain ⟨_, od, J⟩ := inst_at I ea
  obtain ⟨m, hF⟩ := I.fr
  refine PySem.W.notIn_K hF I.ok.mod.kin J hm.at_ hm.fn ?_
  refine wpAny_mono (run_fn (us := [.ref a, v]) (vs := [.ref a, x]) (dvs := []) F hr hbd .nil (passOf hx) I (.cons rfl (.cons rx .nil)) q) (fun r s' h => ?_) fun _ _ z => z
  obtain ⟨w, H', I', rw', b, ew, q'⟩ := h
  subst ew
  obtain rfl : r = Value.bool b := rw'
  exact wpAny_truthy_bool ⟨.bl (!b), H', I', rfl, q'⟩
/-- len(o) -/
def rLenOwn (C : Addr) (sp : Sp) (E : XK) : List V → Hp → VK → Prop := fun xs H Q => ∃ a dx fs, xs = [.ref a] ∧ H a = some (.ins C dx fs) ∧ sp [.ref a] H (fun v H' => ∃ n : Nat, v = .int n ∧ n < 2 ^ 62 ∧ Q (.int n) H') E
theorem call_lenOwn {E : XK} (O : OwnM X.prog X.w X.K X.mg X.base k C "__len__" ps sp) (hr : Room (k + 1) X.A) (hx : ∀ σ, PassesAt (L2N.CX X.prog X.w) X σ E) : CallR X (.builtin "len") (rLenOwn C sp E) := by
  obtain ⟨f, fd, F, hm, hbd⟩ := O.ex
  intro pins s σ H xs us Q I r ⟨a, dx, fs, ex, ea, q⟩
  subst ex
  obtain ⟨u, rfl, r1⟩ := vals1 r
  obtain rfl : u = Value.ref a := r1
  obtain ⟨_, od, J⟩ := inst_at I ea
  obtain ⟨m, hF⟩ := I.fr
  refine PySem.W.len_K hF I.ok.mod.kin J hm.at_ hm.fn ?_
  have bd := hbd s [.ref a] I.kIn (F.len _ _ _ _ q)
  refine wpAny_call (codeAny_mono (F.run X.A.in1 X.stack s H ⟨[.ref a], []⟩ [.ref a] [.ref a] _ E hr.in1 I.env0.in1 bd (.cons rfl .nil) q) fun r s' hq => ?_)
  cases r with
  | error e => exact hx σ pins H s e s' I hq
  | ok fl =>
    cases fl with
    | ret u =>
      obtain ⟨z, H', I', rz, n, ez, hn, q'⟩ := I.after hq
      subst ez
      obtain ⟨t, rfl⟩ := rz
      have : (n : Int) < 2 ^ 63 := by
        have e1 : (2 : Nat) ^ 62 = 4611686018427387904 := by decide
        have e2 : (2 : Int) ^ 63 = 9223372036854775808 := by decide
        omega
      exact ⟨⟨by omega, this⟩, ⟨.int n, H', I'.tok _, ⟨_, rfl⟩, q'⟩⟩
    | next => exact False.elim hq
    | brk => exact False.elim hq
    | cont => exact False.elim hq
/-! ### sorted(d), the keys tuples of ints -/
def rSortDT (d : Nat) (B : Int) : List V → Hp → VK → Prop := fun vs H Q => ∃ (a : Addr) (kvs : List (List Key × V)) (ks : List (List Int)), vs = [.ref a] ∧ H a = some (.dT kvs) ∧ kvs.map (·.1) = ks.map (fun n => n.map Sum.inl) ∧ kvs.length < 64 ∧ (∀ n ∈ ks, n.length = d ∧ TS.Bd B n) ∧
  ∀ (ys : List Addr) (ns : List (List Int)) (p : Addr), Paired (fun y n => H y = some (.tup (n.map V.int))) ys ns → ns.Perm ks → ns.Pairwise (fun n m => TS.code B n ≤ TS.code B m) → H p = none → Q (.ref p) (upd H p (.lst (ys.map V.ref)))
theorem paired_perm {α β : Type} {F : α → β → Prop} : ∀ {a b : List α} {c : List β}, Paired F a c → b.Perm a → ∃ d, Paired F b d ∧ d.Perm c := by
  intro a b c h p
  induction p generalizing c with
  | nil => exact ⟨c, h, .refl _⟩
  | cons x _ ih =>
    cases h with
    | cons r t =>
      obtain ⟨d, h1, h2⟩ := ih t
      exact ⟨_ :: d, .cons r h1, .cons _ h2⟩
  | swap x y l =>
    cases h with
    | cons r t =>
      cases t with
      | cons r2 t2 => exact ⟨_ :: _ :: _, .cons r2 (.cons r t2), .swap _ _ _⟩
  | trans _ _ ih1 ih2 =>
    obtain ⟨d, h1, h2⟩ := ih2 h
    obtain ⟨e, h3, h4⟩ := ih1 h1
    exact ⟨e, h3, h4.trans h2⟩
theorem keys_at {H : Hp} : ∀ {kvs : List (List Key × V)} {ks : List (List Int)} {bs : List Addr}, kvs.map (·.1) = ks.map (fun n => n.map Sum.inl) → IsKeys H kvs bs → Paired (fun y n => H y = some (.tup (n.map V.int))) bs ks
  | [], [], [], _, _ => .nil
  | [], _ :: _, _, e, _ => by simp at e
  | _ :: _, [], _, e, _ => by simp at e
  | kv :: kvs, n :: ks, b :: bs, e, .cons h t => by
    rw [List.map_cons, List.map_cons] at e
    injection e with e1 e2
    refine .cons ?_ (keys_at e2 t)
    rw [h, e1, List.map_map]
    rfl
theorem paired_pw {α β : Type} {F : α → β → Prop} {f : α → Int} {g : β → Int} : ∀ {a : List α} {c : List β}, Paired F a c → (∀ x y, F x y → f x = g y) → a.Pairwise (fun x y => f x ≤ f y) → c.Pairwise (fun x y => g x ≤ g y)
  | _, _, .nil, _, _ => .nil
  | x :: a, y :: c, .cons r t, h, p => by
    obtain ⟨p1, p2⟩ := List.pairwise_cons.mp p
    refine List.pairwise_cons.mpr ⟨fun z m => ?_, paired_pw t h p2⟩
    obtain ⟨w, mw, e⟩ : ∃ w ∈ a, F w z := by
      clear p p1 p2
      induction t with
      | nil => cases m
      | cons r2 t2 ih =>
        rcases List.mem_cons.mp m with rfl | m
        · exact ⟨_, List.mem_cons_self, r2⟩
        · obtain ⟨w, mw, e⟩ := ih m
          exact ⟨w, List.mem_cons_of_mem _ mw, e⟩
    rw [← h _ _ r, ← h _ _ e]
    exact p1 w mw
def adV : Value → Addr
  | .ref a => a
  | _ => 0
theorem adV_refs : ∀ {us : List Value}, (∀ u ∈ us, ∃ a, u = Value.ref a) → us = (us.map adV).map Value.ref
  | [], _ => rfl
  | u :: us, h => by
    obtain ⟨a, rfl⟩ := h u List.mem_cons_self
    rw [List.map_cons, List.map_cons, ← adV_refs fun v m => h v (List.mem_cons_of_mem _ m)]
    rfl
theorem cr_sortedDT {d : Nat} {B : Int} (hc : X.calm = true) (hd : 1 ≤ d) : CallR X (.builtin "sorted") (rSortDT d B) := by
  intro pins s σ H vs us Q I r h
  obtain ⟨a, kvs, ks, rfl, ha, hk, h64, hb, q⟩ := h
  obtain ⟨u, rfl, rx⟩ := r.one
  cases rx
  obtain ⟨z, hs, xs, pr, o, es, ep, ho, hx, hdt, he, hn⟩ := (show ObjOk X.prog X.w H s.heap a (.dT kvs) from I.hok a _ ha)
  have l1 : es.size = xs.length := size_of_entries he
  have l2 : kvs.length = xs.length := Paired.length pr
  have hbs := keys_at hk (isKeys_of pr)
  refine PySem.Calls.call_function_entry PyProof.Rows.kind_sorted PyProof.Rows.plain_sorted PyProof.Rows.entry_sorted (PyProof.Rows.args_sorted1 _) ?_
  unfold Builtin.«sorted»
  refine wpAny_bind (m := checkCount "sorted" 1 1 _) (wpAny_pure ?_)
  refine wpAny_bind (PySem.W.kdu_collect (A := X.A.in1) (kdl_raw hs hx hdt) (I.ok.hd hc) ho (by omega) fun h' tk acc hkp it => ?_)
  have ea : acc.toList = (xs.map fun x => x.2.1).map Value.ref := by
    rw [List.map_map]
    have hl : acc.toList.length = xs.length := by rw [Array.length_toList, it.1]; exact l1
    apply List.ext_getElem?
    intro j
    rw [List.getElem?_map]
    cases hj : acc.toList[j]? with
    | none =>
      have h1 := List.getElem?_eq_none_iff.mp hj
      rw [List.getElem?_eq_none (by omega)]
      all_goals rfl
    | some v =>
      obtain ⟨en, hen, hv⟩ := it.2 j v (by rw [← Array.getElem?_toList]; exact hj)
      have qe := entry_at he j
      rw [hen] at qe
      cases hb : xs[j]? with
      | none =>
        rw [hb] at qe
        exact nomatch (show some en = none from qe)
      | some b =>
        rw [hb] at qe
        have e2 : en = entryOfKey (tupleKind (mixKind X.prog X.w)) b := Option.some.inj qe
        rw [hv, e2]
        all_goals rfl
  generalize hB : (xs.map fun x => x.2.1) = bs at *
  have lb : bs.length = kvs.length := by rw [← hB, List.length_map, l2]
  have I1 : Inv X pins σ H { s with heap := h', toks := tk } := I.kept hkp
  have al : acc.toList.length < 64 := by rw [ea, List.length_map, lb]; exact h64
  refine wpAny_bind (wpAny_newList ?_ (by rw [sizeLine_eq]; omega))
  have hoL : (h'.push (seqObj "list" acc.toList.toArray 0)).get? h'.objs.size = some (seqObj "list" acc.toList.toArray 0) := Heap.get?_push_size _ rfl
  show wpAny _ _ _ _ _ { s with heap := h'.push (seqObj "list" acc.toList.toArray 0), toks := tk }
  have tI : ∀ v ∈ acc.toList, ∃ ns, TS.TupInts h' v ns ∧ ns.length = d ∧ TS.Bd B ns := fun v m => by
    rw [ea] at m
    obtain ⟨b, mb, rfl⟩ := List.mem_map.mp m
    obtain ⟨i, hi⟩ := List.getElem?_of_mem mb
    have li := (List.getElem?_eq_some_iff.mp hi).1
    have hn : ks[i]? = some (ks[i]'(by rw [← hbs.length]; exact li)) := List.getElem?_eq_getElem _
    have ht := paired_get hbs hi hn
    exact ⟨_, tupI_raw I1 (SqT.of ht), hb _ (List.mem_of_getElem? hn)⟩
  have kp : ∀ b o, h'.get? b = some o → o.cls = .type "tuple" → (h'.push (seqObj "list" acc.toList.toArray 0)).get? b = some o := fun b o e _ => Heap.get?_push_of_some _ e
  refine wpAny_bind (wpAny_holding (wpAny_call_entry PyProof.Rows.slot_list_sort ⟨_, hoL, rfl⟩ PyProof.Rows.entry_list_sort
    (TS.sort_tups (s := { s with heap := h'.push (seqObj "list" acc.toList.toArray 0), toks := tk }) (d := d) (B := B) hoL al hd (TS.TupsOk.keeps (h := h') tI kp) (fun v => TS.code B (TS.intsOf h' v)) (fun v hv ns t => ?_) fun out a1 a2 => ⟨_, rfl, ?_⟩) (PyProof.Rows.args_list_sort _)))
  · obtain ⟨ns0, t0, _⟩ := tI v hv
    have e : ns = ns0 := t.ints.symm.trans (t0.keeps kp).ints
    rw [e]
    show TS.code B (TS.intsOf h' v) = TS.code B ns0
    rw [t0.ints]
  · have h3 : ∀ u ∈ out.toList, ∃ a, u = Value.ref a := fun u hu => by
      have := a1.mem_iff.mp hu
      rw [ea] at this
      obtain ⟨b, _, rfl⟩ := List.mem_map.mp this
      exact ⟨b, rfl⟩
    have h4 := adV_refs h3
    have h5 : (out.toList.map adV).Perm bs := by
      have := a1.map adV
      rw [ea, List.map_map] at this
      have e : (adV ∘ Value.ref) = id := rfl
      rw [e, List.map_id] at this
      exact this
    obtain ⟨ns, p1, p2⟩ := paired_perm hbs h5
    obtain ⟨e', he'⟩ := PyProof.Rows.sortedHeap_at (vs := acc.toList) (out := out) hoL
    have hlen : ((out.toList.map adV).map V.ref).length ≤ sizeLine := by
      rw [List.length_map, h5.length_eq, sizeLine_eq]
      omega
    refine wpAny_pure ⟨_, rfl, .ref h'.objs.size, upd H h'.objs.size (.lst ((out.toList.map adV).map V.ref)), I1.laid (t' := tk) (fun b u e => ?_) (Nat.le_refl _)
      (show ObjOk X.prog X.w _ _ _ (.lst ((out.toList.map adV).map V.ref)) from ⟨hlen, out.toList, e', by have v : Vals ((out.toList.map adV).map V.ref) ((out.toList.map adV).map Value.ref) := vals_refs _; rw [← h4] at v; exact v, by rw [Array.toArray_toList]; exact he'⟩), rfl, q _ ns _ p1 p2 ?_ (I1.hok.fresh (Nat.le_refl _))⟩
    · have hb : b < h'.objs.size := Heap.lt_size e
      rw [PyProof.Rows.sortedHeap_old (Nat.ne_of_lt hb) (by rw [size_push']; exact Nat.lt_succ_of_lt hb)]
      exact Heap.get?_push_of_some _ e
    · rw [h4, List.pairwise_map] at a2
      refine paired_pw (f := fun y => TS.code B (TS.intsOf h' (.ref y))) (g := fun n => TS.code B n) p1 (fun y n e => ?_) a2
      show TS.code B (TS.intsOf h' (.ref y)) = TS.code B n
      rw [(tupI_raw I1 (SqT.of e)).ints]
/-! ### d.pop(k), del d[k], the keys tuples -/
theorem someT {H : Hp} {kvs : List (List Key × V)} {xs : List (List Key × Addr × Value)} {k : List Key} {v : V} (rel : KT H kvs xs) (h : valV kvs k = some v) : ∃ p, atKey xs k = some p ∧ RelV v p.2 := by
  have r := rel.val k
  rw [h] at r
  cases e : atKey xs k with
  | none => rw [e] at r; exact (show False from r).elim
  | some p => rw [e] at r; exact ⟨p, rfl, r⟩
theorem d_dropT {pins : List (Addr × Obj)} {σ : L2.St} {H : Hp} {s : Shared} {a : Addr} {kvs : List (List Key × V)} {k : List Key} {xs : List (List Key × Addr × Value)} {h' : Heap} {tk : Nat} (I : Inv X pins σ H s) (ha : H a = some (.dT kvs)) (z : kvs.length ≤ sizeLine) (hd : (a == sysModules) = false) (rel : KT H kvs xs)
    (dd' : h'.DictOfH (tupleKind (mixKind X.prog X.w)) a (DT.dropH xs k)) (hs : Heap.SameBut a s.heap h') : Inv X pins σ (upd H a (.dT (dropK kvs k))) { s with heap := h', toks := tk } := by
  obtain ⟨o, es, ep, hq, h2, h3, h4, _, h5⟩ := dd'
  exact d_write I (by rw [ha]; exact True.intro) hs ⟨o, hq⟩ ⟨Nat.le_trans (dropK_le kvs k) z, hd, _, (L2.DX.KT_drop k rel).keeps (fun c ys ec => (by rw [upd_ne (ne_of ec ha (fun z => nomatch z))]; exact ec)), o, es, ep, hq, h2, h3, h4, h5⟩
def rPopT1 : V → List V → Hp → VK → Prop := fun x xs H Q => ∃ (a : Addr) (kvs : List (List Key × V)) (k : List Key) (b : Addr) (v : V), x = .ref a ∧ xs = [.ref b] ∧ H a = some (.dT kvs) ∧ H b = some (.tup (k.map kV)) ∧ valV kvs k = some v ∧ Q v (upd H a (.dT (dropK kvs k)))
theorem mt_popT1 (hu : X.A.units + 1 < cLine) : MtR X "dict.pop" rPopT1 := by
  intro pins s σ H x xs v us Q I rx rxs h
  obtain ⟨a, kvs, k, b, v0, rfl, rfl, ha, hb, hv, q⟩ := h
  cases rx
  obtain ⟨u1, rfl, r1⟩ := vals1 rxs
  cases r1
  obtain ⟨z, hd, xs', rel, dd⟩ := dt_of I.hok ha
  have hz : xs'.length ≤ sizeLine := by rw [← Paired.length rel]; exact z
  obtain ⟨p, hp, rp⟩ := someT rel hv
  exact call_pop_heap (knd := tupleKind (mixKind X.prog X.w)) (.inl rfl) (PySem.F.args_dict_pop_2 _ _) (tupleKind_room_in1 hu) (key_of I.hok hb) hd dd hp (fun h' dd' hs => ⟨v0, _, d_dropT I ha z hd rel dd' hs, rp, q⟩) hz
def sDDelT (td ty : TE) : TS := fun D σ H => td σ H fun x H1 => ty σ H1 fun y H2 => ∃ a kvs k b v, x = .ref a ∧ H2 a = some (.dT kvs) ∧ y = .ref b ∧ H2 b = some (.tup (k.map kV)) ∧ valV kvs k = some v ∧ D.nx σ (upd H2 a (.dT (dropK kvs k)))
theorem ps_ddelT {o i : Expr} {tpos pos : Pos} {td ty : TE} (hu : X.A.units + 1 < cLine) (ho : PE X o td) (hi : PE X i ty) : PS X (.Delete [.Subscript o i tpos] pos) (sDDelT td ty) := by
  refine ⟨fun pins s σ H D I h => ?_⟩
  refine wpAny_Delete (wpAny_deleteEach_cons (wpAny_delete_Subscript (thn (ho.run pins s σ H _ I h) fun u s1 ⟨x, H1, I1, rx, q1⟩ => thn (hi.run pins s1 σ H1 _ I1 q1) fun iv s2 ⟨y, H2, I2, ry, a, kvs, k, b, v, ex, ha, ey, hb, hv, q2⟩ => ?_)))
  subst ex ey
  obtain rfl : u = Value.ref a := rx
  obtain rfl : iv = Value.ref b := ry
  obtain ⟨z, hd, xs', rel, dd⟩ := dt_of I2.hok ha
  have hz : xs'.length ≤ sizeLine := by rw [← Paired.length rel]; exact z
  obtain ⟨p, hp, rp⟩ := someT rel hv
  exact wpAny_delItem_heap (knd := tupleKind (mixKind X.prog X.w)) (tupleKind_room_in1 hu) (key_of I2.hok hb) hd dd hp (fun h' dd' hs => wpAny_deleteEach_nil ⟨σ, _, d_dropT I2 ha z hd rel dd' hs, q2⟩) hz
end
/-! ### books: what stands at which place -/
def keyP (p : Int × Int) : List Key := [.inl p.1, .inl p.2]
theorem keyP_inj {p q : Int × Int} (h : keyP p = keyP q) : p = q := by
  unfold keyP at h
  injection h with h1 h2
  injection h2 with h2 _
  exact Prod.ext (Sum.inl.inj h1) (Sum.inl.inj h2)
theorem keyP_kV {p : Int × Int} : (keyP p).map kV = [.int p.1, .int p.2] := rfl
abbrev Ent := List V
abbrev Bk := List ((Int × Int) × Ent)
def ltP (p q : Int × Int) : Prop := p.1 < q.1 ∨ (p.1 = q.1 ∧ p.2 < q.2)
instance (p q : Int × Int) : Decidable (ltP p q) := inferInstanceAs (Decidable (_ ∨ _))
theorem ltP.ne {p q : Int × Int} (h : ltP p q) : p ≠ q := fun e => by
  subst e
  rcases h with h | ⟨_, h⟩ <;> omega
theorem ltP.trans {p q r : Int × Int} (h : ltP p q) (k : ltP q r) : ltP p r := by
  unfold ltP at *
  omega
theorem ltP_tri {p q : Int × Int} (h : p ≠ q) (k : ¬ ltP p q) : ltP q p := by
  unfold ltP at *
  have : ¬ (p.1 = q.1 ∧ p.2 = q.2) := fun e => h (Prod.ext e.1 e.2)
  omega
/-- an entry put at its place -/
def insE (p : Int × Int) (x : Ent) : Bk → Bk
  | [] => [(p, x)]
  | e :: r => if p = e.1 then (p, x) :: r else if ltP p e.1 then (p, x) :: e :: r else e :: insE p x r
def delE (p : Int × Int) (es : Bk) : Bk := es.filter fun e => decide (e.1 ≠ p)
def getE (p : Int × Int) (es : Bk) : Option Ent := (es.find? fun e => decide (e.1 = p)).map (·.2)
def Asc (es : Bk) : Prop := es.Pairwise fun a b => ltP a.1 b.1
theorem mem_insE {p : Int × Int} {x : Ent} : ∀ {es : Bk}, Asc es → ∀ e, e ∈ insE p x es ↔ e = (p, x) ∨ (e ∈ es ∧ e.1 ≠ p)
  | [], _, e => by simp [insE]
  | a :: r, h, e => by
    obtain ⟨h1, h2⟩ := List.pairwise_cons.mp h
    unfold insE
    split
    · rename_i q
      constructor
      · intro m
        rcases List.mem_cons.mp m with m | m
        · exact .inl m
        · exact .inr ⟨List.mem_cons_of_mem _ m, fun z => (h1 e m).ne (by rw [← q, z])⟩
      · rintro (m | ⟨m, n⟩)
        · rw [m]
          exact List.mem_cons_self
        · rcases List.mem_cons.mp m with m | m
          · exact absurd (by rw [m, ← q]) n
          · exact List.mem_cons_of_mem _ m
    · rename_i q
      split
      · rename_i l
        constructor
        · intro m
          rcases List.mem_cons.mp m with m | m
          · exact .inl m
          · refine .inr ⟨m, fun z => ?_⟩
            rcases List.mem_cons.mp m with m | m
            · exact q (by rw [← z, m])
            · exact (l.trans (h1 e m)).ne z.symm
        · rintro (m | ⟨m, n⟩)
          · rw [m]
            exact List.mem_cons_self
          · exact List.mem_cons_of_mem _ m
      · rw [List.mem_cons, mem_insE h2 e, List.mem_cons]
        constructor
        · rintro (m | m | ⟨m, n⟩)
          · exact .inr ⟨.inl m, fun z => q (by rw [← z, m])⟩
          · exact .inl m
          · exact .inr ⟨.inr m, n⟩
        · rintro (m | ⟨m | m, n⟩)
          · exact .inr (.inl m)
          · exact .inl m
          · exact .inr (.inr ⟨m, n⟩)
theorem asc_insE {p : Int × Int} {x : Ent} : ∀ {es : Bk}, Asc es → Asc (insE p x es)
  | [], _ => List.pairwise_singleton _ _
  | a :: r, h => by
    obtain ⟨h1, h2⟩ := List.pairwise_cons.mp h
    unfold insE
    split
    · rename_i q
      refine List.pairwise_cons.mpr ⟨fun e m => ?_, h2⟩
      have := h1 e m
      rw [← q] at this
      exact this
    · rename_i q
      split
      · rename_i l
        refine List.pairwise_cons.mpr ⟨fun e m => ?_, h⟩
        rcases List.mem_cons.mp m with rfl | m
        · exact l
        · exact l.trans (h1 e m)
      · rename_i l
        refine List.pairwise_cons.mpr ⟨fun e m => ?_, asc_insE h2⟩
        rcases (mem_insE h2 e).mp m with rfl | ⟨m, _⟩
        · exact ltP_tri q l
        · exact h1 e m
theorem asc_delE {p : Int × Int} {es : Bk} (h : Asc es) : Asc (delE p es) := h.filter _
theorem mem_delE {p : Int × Int} {es : Bk} {e : (Int × Int) × Ent} : e ∈ delE p es ↔ e ∈ es ∧ e.1 ≠ p := by
  unfold delE
  rw [List.mem_filter, decide_eq_true_iff]
theorem asc_uniq {es : Bk} (h : Asc es) {e f : (Int × Int) × Ent} (a : e ∈ es) (b : f ∈ es) (q : e.1 = f.1) : e = f := by
  induction es with
  | nil => cases a
  | cons x r ih =>
    obtain ⟨h1, h2⟩ := List.pairwise_cons.mp h
    rcases List.mem_cons.mp a with ea | a
    · rcases List.mem_cons.mp b with eb | b
      · rw [ea, eb]
      · rw [ea] at q
        exact absurd q (h1 f b).ne
    · rcases List.mem_cons.mp b with eb | b
      · rw [eb] at q
        exact absurd q.symm (h1 e a).ne
      · exact ih h2 a b
theorem find_eq {es : Bk} {p : Int × Int} {y : (Int × Int) × Ent} (h : es.find? (fun e => decide (e.1 = p)) = some y) : y.1 = p := by
  have := List.find?_some h
  simpa using this
theorem getE_mem {es : Bk} (h : Asc es) {p : Int × Int} {x : Ent} : getE p es = some x ↔ (p, x) ∈ es := by
  unfold getE
  constructor
  · intro e
    obtain ⟨y, hy, rfl⟩ := Option.map_eq_some_iff.mp e
    have h1 := List.mem_of_find?_eq_some hy
    have h2 := find_eq hy
    rw [← h2]
    exact h1
  · intro m
    cases e : es.find? fun e => decide (e.1 = p) with
    | none =>
      have := List.find?_eq_none.mp e _ m
      exact absurd (decide_eq_true rfl) this
    | some y =>
      have h1 := List.mem_of_find?_eq_some e
      have h2 := find_eq e
      rw [asc_uniq h h1 m h2]
      rfl
theorem getE_none {es : Bk} {p : Int × Int} : getE p es = none ↔ ∀ e ∈ es, e.1 ≠ p := by
  unfold getE
  rw [Option.map_eq_none_iff, List.find?_eq_none]
  exact ⟨fun h e m q => h e m (decide_eq_true q), fun h e m q => h e m (of_decide_eq_true q)⟩
end Lo

set_option Elab.async false
set_option linter.all false
set_option maxRecDepth 100000
set_option maxHeartbeats 4000000
/-! LoB11: data compared; books at their addresses. -/
namespace Lo
open PySem PySem.Spec PyProof.Rows L2
/-! ### data -/
structure Da (K : PySem.W.Frag) (H : Hp) (v : V) (d : PyData) (n : Nat) : Prop where
  dp : Dp K H v d
  lay : d.canLay0 = true
  dep : d.depth ≤ n
structure DaAll (K : PySem.W.Frag) (H : Hp) (vs : List V) (ds : List PyData) (n : Nat) : Prop where
  dp : DpAll K H vs ds
  lay : PyData.canLayAll0 ds = true
  dep : PyData.depthAll ds ≤ n
section
variable {K : PySem.W.Frag} {H H' : Hp} {v w : V} {d e : PyData} {vs : List V} {ds : List PyData} {n m : Nat} {a b : Addr} {Q : VK}
theorem Da.int {i : Int} : Da K H (.int i) (.int i) n := ⟨.int i, rfl, Nat.zero_le _⟩
theorem Da.bl {b : Bool} : Da K H (.bl b) (.bool b) n := ⟨.bl b, rfl, Nat.zero_le _⟩
theorem Da.non : Da K H .non .none n := ⟨.non, rfl, Nat.zero_le _⟩
theorem Da.str {z : Str} (h : PyData.strOk z = true) : Da K H (.str z) (.str z) n := ⟨.str z, h, Nat.zero_le _⟩
theorem DaAll.nil : DaAll K H [] [] n := ⟨.nil, rfl, Nat.zero_le _⟩
theorem DaAll.cons (h : Da K H v d n) (t : DaAll K H vs ds n) : DaAll K H (v :: vs) (d :: ds) n :=
  ⟨.cons h.dp t.dp, by show (d.canLay0 && PyData.canLayAll0 ds) = true; rw [h.lay, t.lay]; rfl, by show max d.depth (PyData.depthAll ds) ≤ n; exact Nat.max_le.mpr ⟨h.dep, t.dep⟩⟩
theorem Da.lst (h : DaAll K H vs ds n) (e : SqL K H a vs) : Da K H (.ref a) (.list ds) (n + 1) := ⟨.lst e h.dp, h.lay, Nat.succ_le_succ h.dep⟩
theorem Da.tup (h : DaAll K H vs ds n) (e : SqT K H a vs) : Da K H (.ref a) (.tuple ds) (n + 1) := ⟨.tup e h.dp, h.lay, Nat.succ_le_succ h.dep⟩
theorem Da.shaped (h : Da K H v d n) (l : n ≤ 60 := by decide) : SeqAt.shaped d = true := by
  unfold SeqAt.shaped
  rw [h.lay, Bool.true_and]
  have := h.dep
  exact decide_eq_true (by omega)
theorem Da.mono (h : Da K H v d n) (l : n ≤ m := by decide) : Da K H v d m := ⟨h.dp, h.lay, Nat.le_trans h.dep l⟩
theorem Da.ne (h : Da K H v d n) (k : Da K H w d m) (q : Q (.bl false) H) (l : n ≤ 60 := by decide) (l2 : m ≤ 60 := by decide) : rNeD K v w H Q := by
  refine ⟨_, _, h.dp, k.dp, h.shaped l, k.shaped l2, ?_⟩
  rw [SeqAt.eqv_refl _ h.lay]
  exact q
theorem Da.eq (h : Da K H v d n) (k : Da K H w d m) (q : Q (.bl true) H) (l : n ≤ 60 := by decide) (l2 : m ≤ 60 := by decide) : rEqD K v w H Q := by
  refine ⟨_, _, h.dp, k.dp, h.shaped l, k.shaped l2, ?_⟩
  rw [SeqAt.eqv_refl _ h.lay]
  exact q
theorem DaAll.paired {α : Type} {R : V → α → Prop} {f : α → PyData} (h : ∀ v x, R v x → Da K H v (f x) n) : ∀ {vs : List V} {xs : List α}, Paired R vs xs → DaAll K H vs (xs.map f) n
  | _, _, .nil => .nil
  | _, _, .cons r t => .cons (h _ _ r) (DaAll.paired h t)
theorem DaAll.strs {zs : List Str} (h : ∀ z ∈ zs, PyData.strOk z = true) : DaAll K H (zs.map V.str) (zs.map PyData.str) n := by
  induction zs with
  | nil => exact .nil
  | cons z zs ih => exact .cons (.str (h z List.mem_cons_self)) (ih fun y m => h y (List.mem_cons_of_mem _ m))
end
theorem lets_ok {z : Str} (h : Lets z) : PyData.strOk z = true := by
  show z.cps.all (· < 0x110000) = true
  rw [← Array.all_toList, List.all_eq_true]
  intro c m
  have := h c m
  exact decide_eq_true (by omega)
/-! ### entries -/
def entB (k n y : V) : Bool := if k = .str "late" then nmV n && nmV y else (decide (k = .str "buy" ∨ k = .str "sell" ∨ k = .str "back")) && (nmV n && wholeB y 1)
/-- a value, and whether it is an entry -/
def EntV (H : Hp) (v : V) (b : Bool) : Prop :=
  (flatV v = true ∧ b = false) ∨ (∃ a xs, v = .ref a ∧ H a = some (.lst xs) ∧ b = false) ∨ (∃ a xs, v = .ref a ∧ H a = some (.tup xs) ∧ xs.length ≠ 3 ∧ b = false) ∨
  ∃ a k n y, v = .ref a ∧ H a = some (.tup [k, n, y]) ∧ flatV k = true ∧ shortV n ∧ shortV y ∧ b = entB k n y
theorem EntV.same {H H' : Hp} {v : V} {b : Bool} (s : Same H H') (h : EntV H v b) : EntV H' v b := by
  rcases h with h | ⟨a, xs, e, h, q⟩ | ⟨a, xs, e, h, q⟩ | ⟨a, k, n, y, e, h, q⟩
  · exact .inl h
  · exact .inr (.inl ⟨a, xs, e, s _ _ h, q⟩)
  · exact .inr (.inr (.inl ⟨a, xs, e, s _ _ h, q⟩))
  · exact .inr (.inr (.inr ⟨a, k, n, y, e, s _ _ h, q⟩))
/-- a good entry: a word, a name, units or a lot -/
structure EntOk (x : Ent) : Prop where
  ex : ∃ (k n : Str) (y : V), x = [.str k, .str n, y] ∧ NameOk n ∧ ((k = "late" ∧ ∃ l, y = .str l ∧ NameOk l) ∨ ((k = "buy" ∨ k = "sell" ∨ k = "back") ∧ ∃ u : Int, y = .int u ∧ 1 ≤ u ∧ u ≤ 1000000))
theorem NameOk.sh {z : Str} (h : NameOk z) : z.length ≤ 1000 := by have := h.le; omega
theorem EntOk.v {H : Hp} {a : Addr} {x : Ent} (h : EntOk x) (e : H a = some (.tup x)) : EntV H (.ref a) true := by
  obtain ⟨k, n, y, rfl, hn, hk⟩ := h.ex
  refine .inr (.inr (.inr ⟨a, .str k, .str n, y, rfl, e, rfl, ⟨rfl, fun z q => by cases q; exact hn.sh⟩, ?_, ?_⟩))
  · rcases hk with ⟨_, l, rfl, hl⟩ | ⟨_, u, rfl, _⟩
    · exact ⟨rfl, fun z q => by cases q; exact hl.sh⟩
    · exact ⟨rfl, fun z q => by cases q⟩
  · unfold entB
    rcases hk with ⟨rfl, l, rfl, hl⟩ | ⟨hk, u, rfl, u1, u2⟩
    · rw [if_pos rfl]
      show true = (nmB n && nmB l)
      rw [hn.nm, hl.nm]
      rfl
    · have hw : wholeB (.int u) 1 = true := by
        show (decide (1 ≤ u) && decide (u ≤ 1000000)) = true
        rw [decide_eq_true u1, decide_eq_true u2]
        rfl
      have hn2 : nmV (.str n) = true := hn.nm
      rw [if_neg (by rcases hk with rfl | rfl | rfl <;> decide +kernel), hw, hn2]
      rcases hk with rfl | rfl | rfl <;> simp
theorem word_ok : PyData.strOk "buy" = true ∧ PyData.strOk "sell" = true ∧ PyData.strOk "back" = true ∧ PyData.strOk "late" = true := by decide +kernel
/-- an entry as data -/
def dEnt (x : Ent) : PyData := .tuple (x.map dat)
theorem EntOk.da {K : PySem.W.Frag} {H : Hp} {a : Addr} {x : Ent} (h : EntOk x) (e : H a = some (.tup x)) : Da K H (.ref a) (dEnt x) 1 := by
  obtain ⟨k, n, y, rfl, hn, hk⟩ := h.ex
  obtain ⟨w1, w2, w3, w4⟩ := word_ok
  have hk1 : PyData.strOk k = true := by
    rcases hk with ⟨rfl, _⟩ | ⟨rfl | rfl | rfl, _⟩
    · exact w4
    · exact w1
    · exact w2
    · exact w3
  have hy : Da K H y (dat y) 0 := by
    rcases hk with ⟨_, l, rfl, hl⟩ | ⟨_, u, rfl, _⟩
    · exact .str (lets_ok hl.ls)
    · exact .int
  exact .tup (.cons (.str hk1) (.cons (.str (lets_ok hn.ls)) (.cons hy .nil))) (SqT.of e)
/-! ### dicts of entries, books -/
def EntR (H : Hp) (v : V) (x : Ent) : Prop := ∃ t, v = .ref t ∧ H t = some (.tup x)
structure BkOk (H : Hp) (kvs : List (List Key × V)) (es : Bk) : Prop where
  nd : (kvs.map (·.1)).Nodup
  so : Asc es
  fw : ∀ k v, valV kvs k = some v → ∃ e ∈ es, k = keyP e.1 ∧ EntR H v e.2
  bw : ∀ e ∈ es, ∃ v, valV kvs (keyP e.1) = some v
def DicAt (H : Hp) (d : Addr) (es : Bk) : Prop := ∃ kvs, H d = some (.dT kvs) ∧ BkOk H kvs es
def BookAt (ca : Nat → Addr) (H : Hp) (p D : Addr) (es : Bk) : Prop := (∃ dx, H p = some (.ins (ca 22) dx [("_entries", .ref D)])) ∧ DicAt H D es
/-- places and entries are good -/
def BkW (es : Bk) : Prop := ∀ e ∈ es, (0 ≤ e.1.1 ∧ e.1.1 ≤ 1000000 ∧ 0 ≤ e.1.2 ∧ e.1.2 ≤ 1000000) ∧ EntOk e.2
theorem EntR.same {H H' : Hp} {v : V} {x : Ent} (s : Same H H') (h : EntR H v x) : EntR H' v x := let ⟨t, e, q⟩ := h; ⟨t, e, s _ _ q⟩
theorem EntR.keep {H H' : Hp} {v : V} {x : Ent} {c : Addr} {u : HO} (h : EntR H v x) (e : H c = some u) (n : ∀ xs, u ≠ .tup xs) (k : Keep c H H') : EntR H' v x := let ⟨t, e1, q⟩ := h; ⟨t, e1, k _ _ q (ne_of q e fun z => n _ z.symm)⟩
theorem BkOk.same {H H' : Hp} {kvs : List (List Key × V)} {es : Bk} (h : BkOk H kvs es) (s : Same H H') : BkOk H' kvs es := ⟨h.nd, h.so, fun k v e => let ⟨x, m, q, r⟩ := h.fw k v e; ⟨x, m, q, r.same s⟩, h.bw⟩
theorem BkOk.keep {H H' : Hp} {kvs : List (List Key × V)} {es : Bk} {c : Addr} {u : HO} (h : BkOk H kvs es) (e : H c = some u) (n : ∀ xs, u ≠ .tup xs) (k : Keep c H H') : BkOk H' kvs es := ⟨h.nd, h.so, fun j v q => let ⟨x, m, q, r⟩ := h.fw j v q; ⟨x, m, q, r.keep e n k⟩, h.bw⟩
theorem DicAt.same {H H' : Hp} {d : Addr} {es : Bk} (h : DicAt H d es) (s : Same H H') : DicAt H' d es := let ⟨kvs, e, q⟩ := h; ⟨kvs, s _ _ e, q.same s⟩
theorem DicAt.keep {H H' : Hp} {d : Addr} {es : Bk} {c : Addr} {u : HO} (h : DicAt H d es) (nd : d ≠ c) (e : H c = some u) (n : ∀ xs, u ≠ .tup xs) (k : Keep c H H') : DicAt H' d es := let ⟨kvs, q, r⟩ := h; ⟨kvs, k _ _ q nd, r.keep e n k⟩
theorem DicAt.putL {H H' : Hp} {d : Addr} {es : Bk} {c : Addr} {xs : List V} (h : DicAt H d es) (e : H c = some (.lst xs)) (k : Keep c H H') : DicAt H' d es := h.keep (by obtain ⟨kvs, q, _⟩ := h; exact ne_of q e fun z => nomatch z) e (fun _ z => nomatch z) k
theorem BookAt.same {ca : Nat → Addr} {H H' : Hp} {p D : Addr} {es : Bk} (h : BookAt ca H p D es) (s : Same H H') : BookAt ca H' p D es := ⟨let ⟨dx, e⟩ := h.1; ⟨dx, s _ _ e⟩, h.2.same s⟩
theorem BookAt.putL {ca : Nat → Addr} {H H' : Hp} {p D : Addr} {es : Bk} {c : Addr} {xs : List V} (h : BookAt ca H p D es) (e : H c = some (.lst xs)) (k : Keep c H H') : BookAt ca H' p D es :=
  ⟨let ⟨dx, q⟩ := h.1; ⟨dx, k _ _ q (ne_of q e fun z => nomatch z)⟩, h.2.putL e k⟩
theorem BookAt.putD {ca : Nat → Addr} {H H' : Hp} {p D : Addr} {es : Bk} {c : Addr} {kvs : List (List Key × V)} (h : BookAt ca H p D es) (n : D ≠ c) (e : H c = some (.dT kvs)) (k : Keep c H H') : BookAt ca H' p D es :=
  ⟨let ⟨dx, q⟩ := h.1; ⟨dx, k _ _ q (ne_of q e fun z => nomatch z)⟩, h.2.keep n e (fun _ z => nomatch z) k⟩
theorem DicAt.dT {H : Hp} {d : Addr} {es : Bk} (h : DicAt H d es) : ∃ kvs, H d = some (.dT kvs) := let ⟨kvs, e, _⟩ := h; ⟨kvs, e⟩
theorem DicAt.asc {H : Hp} {d : Addr} {es : Bk} (h : DicAt H d es) : Asc es := let ⟨_, _, q⟩ := h; q.so
theorem BkOk.get {H : Hp} {kvs : List (List Key × V)} {es : Bk} (h : BkOk H kvs es) (p : Int × Int) : (valV kvs (keyP p) = none ∧ getE p es = none) ∨ ∃ v x, valV kvs (keyP p) = some v ∧ getE p es = some x ∧ EntR H v x := by
  cases e : valV kvs (keyP p) with
  | none =>
    refine .inl ⟨rfl, getE_none.mpr fun f m q => ?_⟩
    obtain ⟨v, hv⟩ := h.bw f m
    rw [q, e] at hv
    cases hv
  | some v =>
    obtain ⟨f, m, q, r⟩ := h.fw _ _ e
    have q := keyP_inj q
    refine .inr ⟨v, f.2, rfl, (getE_mem h.so).mpr ?_, r⟩
    rw [q]
    exact m
theorem BkOk.len {H : Hp} {kvs : List (List Key × V)} {es : Bk} (h : BkOk H kvs es) : kvs.length = es.length := by
  have n2 : (es.map fun e => keyP e.1).Nodup := by
    rw [List.nodup_iff_pairwise_ne, List.pairwise_map]
    exact h.so.imp fun l q => l.ne (keyP_inj q)
  have p := nodup_perm h.nd n2 fun k => by
    constructor
    · intro m
      cases e : valV kvs k with
      | none => exact absurd m (by
          intro m
          obtain ⟨kv, m1, rfl⟩ := List.mem_map.mp m
          have : (kvs.any fun x => decide (x.1 = kv.1)) = true := List.any_eq_true.mpr ⟨kv, m1, decide_eq_true rfl⟩
          rw [valV_any, e] at this
          cases this)
      | some v =>
        obtain ⟨f, mf, q, _⟩ := h.fw k v e
        exact List.mem_map.mpr ⟨f, mf, q.symm⟩
    · intro m
      obtain ⟨f, mf, rfl⟩ := List.mem_map.mp m
      obtain ⟨v, hv⟩ := h.bw f mf
      have : (kvs.any fun x => decide (x.1 = keyP f.1)) = true := by rw [valV_any, hv]; rfl
      obtain ⟨kv, m1, q⟩ := List.any_eq_true.mp this
      exact List.mem_map.mpr ⟨kv, m1, of_decide_eq_true q⟩
  have := p.length_eq
  rw [List.length_map, List.length_map] at this
  exact this
theorem putT_keys {kvs : List (List Key × V)} {k : List Key} {v : V} (h : (kvs.map (·.1)).Nodup) : ((putK kvs k v).map (·.1)).Nodup := by
  cases e : valV kvs k with
  | none =>
    rw [putK_new v e, List.map_append, List.nodup_append]
    refine ⟨h, by simp, fun a ha b hb => ?_⟩
    have eb : b = k := by simpa using hb
    rintro rfl
    rw [eb] at ha
    obtain ⟨kv, m1, q⟩ := List.mem_map.mp ha
    have : (kvs.any fun x => decide (x.1 = k)) = true := List.any_eq_true.mpr ⟨kv, m1, decide_eq_true q⟩
    rw [valV_any, e] at this
    cases this
  | some u =>
    have a : (kvs.any fun kv => decide (kv.1 = k)) = true := by rw [valV_any, e]; rfl
    unfold putK
    rw [if_pos a]
    have hk : (kvs.map fun kv => if kv.1 = k then (kv.1, v) else kv).map (·.1) = kvs.map (·.1) := by
      rw [List.map_map]
      refine List.map_congr_left fun kv _ => ?_
      show (if kv.1 = k then (kv.1, v) else kv).1 = kv.1
      split <;> rfl
    rw [hk]
    exact h
theorem BkOk.put {H : Hp} {kvs : List (List Key × V)} {es : Bk} {p : Int × Int} {x : Ent} {v : V} (h : BkOk H kvs es) (r : EntR H v x) : BkOk H (putK kvs (keyP p) v) (insE p x es) := by
  refine ⟨putT_keys h.nd, asc_insE h.so, fun k u e => ?_, fun e m => ?_⟩
  · rw [valV_put] at e
    split at e
    · rename_i q
      cases e
      exact ⟨(p, x), (mem_insE h.so _).mpr (.inl rfl), q, r⟩
    · rename_i q
      obtain ⟨f, mf, q2, r2⟩ := h.fw k u e
      exact ⟨f, (mem_insE h.so _).mpr (.inr ⟨mf, fun z => q (by rw [q2, z])⟩), q2, r2⟩
  · rw [valV_put]
    rcases (mem_insE h.so e).mp m with rfl | ⟨m, n⟩
    · exact ⟨v, if_pos rfl⟩
    · rw [if_neg fun z => n (keyP_inj z)]
      exact h.bw e m
theorem BkOk.del {H : Hp} {kvs : List (List Key × V)} {es : Bk} {p : Int × Int} (h : BkOk H kvs es) : BkOk H (dropK kvs (keyP p)) (delE p es) := by
  refine ⟨List.Nodup.sublist (List.Sublist.map _ List.filter_sublist) h.nd, asc_delE h.so, fun k u e => ?_, fun e m => ?_⟩
  · rw [valV_drop] at e
    split at e
    · cases e
    · rename_i q
      obtain ⟨f, mf, q2, r2⟩ := h.fw k u e
      exact ⟨f, mem_delE.mpr ⟨mf, fun z => q (by rw [q2, z])⟩, q2, r2⟩
  · obtain ⟨m, n⟩ := mem_delE.mp m
    rw [valV_drop, if_neg fun z => n (keyP_inj z)]
    exact h.bw e m
theorem BkOk.nil {H : Hp} : BkOk H [] [] := ⟨List.nodup_nil, List.Pairwise.nil, fun k v e => (by rw [valV_nil] at e; cases e), fun e m => (by cases m)⟩
theorem len_insE {p : Int × Int} {x : Ent} : ∀ {es : Bk}, (insE p x es).length ≤ es.length + 1
  | [] => Nat.le_refl _
  | a :: r => by
    unfold insE
    split
    · simp
    · split
      · simp
      · have := len_insE (p := p) (x := x) (es := r)
        simp only [List.length_cons]
        omega
theorem len_delE {p : Int × Int} {es : Bk} : (delE p es).length ≤ es.length := List.length_filter_le _ _
theorem bkW_ins {p : Int × Int} {x : Ent} {es : Bk} (a : Asc es) (h : BkW es) (hp : 0 ≤ p.1 ∧ p.1 ≤ 1000000 ∧ 0 ≤ p.2 ∧ p.2 ≤ 1000000) (hx : EntOk x) : BkW (insE p x es) := fun e m => by
  rcases (mem_insE a e).mp m with rfl | ⟨m, _⟩
  · exact ⟨hp, hx⟩
  · exact h e m
theorem bkW_del {p : Int × Int} {es : Bk} (h : BkW es) : BkW (delE p es) := fun e m => h e (mem_delE.mp m).1
/-! ### places in order -/
def PlR (H : Hp) (a : Addr) (q : Int × Int) : Prop := H a = some (.tup [.int q.1, .int q.2])
def pl2 (q : Int × Int) : List Int := [q.1, q.2]
theorem pl2_inj {p q : Int × Int} (h : pl2 p = pl2 q) : p = q := by
  unfold pl2 at h
  injection h with h1 h2
  injection h2 with h2 _
  exact Prod.ext h1 h2
def Pl6 (q : Int × Int) : Prop := 0 ≤ q.1 ∧ q.1 ≤ 1000000 ∧ 0 ≤ q.2 ∧ q.2 ≤ 1000000
theorem code_pl {q : Int × Int} : TS.code 1000001 (pl2 q) = q.1 * 1000001 + q.2 := by
  show q.1 * 1000001 ^ 1 + (q.2 * 1000001 ^ 0 + 0) = _
  rw [Int.pow_succ, Int.pow_zero]
  omega
theorem code_lt {p q : Int × Int} (hp : Pl6 p) (hq : Pl6 q) (h : ltP p q) : TS.code 1000001 (pl2 p) < TS.code 1000001 (pl2 q) := by
  rw [code_pl, code_pl]
  unfold Pl6 ltP at *
  omega
theorem code_inj {p q : Int × Int} (hp : Pl6 p) (hq : Pl6 q) (h : TS.code 1000001 (pl2 p) = TS.code 1000001 (pl2 q)) : p = q := by
  rw [code_pl, code_pl] at h
  unfold Pl6 at *
  exact Prod.ext (by omega) (by omega)
theorem BkOk.keys {H : Hp} {kvs : List (List Key × V)} {es : Bk} (h : BkOk H kvs es) : ∃ qs : List (Int × Int), kvs.map (·.1) = qs.map keyP ∧ qs.Perm (es.map (·.1)) := by
  have all : ∀ kv ∈ kvs, ∃ e ∈ es, kv.1 = keyP e.1 := fun kv m => by
    have : (kvs.any fun x => decide (x.1 = kv.1)) = true := List.any_eq_true.mpr ⟨kv, m, decide_eq_true rfl⟩
    rw [valV_any] at this
    obtain ⟨v, hv⟩ := Option.isSome_iff_exists.mp this
    obtain ⟨f, mf, q, _⟩ := h.fw _ _ hv
    exact ⟨f, mf, q⟩
  have mk : ∀ (l : List (List Key × V)), (∀ kv ∈ l, ∃ e ∈ es, kv.1 = keyP e.1) → ∃ qs : List (Int × Int), l.map (·.1) = qs.map keyP ∧ ∀ q ∈ qs, q ∈ es.map (·.1) := by
    intro l
    induction l with
    | nil => exact fun _ => ⟨[], rfl, fun q m => by cases m⟩
    | cons kv l ih =>
      intro hl
      obtain ⟨qs, e1, e2⟩ := ih fun x m => hl x (List.mem_cons_of_mem _ m)
      obtain ⟨f, mf, q⟩ := hl kv List.mem_cons_self
      refine ⟨f.1 :: qs, by rw [List.map_cons, List.map_cons, e1, q], fun y m => ?_⟩
      rcases List.mem_cons.mp m with rfl | m
      · exact List.mem_map.mpr ⟨f, mf, rfl⟩
      · exact e2 y m
  obtain ⟨qs, e1, e2⟩ := mk kvs all
  refine ⟨qs, e1, nodup_perm ?_ ?_ fun q => ⟨e2 q, fun m => ?_⟩⟩
  · have := h.nd
    rw [e1] at this
    exact (List.nodup_iff_pairwise_ne.mpr ((List.pairwise_map.mp (List.nodup_iff_pairwise_ne.mp this)).imp fun n q => n (by rw [q])))
  · rw [List.nodup_iff_pairwise_ne, List.pairwise_map]
    exact h.so.imp fun l q => l.ne q
  · obtain ⟨f, mf, rfl⟩ := List.mem_map.mp m
    obtain ⟨v, hv⟩ := h.bw f mf
    have : (kvs.any fun x => decide (x.1 = keyP f.1)) = true := by rw [valV_any, hv]; rfl
    obtain ⟨kv, m1, q⟩ := List.any_eq_true.mp this
    have m2 : keyP f.1 ∈ qs.map keyP := by
      rw [← e1]
      exact List.mem_map.mpr ⟨kv, m1, of_decide_eq_true q⟩
    obtain ⟨y, my, q2⟩ := List.mem_map.mp m2
    rw [← keyP_inj q2]
    exact my
/-- sorted(d) gives the places in order -/
theorem sortE {H : Hp} {d : Addr} {es : Bk} {Q : VK} (h : DicAt H d es) (w : BkW es) (l : es.length < 64)
    (k : ∀ (ys : List Addr) (p : Addr), Paired (PlR H) ys (es.map (·.1)) → H p = none → Q (.ref p) (upd H p (.lst (ys.map V.ref)))) : rSortDT 2 1000001 [.ref d] H Q := by
  obtain ⟨kvs, hd, hk⟩ := h
  obtain ⟨qs, e1, e2⟩ := hk.keys
  have hq : ∀ q ∈ qs, Pl6 q := fun q m => by
    obtain ⟨f, mf, rfl⟩ := List.mem_map.mp (e2.mem_iff.mp m)
    exact (w f mf).1
  refine ⟨d, kvs, qs.map pl2, rfl, hd, ?_, by rw [hk.len]; exact l, fun n m => ?_, fun ys ns p hp h1 h2 np => ?_⟩
  · rw [e1, List.map_map]
    rfl
  · obtain ⟨q, mq, rfl⟩ := List.mem_map.mp m
    have := hq q mq
    unfold Pl6 at this
    refine ⟨rfl, fun x mx => ?_⟩
    simp only [pl2, List.mem_cons, List.not_mem_nil, or_false] at mx
    rcases mx with rfl | rfl <;> omega
  · have e3 : ns = (es.map (·.1)).map pl2 := by
      refine List.Perm.eq_of_pairwise (le := fun n m => TS.code 1000001 n ≤ TS.code 1000001 m) (fun a b ma mb x y => ?_) h2 ?_ (h1.trans (e2.map pl2))
      · obtain ⟨q1, m1, rfl⟩ := List.mem_map.mp (h1.mem_iff.mp ma)
        obtain ⟨q2, m2, rfl⟩ := List.mem_map.mp mb
        have m2' := e2.mem_iff.mpr m2
        rw [code_inj (hq _ m1) (hq _ m2') (by omega)]
      · rw [List.map_map, List.pairwise_map]
        refine List.Pairwise.imp_of_mem (fun {a b} ma mb l => ?_) hk.so
        exact Int.le_of_lt (code_lt (w a ma).1 (w b mb).1 l)
    refine k ys p ?_ np
    rw [e3] at hp
    clear h1 h2 e3
    generalize es.map (·.1) = zs at hp
    induction zs generalizing ys with
    | nil => cases hp; exact .nil
    | cons z zs ih =>
      cases hp with
      | cons r t => exact .cons r (ih _ t)
/-! ### names in the order of the entries -/
def addN (acc : List Str) (n : Str) : List Str := if n ∈ acc then acc else acc ++ [n]
def pickN (k : Str) (acc : List Str) (x : Ent) : List Str := match x with
  | [.str w, .str n, _] => if w = k then addN acc n else acc
  | _ => acc
def namesE (k : Str) (es : Bk) : List Str := es.foldl (fun acc e => pickN k acc e.2) []
theorem namesE_snoc {k : Str} {es : Bk} {i : Nat} {e : (Int × Int) × Ent} (h : es[i]? = some e) : namesE k (es.take (i + 1)) = pickN k (namesE k (es.take i)) e.2 := by
  unfold namesE
  rw [List.take_add_one, h, List.foldl_append]
  rfl
theorem addN_keys {kvs : List (Key × V)} {acc : List Str} {n : Str} {v : V} (h : kvs.map (·.1) = acc.map Sum.inr) : (putK kvs (.inr n) v).map (·.1) = (addN acc n).map Sum.inr := by
  unfold addN
  cases e : valV kvs (.inr n) with
  | none =>
    have nm : n ∉ acc := fun m => valV_none.mp e (by rw [h]; exact List.mem_map.mpr ⟨n, m, rfl⟩)
    rw [putK_new v e, if_neg nm, List.map_append, List.map_append, h]
    rfl
  | some u =>
    have a : (kvs.any fun kv => decide (kv.1 = .inr n)) = true := by rw [valV_any, e]; rfl
    have m : n ∈ acc := by
      have this : (Sum.inr n : Key) ∈ kvs.map (·.1) := List.mem_map.mpr ⟨_, valV_mem e, rfl⟩
      rw [h] at this
      obtain ⟨y, my, q⟩ := List.mem_map.mp this
      rw [← Sum.inr.inj q]
      exact my
    unfold putK
    rw [if_pos a, if_pos m, ← h, List.map_map]
    refine List.map_congr_left fun kv _ => ?_
    show (if kv.1 = .inr n then (kv.1, v) else kv).1 = kv.1
    split <;> rfl
theorem addN_len {acc : List Str} {n : Str} : (addN acc n).length ≤ acc.length + 1 := by
  unfold addN
  split <;> simp
theorem pickN_of {k w n : Str} {y : V} {acc : List Str} : pickN k acc [.str w, .str n, y] = if w = k then addN acc n else acc := rfl
theorem namesE_ok {k : Str} {es : Bk} (w : BkW es) : (∀ z ∈ namesE k es, NameOk z) ∧ (namesE k es).length ≤ es.length ∧ (namesE k es).Nodup := by
  have g : ∀ (es : Bk) (acc : List Str), BkW es → (∀ z ∈ acc, NameOk z) → acc.Nodup → (∀ z ∈ es.foldl (fun acc e => pickN k acc e.2) acc, NameOk z) ∧ (es.foldl (fun acc e => pickN k acc e.2) acc).length ≤ acc.length + es.length ∧ (es.foldl (fun acc e => pickN k acc e.2) acc).Nodup := by
    intro es
    induction es with
    | nil => exact fun acc _ h n => ⟨h, Nat.le_refl _, n⟩
    | cons e es ih =>
      intro acc hw ha hn
      obtain ⟨kk, n, y, ex, hn1, _⟩ := (hw e List.mem_cons_self).2.ex
      have hs : (∀ z ∈ pickN k acc e.2, NameOk z) ∧ (pickN k acc e.2).length ≤ acc.length + 1 ∧ (pickN k acc e.2).Nodup := by
        rw [ex, pickN_of]
        split
        · refine ⟨fun z m => ?_, addN_len, ?_⟩
          · unfold addN at m
            split at m
            · exact ha z m
            · rcases List.mem_append.mp m with m | m
              · exact ha z m
              · rw [List.mem_singleton.mp m]
                exact hn1
          · unfold addN
            split
            · exact hn
            · rename_i c
              rw [List.nodup_append]
              refine ⟨hn, by simp, fun a ma b mb e => ?_⟩
              rw [List.mem_singleton.mp mb] at e
              rw [e] at ma
              exact c ma
        · exact ⟨ha, by omega, hn⟩
      obtain ⟨a1, a2, a3⟩ := ih _ (fun f m => hw f (List.mem_cons_of_mem _ m)) hs.1 hs.2.2
      refine ⟨a1, Nat.le_trans a2 ?_, a3⟩
      have := hs.2.1
      simp only [List.length_cons]
      omega
  obtain ⟨a, b, c⟩ := g es [] w (fun z m => by cases m) List.nodup_nil
  simp only [List.length_nil, Nat.zero_add] at b
  exact ⟨a, b, c⟩
theorem BkOk.at_ {H : Hp} {kvs : List (List Key × V)} {es : Bk} (h : BkOk H kvs es) {e : (Int × Int) × Ent} (m : e ∈ es) : ∃ v, valV kvs (keyP e.1) = some v ∧ EntR H v e.2 := by
  obtain ⟨v, hv⟩ := h.bw e m
  obtain ⟨f, mf, q, r⟩ := h.fw _ _ hv
  have := asc_uniq h.so m mf (keyP_inj q)
  rw [this]
  rw [this] at hv
  exact ⟨v, hv, r⟩
theorem inV3 {v : V} {a b c : Str} (h : flatV v = true) : inV v [.str a, .str b, .str c] = decide (v = .str a ∨ v = .str b ∨ v = .str c) := by
  cases v with
  | str z =>
    by_cases h1 : a = z
    · subst h1
      simp [inV, eqV]
    · by_cases h2 : b = z
      · subst h2
        simp [inV, eqV]
      · by_cases h3 : c = z
        · subst h3
          simp [inV, eqV]
        · have e1 : (a == z) = false := beq_eq_false_iff_ne.mpr h1
          have e2 : (b == z) = false := beq_eq_false_iff_ne.mpr h2
          have e3 : (c == z) = false := beq_eq_false_iff_ne.mpr h3
          have f1 : ¬ z = a := fun q => h1 q.symm
          have f2 : ¬ z = b := fun q => h2 q.symm
          have f3 : ¬ z = c := fun q => h3 q.symm
          simp [inV, eqV, e1, e2, e3, f1, f2, f3]
  | non => simp [inV, eqV]
  | bl x => simp [inV, eqV]
  | int x => simp [inV, eqV]
  | _ => cases h
theorem scal_s {v : V} {z : Str} (h : flatV v = true) : scal v (.str z) = true := by cases v <;> first | rfl | cases h
/-! ### a def as a value, a def held by a local name -/
def tDefn (K : PySem.W.Frag) (x : Str) : TE := fun _ H Q => ∀ f : Addr, PySem.W.nsIn K mainGlobals x = some (some (.ref f)) → Q (.ref f) H
theorem pe_defn {X : Cx} {x : Str} {p : Pos} (h : ∃ f : Addr, PySem.W.nsIn X.K mainGlobals x = some (some (.ref f)) ∧ X.mg x = some (.ref f)) (hg : Gl X x) (hdb : (x == ("__debug__" : Str)) = false := by decide) : PE X (.Name x p) (tDefn X.K x) := by
  obtain ⟨f, h1, h2⟩ := h
  exact ⟨fun pins s σ H Q I q => (pe_glob (v := .ref f) hg h2 rfl hdb).run pins s σ H Q I (q f h1)⟩
def tCallO (i : Nat) (N : Addr → Prop) (sp : Sp) (E : L2.St → XK) (t : TA) : TE := fun σ H Q => ∃ f, σ[i]? = some (some (.ref f)) ∧ N f ∧ t σ H fun vs H1 => sp vs H1 Q (E σ)
theorem pe_callO {X : Cx} {i : Nat} {N : Addr → Prop} {sp : Sp} {E : L2.St → XK} {x : Str} {p pos : Pos} {e : Expr} {es : List Expr} {t : TA} (A : ∀ f, N f → ∃ fd ps k, FnOk X.prog X.w X.K X.mg X.base (L2N.CX X.prog X.w) k f fd ps sp ∧ PySem.W.keepIn X.K (.ref f) = true ∧ Binds X.K fd ps [] ∧ Room k X.A)
    (hN : X.N[i]? = some x) (hv : Vis X.env.scope x) (hx : ∀ σ, PassesAt (L2N.CX X.prog X.w) X σ (E σ)) (ha : PA X (e :: es) t)
    (hdb : (x == ("__debug__" : Str)) = false := by decide) (hcd : (x == ("__classdict__" : Str)) = false := by decide)
    (he : starEach (e :: es) X.env = (false, eval e X.env) :: starEach es X.env := by rfl) (hpl : (backTo pos (starEach es X.env)).any (·.1) = false := by rfl) : PE X (.Call (.Name x p) (e :: es) [] pos) (tCallO i N sp E t) := by
  refine ⟨fun pins s σ H Q I h => ?_⟩
  obtain ⟨f, hs, hn, ht⟩ := h
  obtain ⟨fd, ps, k, F, hk, hb, hr⟩ := A f hn
  refine wpAny_Call_Name_kw (thn ((pe_var (pos := p) hN hv hdb hcd).run pins s σ H (fun v H1 => v = .ref f ∧ H1 = H) I ⟨.ref f, hs, rfl, rfl⟩) fun u s1 ⟨v, H1, I1, r1, q1⟩ => ?_)
  obtain ⟨rfl, rfl⟩ := q1
  cases r1
  refine PySem.W.callWith_K (h₀ := X.base) I.ok.mod.kin hk (thn (ha.run pos pins s1 σ _ _ I1 ht) fun us s2 ⟨vs, H2, I2, r, q⟩ => ⟨I2.kIn, ?_⟩) he hpl
  exact run_fnS F hr hb (hx σ) I2 r q
theorem own_held {P : Program} {w : World} {K : PySem.W.Frag} {mg : Str → Option Value} {base : Heap} {k : Nat} {x : Str} {ps : List Str} {sp : Sp} {A : Around} (O : Own P w K mg base k x ps sp) (hr : Room k A) {f : Addr} (h : mg x = some (.ref f)) :
    ∃ fd ps k, FnOk P w K mg base (L2N.CX P w) k f fd ps sp ∧ PySem.W.keepIn K (.ref f) = true ∧ Binds K fd ps [] ∧ Room k A := by
  obtain ⟨g, fd, F, hm, hk, hb⟩ := O.ex
  rw [h] at hm
  cases hm
  exact ⟨fd, ps, k, F, hk, hb, hr⟩
def dPl (q : Int × Int) : PyData := .tuple [.int q.1, .int q.2]
theorem plDa {K : PySem.W.Frag} {H : Hp} : ∀ {ys : List Addr} {qs : List (Int × Int)}, Paired (PlR H) ys qs → DaAll K H (ys.map V.ref) (qs.map dPl) 1
  | _, _, .nil => .nil
  | _, _, .cons r t => .cons (.tup (.cons .int (.cons .int .nil)) (SqT.of r)) (plDa t)
theorem PlR.keep {H H' : Hp} {a c : Addr} {q : Int × Int} {u : HO} (h : PlR H a q) (e : H c = some u) (n : ∀ xs, u ≠ .tup xs) (k : Keep c H H') : PlR H' a q := k _ _ h (ne_of h e fun z => n _ z.symm)
theorem whole_ok {i : Int} (h : 0 ≤ i) (l : i ≤ 1000000) : wholeB (.int i) 0 = true := by
  show (decide (0 ≤ i) && decide (i ≤ 1000000)) = true
  rw [decide_eq_true h, decide_eq_true l]
  rfl
theorem Bag.nedT {H : Hp} {L b d : Addr} {kvs : List (List Key × V)} (h : Bag H L b) (e : H d = Option.some (.dT kvs)) : d ≠ b ∧ d ≠ L := by
  obtain ⟨ns, i, big, mix, cnt, h1, h2, _⟩ := h
  exact ⟨ne_of e h1 (fun z => nomatch z), ne_of e h2 (fun z => nomatch z)⟩
theorem DicAt.put {H : Hp} {d : Addr} {kv : List (List Key × V)} {es : Bk} {q : Int × Int} {x : Ent} {u : Addr} (hd : H d = some (.dT kv)) (h : BkOk H kv es) (e : H u = some (.tup x)) : DicAt (upd H d (.dT (putK kv (keyP q) (.ref u)))) d (insE q x es) :=
  ⟨_, upd_same, (h.put ⟨u, rfl, e⟩).keep hd (fun _ z => nomatch z) keep_upd⟩
theorem DicAt.del {H : Hp} {d : Addr} {kv : List (List Key × V)} {es : Bk} {q : Int × Int} (hd : H d = some (.dT kv)) (h : BkOk H kv es) : DicAt (upd H d (.dT (dropK kv (keyP q)))) d (delE q es) :=
  ⟨_, upd_same, h.del.keep hd (fun _ z => nomatch z) keep_upd⟩
/-! ### rows (day, number, entry) as the law draws them -/
def RowR (H : Hp) (v : V) (r : (Int × Int) × Ent) : Prop := ∃ t e, v = .ref t ∧ H t = some (.tup [.int r.1.1, .int r.1.2, .ref e]) ∧ H e = some (.tup r.2)
def Rows (H : Hp) : List V → Bk → Prop := Paired (RowR H)
theorem RowR.same {H H' : Hp} {v : V} {r : (Int × Int) × Ent} (h : RowR H v r) (s : Same H H') : RowR H' v r := let ⟨t, e, a, b, c⟩ := h; ⟨t, e, a, s _ _ b, s _ _ c⟩
theorem RowR.keep {H H' : Hp} {v : V} {r : (Int × Int) × Ent} {c : Addr} {u : HO} (h : RowR H v r) (e : H c = some u) (n : ∀ xs, u ≠ .tup xs) (k : Keep c H H') : RowR H' v r :=
  let ⟨t, x, a, b, d⟩ := h; ⟨t, x, a, k _ _ b (ne_of b e fun z => n _ z.symm), k _ _ d (ne_of d e fun z => n _ z.symm)⟩
theorem Rows.same {H H' : Hp} {xs : List V} {rs : Bk} (h : Rows H xs rs) (s : Same H H') : Rows H' xs rs := Paired.mapP h fun _ _ r => r.same s
theorem Rows.keep {H H' : Hp} {xs : List V} {rs : Bk} {c : Addr} {u : HO} (h : Rows H xs rs) (e : H c = some u) (n : ∀ xs, u ≠ .tup xs) (k : Keep c H H') : Rows H' xs rs := Paired.mapP h fun _ _ r => r.keep e n k
theorem Rows.putL {H H' : Hp} {xs ys : List V} {rs : Bk} {c : Addr} (h : Rows H xs rs) (e : H c = some (.lst ys)) (k : Keep c H H') : Rows H' xs rs := h.keep e (fun _ z => nomatch z) k
/-- within the days and numbers that are drawn -/
def Near (n : Nat) (rs : Bk) : Prop := ∀ r ∈ rs, 0 ≤ r.1.1 ∧ r.1.1 ≤ 10 * n ∧ 0 ≤ r.1.2 ∧ r.1.2 ≤ 10 * n
def dRow (r : (Int × Int) × Ent) : PyData := .tuple [.int r.1.1, .int r.1.2, dEnt r.2]
theorem rowsDa {K : PySem.W.Frag} {H : Hp} : ∀ {xs : List V} {rs : Bk}, Rows H xs rs → (∀ r ∈ rs, EntOk r.2) → DaAll K H xs (rs.map dRow) 2
  | _, _, .nil, _ => .nil
  | _, _, .cons ⟨t, e, q, h1, h2⟩ tl, w => by
    subst q
    exact .cons (.tup (.cons .int (.cons .int (.cons ((w _ List.mem_cons_self).da h2) .nil))) (SqT.of h1)) (rowsDa tl fun r m => w r (List.mem_cons_of_mem _ m))
theorem eqNil {K : PySem.W.Frag} {H : Hp} {a b : Addr} {xs : List V} {ds : List PyData} {n : Nat} {Q : VK} (ha : H a = some (.lst xs)) (hb : H b = some (.lst [])) (h : DaAll K H xs ds n) (l : n ≤ 50) (k : Q (.bl xs.isEmpty) H) : rEqD K (.ref a) (.ref b) H Q := by
  have A : Da K H (.ref a) (.list ds) (n + 1) := .lst h (SqL.of ha)
  have B : Da K H (.ref b) (.list []) 1 := .lst .nil (SqL.of hb)
  refine ⟨_, _, A.dp, B.dp, A.shaped (by omega), B.shaped, ?_⟩
  have e : PyData.eqv (.list ds) (.list []) = xs.isEmpty := by
    cases h.dp with
    | nil => rfl
    | cons _ _ => rfl
  rw [e]
  exact k
theorem neNil {K : PySem.W.Frag} {H : Hp} {a b : Addr} {xs : List V} {ds : List PyData} {n : Nat} {Q : VK} (ha : H a = some (.lst xs)) (hb : H b = some (.lst [])) (h : DaAll K H xs ds n) (l : n ≤ 50) (k : Q (.bl (!xs.isEmpty)) H) : rNeD K (.ref a) (.ref b) H Q := by
  have A : Da K H (.ref a) (.list ds) (n + 1) := .lst h (SqL.of ha)
  have B : Da K H (.ref b) (.list []) 1 := .lst .nil (SqL.of hb)
  refine ⟨_, _, A.dp, B.dp, A.shaped (by omega), B.shaped, ?_⟩
  have e : PyData.eqv (.list ds) (.list []) = xs.isEmpty := by
    cases h.dp with
    | nil => rfl
    | cons _ _ => rfl
  rw [e]
  exact k
theorem paired_last {α β : Type} {F : α → β → Prop} {xs : List α} {fs : List β} (h : Paired F xs fs) (n : xs ≠ []) : ∃ ys y gs g, xs = ys ++ [y] ∧ fs = gs ++ [g] ∧ Paired F ys gs ∧ F y g := by
  have hl := h.length
  have h0 := List.length_pos_iff.mpr n
  refine ⟨xs.take (xs.length - 1), xs[xs.length - 1], fs.take (xs.length - 1), fs[xs.length - 1]'(by omega), ?_, ?_, paired_take _ h, paired_get h (List.getElem?_eq_getElem (by omega)) (List.getElem?_eq_getElem (by omega))⟩
  · rw [List.take_append_getElem (by omega), List.take_of_length_le (by omega)]
  · rw [List.take_append_getElem (by omega), List.take_of_length_le (by omega)]
theorem asc_last {es : Bk} {e : (Int × Int) × Ent} (h : Asc (es ++ [e])) : Asc es ∧ ∀ r ∈ es, ltP r.1 e.1 := by
  obtain ⟨a, _, c⟩ := List.pairwise_append.mp h
  exact ⟨a, fun r m => c r m e List.mem_cons_self⟩
theorem asc_snoc {es : Bk} {e : (Int × Int) × Ent} (h : Asc es) (k : ∀ r ∈ es, ltP r.1 e.1) : Asc (es ++ [e]) :=
  List.pairwise_append.mpr ⟨h, List.pairwise_singleton _ _, fun r m x mx => by rw [List.mem_singleton.mp mx]; exact k r m⟩
/-! ### what is kept while entries are drawn -/
structure Dis (L b nm sn en bt lf : Addr) : Prop where
  nb : nm ≠ b
  sb : sn ≠ b
  eb : en ≠ b
  tb : bt ≠ b
  fb : lf ≠ b
  eL : en ≠ L
  tL : bt ≠ L
  fL : lf ≠ L
  et : en ≠ bt
  ne : nm ≠ en
  nt : nm ≠ bt
  se : sn ≠ en
  st : sn ≠ bt
  ef : en ≠ lf
  tf : bt ≠ lf
  nf : nm ≠ lf
  sf : sn ≠ lf
structure SE (H : Hp) (L b nm sn en bt lf : Addr) (zs : List Str) (xs : List V) (rs : Bk) (nb : Nat) (kvs : List (Key × V)) (stock costs : Int) (i : Nat) : Prop where
  B : Bag H L b
  hn : H nm = some (.lst (zs.map V.str))
  hs : H sn = some (.lst (zs.reverse.map V.str))
  he : H en = some (.lst xs)
  hR : Rows H xs rs
  asc : Asc rs
  w : ∀ r ∈ rs, EntOk r.2
  near : Near rs.length rs
  lr : rs.length ≤ i
  hb : H bt = some (.lst ((zs.take nb).map V.str))
  n6 : nb ≤ 6
  hf : H lf = some (.dK kvs)
  hk : KOk zs kvs
  hv : ∀ z v, valV kvs (.inr z) = some v → ∃ u : Int, v = .int u ∧ 0 ≤ u ∧ u ≤ 1000000
  hst : stock.natAbs ≤ 1000000 * i
  hc0 : 0 ≤ costs
  hc3 : costs ≤ 3
section
variable {H H' : Hp} {L b nm sn en bt lf : Addr} {zs : List Str} {xs : List V} {rs : Bk} {nb : Nat} {kvs : List (Key × V)} {stock costs : Int} {i : Nat}
theorem SE.same (S : SE H L b nm sn en bt lf zs xs rs nb kvs stock costs i) (s : Same H H') : SE H' L b nm sn en bt lf zs xs rs nb kvs stock costs i :=
  ⟨S.B.same s, s _ _ S.hn, s _ _ S.hs, s _ _ S.he, S.hR.same s, S.asc, S.w, S.near, S.lr, s _ _ S.hb, S.n6, s _ _ S.hf, S.hk, S.hv, S.hst, S.hc0, S.hc3⟩
theorem SE.bag (S : SE H L b nm sn en bt lf zs xs rs nb kvs stock costs i) (d : Dis L b nm sn en bt lf) (k : Keep b H H') (B : Bag H' L b) : SE H' L b nm sn en bt lf zs xs rs nb kvs stock costs i := by
  obtain ⟨xb, hb⟩ := S.B.lst
  exact ⟨B, k _ _ S.hn d.nb, k _ _ S.hs d.sb, k _ _ S.he d.eb, S.hR.putL hb k, S.asc, S.w, S.near, S.lr, k _ _ S.hb d.tb, S.n6, k _ _ S.hf d.fb, S.hk, S.hv, S.hst, S.hc0, S.hc3⟩
theorem SE.up (S : SE H L b nm sn en bt lf zs xs rs nb kvs stock costs i) {j : Nat} (l : i ≤ j) {st c : Int} (h : st.natAbs ≤ 1000000 * j) (c0 : 0 ≤ c) (c3 : c ≤ 3) : SE H L b nm sn en bt lf zs xs rs nb kvs st c j :=
  ⟨S.B, S.hn, S.hs, S.he, S.hR, S.asc, S.w, S.near, Nat.le_trans S.lr l, S.hb, S.n6, S.hf, S.hk, S.hv, h, c0, c3⟩
theorem SE.buy (S : SE H L b nm sn en bt lf zs xs rs nb kvs stock costs i) (d : Dis L b nm sn en bt lf) (n : nb < 6) {x : V} (hx : (zs.map V.str)[nb]? = some x) : SE (upd H bt (.lst ((zs.take nb).map V.str ++ [x]))) L b nm sn en bt lf zs xs rs (nb + 1) kvs stock costs i := by
  refine ⟨S.B.keep keep_upd d.tb d.tL, une d.nt S.hn, une d.st S.hs, une d.et S.he, S.hR.putL S.hb keep_upd, S.asc, S.w, S.near, S.lr, ?_, n, une d.tf.symm S.hf, S.hk, S.hv, S.hst, S.hc0, S.hc3⟩
  rw [upd_same, List.map_take, List.map_take, List.take_add_one, hx]
  rfl
theorem SE.left (S : SE H L b nm sn en bt lf zs xs rs nb kvs stock costs i) (d : Dis L b nm sn en bt lf) {z : Str} {u : Int} (hz : z ∈ zs) (u0 : 0 ≤ u) (u1 : u ≤ 1000000) : SE (upd H lf (.dK (putK kvs (.inr z) (.int u)))) L b nm sn en bt lf zs xs rs nb (putK kvs (.inr z) (.int u)) stock costs i := by
  refine ⟨S.B.keep keep_upd d.fb d.fL, une d.nf S.hn, une d.sf S.hs, une d.ef S.he, S.hR.keep S.hf (fun _ z => nomatch z) keep_upd, S.asc, S.w, S.near, S.lr, une d.tf S.hb, S.n6, upd_same, S.hk.put hz _, fun y v e => ?_, S.hst, S.hc0, S.hc3⟩
  rw [valV_put] at e
  split at e
  · cases e
    exact ⟨u, rfl, u0, u1⟩
  · exact S.hv y v e
theorem near_up {n m : Nat} {rs : Bk} (h : Near n rs) (l : n ≤ m) : Near m rs := fun r m' => by
  obtain ⟨a, b, c, d⟩ := h r m'
  exact ⟨a, by omega, c, by omega⟩
theorem SE.row (S : SE H L b nm sn en bt lf zs xs rs nb kvs stock costs i) (d : Dis L b nm sn en bt lf) {q : Int × Int} {x : Ent} {t e : Addr} (ht : H t = some (.tup [.int q.1, .int q.2, .ref e])) (he : H e = some (.tup x)) (ox : EntOk x) (ha : ∀ r ∈ rs, ltP r.1 q)
    (hq : 0 ≤ q.1 ∧ q.1 ≤ 10 * (rs.length + 1 : Nat) ∧ 0 ≤ q.2 ∧ q.2 ≤ 10 * (rs.length + 1 : Nat)) (l : rs.length < i) : SE (upd H en (.lst (xs ++ [.ref t]))) L b nm sn en bt lf zs (xs ++ [.ref t]) (rs ++ [(q, x)]) nb kvs stock costs i := by
  have hl : (rs ++ [(q, x)]).length = rs.length + 1 := by simp
  refine ⟨S.B.keep keep_upd d.eb d.eL, une d.ne S.hn, une d.se S.hs, upd_same, Paired.snoc (S.hR.putL S.he keep_upd) (RowR.keep ⟨t, e, rfl, ht, he⟩ S.he (fun _ z => nomatch z) keep_upd), asc_snoc S.asc ha, fun r m => ?_, fun r m => ?_, by rw [hl]; exact l, une d.et.symm S.hb, S.n6, une d.ef.symm S.hf, S.hk, S.hv, S.hst, S.hc0, S.hc3⟩
  · rcases List.mem_append.mp m with m | m
    · exact S.w r m
    · rw [List.mem_singleton.mp m]
      exact ox
  · rw [hl]
    rcases List.mem_append.mp m with m | m
    · exact near_up S.near (Nat.le_succ _) r m
    · rw [List.mem_singleton.mp m]
      exact hq
end
end Lo

set_option Elab.async false
set_option linter.all false
set_option maxRecDepth 100000
set_option maxHeartbeats 4000000
/-! LoB12: sorted of rows (place, entry), the places apart. -/
namespace Lo
open PySem PySem.Spec PyProof.Rows L2
/-- u is a row: a place of two ints, and another thing -/
def PRow (h : Heap) (u : Value) (q : Int × Int) : Prop :=
  ∃ (a p : Addr) (e : Value) (t1 t2 : Tok), u = .ref a ∧ IsTup h a #[.ref p, e] ∧ IsTup h p #[.int q.1 t1, .int q.2 t2]
theorem PRow.keeps {h h' : Heap} {u : Value} {q : Int × Int} (x : PRow h u q) (k : ∀ b o, h.get? b = some o → o.cls = .type "tuple" → h'.get? b = some o) : PRow h' u q := by
  obtain ⟨a, p, e, t1, t2, z, ⟨o, ho, hc, r⟩, ⟨o2, ho2, hc2, r2⟩⟩ := x
  exact ⟨a, p, e, t1, t2, z, ⟨o, k _ _ ho hc, hc, r⟩, ⟨o2, k _ _ ho2 hc2, hc2, r2⟩⟩
theorem pfirsts {h : Heap} : ∀ vs : List Value, (∀ v ∈ vs, ∃ q, PRow h v q) → ∃ fs : List Value, PySem.W.KatTups h vs fs ∧ fs.length = vs.length ∧ ∀ f ∈ fs, ∃ (q : Addr) (o : Obj), f = Value.ref q ∧ h.get? q = some o ∧ o.cls = .type "tuple"
  | [], _ => ⟨[], PySem.W.KatTups.nil, rfl, fun f hf => by simp at hf⟩
  | v :: vs, x => by
    obtain ⟨fs, k, hl, hi⟩ := pfirsts vs fun u hu => x u (List.mem_cons_of_mem _ hu)
    obtain ⟨_, a, q, e, t1, t2, rfl, ⟨o, ho, hc, n, hd⟩, ⟨o2, ho2, hc2, _⟩⟩ := x v (List.mem_cons_self ..)
    refine ⟨.ref q :: fs, PySem.W.KatTups.cons ho hc hd rfl k, by rw [List.length_cons, List.length_cons, hl], fun f hf => ?_⟩
    rcases List.mem_cons.mp hf with rfl | hf
    · exact ⟨q, o2, rfl, ho2, hc2⟩
    · exact hi f hf
section
variable {prog : Program} {w : World} {A : Around} {s : Shared}
theorem prow_cmp {vs : List Value} {k : Value → Int × Int} (hu : A.units < cLine) (hp : ∀ v ∈ vs, PRow s.heap v (k v)) (hn : ∀ v ∈ vs, ∀ u ∈ vs, k v = k u → v = u) : SrtO.Cmp prog w A s (tuples' false) (fun p => p.1 ∈ vs) (SrtO.lt2 fun v u => SrtO.lexB (k v) (k u)) := by
  intro p q hm hm'
  have h1 := hp _ hm
  have h2 := hp _ hm'
  show wpAny (model prog w) A (keyLt' (tuples' false) p.1 q.1) (fun r s' => s' = s ∧ r = SrtO.lexB (k p.1) (k q.1)) (fun _ _ => False) s
  by_cases e : k p.1 = k q.1
  · have e1 : p.1 = q.1 := hn _ hm _ hm' e
    rw [← e1]
    have irr : SrtO.lexB (k p.1) (k p.1) = false := by
      refine SrtO.lexB_no.mpr ?_
      omega
    rw [irr]
    obtain ⟨a, b, y, t1, t2, ea, ⟨o, ho, hc, n, hd⟩, _⟩ := h1
    rw [ea]
    refine PySem.W.kat_lt ho hd ho hd ?_
    show PySem.W.KatLex prog w A false false _ [(Value.ref b, Value.ref b), (y, y)] 0 s
    refine PySem.W.kat_cons (SeqAt.EqAt.same (Value.ref b) prog w _ _ ?_)
    refine PySem.W.kat_yes (PySem.W.kat_cons (SeqAt.EqAt.same y prog w _ _ ?_))
    exact PySem.W.kat_yes (PySem.W.kat_nil ⟨rfl, rfl⟩)
  · obtain ⟨a, b, y, t1, t2, ea, ⟨o, ho, hc, n, hd⟩, hb⟩ := h1
    obtain ⟨a', b', y', t1', t2', ea', ⟨o', ho', hc', n', hd'⟩, hb'⟩ := h2
    rw [ea, ea']
    refine PySem.W.kat_lt ho hd ho' hd' ?_
    show PySem.W.KatLex prog w A false false _ [(Value.ref b, Value.ref b'), (y, y')] 0 s
    have k1 : IsTupleKey (L2.mixKind prog w) s.heap [Sum.inl (k p.1).1, Sum.inl (k p.1).2] b := by
      obtain ⟨ok, hok, ck, nk, dk⟩ := id hb
      exact ⟨ok, _, nk, hok, ck, dk, .cons (L2.mixKind_int prog w _ _) (.cons (L2.mixKind_int prog w _ _) .nil)⟩
    have k2 : IsTupleKey (L2.mixKind prog w) s.heap [Sum.inl (k q.1).1, Sum.inl (k q.1).2] b' := by
      obtain ⟨ok, hok, ck, nk, dk⟩ := id hb'
      exact ⟨ok, _, nk, hok, ck, dk, .cons (L2.mixKind_int prog w _ _) (.cons (L2.mixKind_int prog w _ _) .nil)⟩
    refine PySem.W.kat_cons (wpAny_eqBool_tuple hu k1 k2 ?_)
    refine PySem.W.kat_go (fun e0 => ?_) (fun _ => ?_)
    · exfalso
      have z0 := of_decide_eq_true e0
      injection z0 with z1 z2
      injection z2 with z2 _
      exact e (Prod.ext (Sum.inl.inj z1) (Sum.inl.inj z2))
    · refine PySem.W.kat_no ?_
      show wpAny _ _ (oneLt' false _ _) _ _ _
      refine PySem.W.kat_one _ _ (HT.lt_tupInts (ns := [(k p.1).1, (k p.1).2]) (ms := [(k q.1).1, (k q.1).2]) hb hb' (.cons _ _ (.cons _ _ .nil)) (.cons _ _ (.cons _ _ .nil)) hu ?_)
      refine (show s = s ∧ HT.lexLt [(k p.1).1, (k p.1).2] [(k q.1).1, (k q.1).2] = SrtO.lexB (k (.ref a)) (k (.ref a')) from ⟨rfl, ?_⟩)
      rw [← ea, ← ea']
      unfold SrtO.lexB
      rw [HT.lexLt_cons]
      by_cases c : (k p.1).1 = (k q.1).1
      · rw [if_pos c, if_pos c, HT.lexLt_cons]
        have c2 : ¬ (k p.1).2 = (k q.1).2 := fun z => e (Prod.ext c z)
        rw [if_neg c2]
      · rw [if_neg c, if_neg c]
theorem prow_sortable {a : Addr} {vs : List Value} {k : Value → Int × Int} (hu : A.units < cLine) (h0 : 0 < vs.length) (hp : ∀ v ∈ vs, PRow s.heap v (k v)) (hn : ∀ v ∈ vs, ∀ u ∈ vs, k v = k u → v = u) (ha : ∀ o, s.heap.get? a = some o → o.cls ≠ .type "tuple") : SrtO.SortableO prog w A s a vs fun v u => SrtO.lexB (k v) (k u) := by
  intro h' keep
  have hp' : ∀ v ∈ vs, PRow h' v (k v) := fun v hm => (hp v hm).keeps fun b o e c => keep b o (fun z => by subst z; exact ha o e c) e
  obtain ⟨fs, h1, h2, h3⟩ := pfirsts vs fun v hm => ⟨_, hp' v hm⟩
  refine ⟨tuples' false, fun Q E hq => ?_, prow_cmp hu hp' hn⟩
  refine PySem.W.kat_kind (T := .type "tuple") h1 (by omega) (fun f hm => ?_) (by rfl) ?_
  · obtain ⟨q, o, rfl, ho, hc⟩ := h3 f hm
    have z : PySem.W.Looks (model prog w) h' (typeOf (.ref q)) o.cls := (PySem.W.Looks.ld ho).andThen .now
    rw [hc] at z
    exact z
  · have e : (Value.type "tuple" != Value.type "tuple") = false := by first | rfl | decide | simp
    rw [e]
    exact hq
theorem sorted_prow {E : Value → Shared → Prop} {l : Addr} {vs : List Value} {k : Value → Int × Int} {Q : Value → Shared → Prop} (hu : A.in1.in1.units < cLine) (hl : s.heap.IsList l vs.toArray) (hz : vs.length ≤ sizeLine) (hp : ∀ v ∈ vs, PRow s.heap v (k v)) (hn : ∀ v ∈ vs, ∀ u ∈ vs, k v = k u → v = u)
    (h : ∀ (h' : Heap) (d : Addr) (out : List Value), SrtO.Srtd (fun v u => SrtO.lexB (k v) (k u)) out → SrtO.Stb (fun v u => SrtO.lexB (k v) (k u)) out vs → (∀ b o, s.heap.get? b = some o → h'.get? b = some o) → s.heap.objs.size ≤ d → (∃ n, h'.get? d = some (seqObj "list" out.toArray n)) → Q (.ref d) { s with heap := h' }) :
    wpAny (model prog w) A (call (.builtin "sorted") [.ref l]) Q E s := by
  refine SrtO.sorted_ord (SrtO.swo_lex k) hl hz (fun h2 h₁ a ha kk => ?_) fun out hs hb => ?_
  · refine prow_sortable (s := { s with heap := h₁ }) hu (by omega) (fun v hm => (hp v hm).keeps fun b o e _ => (kk b o e).2) hn fun o e => ?_
    have e' : some o = some (seqObj "list" vs.toArray 0) := e.symm.trans ha
    cases e'
    intro c
    exact absurd (Value.type.inj c) (by decide)
  · exact h _ _ out hs hb (fun b o e => sortedAll_old e) (Nat.le_succ _) (sortedAll_at s.heap vs out.toArray)
end
/-- sorted(xs), xs rows (place, thing), the places apart -/
def rSortPE (K : PySem.W.Frag) : List V → Hp → VK → Prop := fun vs H Q => ∃ (a : Addr) (xs : List V) (k : V → Int × Int), vs = [V.ref a] ∧ SqL K H a xs ∧ (∀ x ∈ xs, ∃ t p y, x = V.ref t ∧ H t = some (.tup [.ref p, y]) ∧ H p = some (.tup [.int (k x).1, .int (k x).2])) ∧ (∀ x ∈ xs, ∀ y ∈ xs, k x = k y → x = y) ∧
  ∀ ys p, ys.Pairwise (fun x y => SrtO.lexB (k y) (k x) = false) → ys.Perm xs → H p = none → Q (.ref p) (upd H p (.lst ys))
section
variable {X : Cx}
theorem cr_sortedPE (hu : X.A.units + 64 < cLine) : CallR X (.builtin "sorted") (rSortPE X.K) := by
  have hu : X.A.in1.in1.units < cLine := by
    show X.A.units + 1 + 1 < cLine
    omega
  intro pins s σ H vs us Q I r h
  obtain ⟨a, xs, k, rfl, hs, hx, hn, q⟩ := h
  obtain ⟨its, rv, hl, hz⟩ := I.list hs
  obtain ⟨u, rfl, ru⟩ := vals1 r
  obtain rfl : u = Value.ref a := ru
  obtain ⟨e1, e2⟩ := refs_back rv fun x m => by
    obtain ⟨t, p, y, e, _⟩ := hx x m
    exact ⟨t, e⟩
  have mb : ∀ v ∈ its, backV v ∈ xs := fun v hv => by rw [e1]; exact List.mem_map.mpr ⟨_, hv, rfl⟩
  refine sorted_prow (k := fun u => k (backV u)) hu hl.isList (by rw [← rv.length]; exact hz) (fun v hv => ?_) (fun v hv u hw e => ?_) fun h' d out h1 h2 kp hd hn => ?_
  · obtain ⟨t, rfl⟩ := e2 v hv
    obtain ⟨t', p, y, e, ht, hp⟩ := hx _ (mb _ hv)
    cases e
    obtain ⟨_, its2, r2, h2⟩ := I.hok _ _ ht
    obtain ⟨u1, u2, rfl, ri, rj⟩ := vals2 r2
    obtain rfl : u1 = Value.ref p := ri
    obtain ⟨_, its3, r3, h3⟩ := I.hok _ _ hp
    obtain ⟨w1, w2, rfl, ri, rj3⟩ := vals2 r3
    obtain ⟨t1, rfl⟩ := ri
    obtain ⟨t2, rfl⟩ := rj3
    exact ⟨t, p, u2, t1, t2, rfl, h2, h3⟩
  · obtain ⟨t, rfl⟩ := e2 v hv
    obtain ⟨t', rfl⟩ := e2 u hw
    have := hn _ (mb _ hv) _ (mb _ hw) e
    cases this
    rfl
  · have h3 : ∀ u ∈ out, ∃ a, u = Value.ref a := fun u hu => e2 u (h2.perm.mem_iff.mp hu)
    obtain ⟨n, hn⟩ := hn
    have hb : (out.map backV).Perm xs := by
      rw [e1]
      exact h2.perm.map backV
    refine ⟨.ref d, upd H d (.lst (out.map backV)), I.laid (t' := s.toks) kp hd ⟨?_, out, n, vals_back h3, hn⟩, rfl, q _ d (SrtO.srtd_map h1) hb (I.hok.fresh hd)⟩
    rw [hb.length_eq]
    exact hz
end
/-- flat, or a tuple -/
def PlainV (H : Hp) (v : V) : Prop := flatV v = true ∨ ∃ a xs, v = .ref a ∧ H a = some (.tup xs)
theorem PlainV.same {H H' : Hp} {v : V} (h : PlainV H v) (s : Same H H') : PlainV H' v := by
  rcases h with h | ⟨a, xs, e, q⟩
  · exact .inl h
  · exact .inr ⟨a, xs, e, s _ _ q⟩
theorem nm_sign {z : Str} {c : Nat} (m : c ∈ TL.tl z) (h : Unicode.isAlpha c = false ∨ Unicode.isUpper c = true) : nmB z = false := by
  unfold nmB
  rcases h with h | h
  · have : Txt.isalpha z = false := by
      unfold Txt.isalpha
      rw [Bool.and_eq_false_iff]
      refine .inr ?_
      rw [← Array.all_toList, List.all_eq_false]
      exact ⟨c, m, by rw [h]; decide⟩
    rw [this]
    simp
  · have : Txt.islower z = false := by
      unfold Txt.islower
      rw [Bool.and_eq_false_iff]
      refine .inr ?_
      rw [Bool.not_eq_false', ← Array.any_toList, List.any_eq_true]
      exact ⟨c, m, by rw [h]; rfl⟩
    rw [this]
    simp
/-! ### rows (place, entry) of a book -/
def KepR (H : Hp) (v : V) (e : (Int × Int) × Ent) : Prop := ∃ t q a, v = .ref t ∧ H t = some (.tup [.ref q, .ref a]) ∧ PlR H q e.1 ∧ H a = some (.tup e.2)
def Kept (H : Hp) : List V → Bk → Prop := Paired (KepR H)
theorem KepR.same {H H' : Hp} {v : V} {e : (Int × Int) × Ent} (h : KepR H v e) (s : Same H H') : KepR H' v e := let ⟨t, q, a, x, y, z, w⟩ := h; ⟨t, q, a, x, s _ _ y, s _ _ z, s _ _ w⟩
theorem KepR.keep {H H' : Hp} {v : V} {e : (Int × Int) × Ent} {c : Addr} {u : HO} (h : KepR H v e) (x : H c = some u) (n : ∀ xs, u ≠ .tup xs) (k : Keep c H H') : KepR H' v e :=
  let ⟨t, q, a, y, z, w, g⟩ := h; ⟨t, q, a, y, k _ _ z (ne_of z x fun i => n _ i.symm), w.keep x n k, k _ _ g (ne_of g x fun i => n _ i.symm)⟩
theorem Kept.same {H H' : Hp} {xs : List V} {es : Bk} (h : Kept H xs es) (s : Same H H') : Kept H' xs es := Paired.mapP h fun _ _ r => r.same s
theorem Kept.keep {H H' : Hp} {xs : List V} {es : Bk} {c : Addr} {u : HO} (h : Kept H xs es) (x : H c = some u) (n : ∀ xs, u ≠ .tup xs) (k : Keep c H H') : Kept H' xs es := Paired.mapP h fun _ _ r => r.keep x n k
def dKep (e : (Int × Int) × Ent) : PyData := .tuple [dPl e.1, dEnt e.2]
theorem keptDa {K : PySem.W.Frag} {H : Hp} : ∀ {xs : List V} {es : Bk}, Kept H xs es → (∀ e ∈ es, EntOk e.2) → DaAll K H xs (es.map dKep) 2
  | _, _, .nil, _ => .nil
  | _, _, .cons ⟨t, q, a, e1, h1, h2, h3⟩ tl, w => by
    subst e1
    exact .cons (.tup (.cons (.tup (.cons .int (.cons .int .nil)) (SqT.of h2)) (.cons ((w _ List.mem_cons_self).da h3) .nil)) (SqT.of h1)) (keptDa tl fun r m => w r (List.mem_cons_of_mem _ m))
def kOf (H : Hp) (v : V) : Int × Int := match v with
  | .ref t => (match H t with
    | some (.tup [.ref q, _]) => (match H q with
      | some (.tup [.int a, .int b]) => (a, b)
      | _ => (0, 0))
    | _ => (0, 0))
  | _ => (0, 0)
theorem KepR.k {H : Hp} {v : V} {e : (Int × Int) × Ent} (h : KepR H v e) : kOf H v = e.1 := by
  obtain ⟨t, q, a, rfl, h1, h2, h3⟩ := h
  unfold PlR at h2
  simp only [kOf, h1, h2]
theorem paired_memL {α β : Type} {F : α → β → Prop} {xs : List α} {ys : List β} (h : Paired F xs ys) {x : α} (m : x ∈ xs) : ∃ y ∈ ys, F x y := by
  induction h with
  | nil => cases m
  | cons r _ ih =>
    rcases List.mem_cons.mp m with rfl | m
    · exact ⟨_, List.mem_cons_self, r⟩
    · obtain ⟨y, my, f⟩ := ih m
      exact ⟨y, List.mem_cons_of_mem _ my, f⟩
theorem kept_inj {H : Hp} {xs : List V} {es : Bk} (h : Kept H xs es) (n : es.Pairwise fun a b => a.1 ≠ b.1) : ∀ x ∈ xs, ∀ y ∈ xs, kOf H x = kOf H y → x = y := by
  induction h with
  | nil => intro x m; cases m
  | cons r t ih =>
    obtain ⟨n1, n2⟩ := List.pairwise_cons.mp n
    intro x mx y my e
    rcases List.mem_cons.mp mx with ex | mx2
    · rcases List.mem_cons.mp my with ey | my2
      · rw [ex, ey]
      · obtain ⟨f, mf, rf⟩ := paired_memL t my2
        rw [ex, r.k, rf.k] at e
        exact absurd e (n1 f mf)
    · rcases List.mem_cons.mp my with ey | my2
      · obtain ⟨f, mf, rf⟩ := paired_memL t mx2
        rw [ey, r.k, rf.k] at e
        exact absurd e.symm (n1 f mf)
      · exact ih n2 x mx2 y my2 e
theorem lexB_ltP {p q : Int × Int} : SrtO.lexB p q = false ↔ ¬ ltP p q := SrtO.lexB_no
theorem paired_memR {α β : Type} {F : α → β → Prop} {xs : List α} {ys : List β} (h : Paired F xs ys) {y : β} (m : y ∈ ys) : ∃ x ∈ xs, F x y := by
  induction h with
  | nil => cases m
  | cons r _ ih =>
    rcases List.mem_cons.mp m with rfl | m
    · exact ⟨_, List.mem_cons_self, r⟩
    · obtain ⟨x, mx, f⟩ := ih m
      exact ⟨x, List.mem_cons_of_mem _ mx, f⟩
theorem kept_pw {H : Hp} : ∀ {ys : List V} {us : Bk}, Kept H ys us → ys.Pairwise (fun x y => SrtO.lexB (kOf H y) (kOf H x) = false) → us.Pairwise fun a b => ¬ ltP b.1 a.1
  | _, _, .nil, _ => .nil
  | _, _, .cons r t, h => by
    obtain ⟨p1, p2⟩ := List.pairwise_cons.mp h
    refine List.pairwise_cons.mpr ⟨fun f mf => ?_, kept_pw t p2⟩
    obtain ⟨y, my, ry⟩ := paired_memR t mf
    have := p1 y my
    rw [ry.k, r.k] at this
    exact lexB_ltP.mp this
/-- sorted(rows): the rows by their places -/
theorem sortKept {K : PySem.W.Frag} {H : Hp} {a : Addr} {xs : List V} {es ts : Bk} {Q : VK} (hx : H a = some (.lst xs)) (h : Kept H xs es) (n : es.Pairwise fun a b => a.1 ≠ b.1) (p : ts.Perm es) (s : Asc ts)
    (k : ∀ ys p, Kept H ys ts → H p = none → Q (.ref p) (upd H p (.lst ys))) : rSortPE K [.ref a] H Q := by
  refine ⟨a, xs, kOf H, rfl, SqL.of hx, fun x m => ?_, kept_inj h n, fun ys d hp hy nd => ?_⟩
  · obtain ⟨e, me, t, q, b, rfl, h1, h2, h3⟩ := paired_memL h m
    have hk : kOf H (.ref t) = e.1 := KepR.k ⟨t, q, b, rfl, h1, h2, h3⟩
    rw [hk]
    exact ⟨t, q, _, rfl, h1, h2⟩
  · obtain ⟨us, h1, h2⟩ := paired_perm h hy
    have e : us = ts := by
      have pw := kept_pw h1 hp
      refine List.Perm.eq_of_pairwise (le := fun a b => ¬ ltP b.1 a.1) (fun x y mx my g1 g2 => ?_) pw (s.imp fun l z => (l.trans z).ne rfl) (h2.trans p.symm)
      have mx' := p.mem_iff.mpr (h2.mem_iff.mp mx)
      exact asc_uniq s mx' my (by
        refine Classical.byContradiction fun z => ?_
        rcases Classical.em (ltP x.1 y.1) with c | c
        · exact g2 c
        · exact g1 (ltP_tri z c))
    subst e
    exact k ys d h1 nd
/-- a book's rows, one place set anew -/
theorem insE_perm {p : Int × Int} {x : Ent} {es : Bk} (h : Asc es) : (insE p x es).Perm (delE p es ++ [(p, x)]) ∧ (delE p es ++ [(p, x)]).Pairwise fun a b => a.1 ≠ b.1 := by
  have nd : ∀ {l : Bk}, (l.Pairwise fun a b => a.1 ≠ b.1) → l.Nodup := fun w => List.nodup_iff_pairwise_ne.mpr (w.imp fun n z => n (by rw [z]))
  have w : (delE p es ++ [(p, x)]).Pairwise fun a b => a.1 ≠ b.1 := by
    refine List.pairwise_append.mpr ⟨(asc_delE h).imp fun l => l.ne, List.pairwise_singleton _ _, fun a ma b mb => ?_⟩
    rw [List.mem_singleton.mp mb]
    exact (mem_delE.mp ma).2
  refine ⟨nodup_perm (nd ((asc_insE h).imp fun l => l.ne)) (nd w) fun e => ?_, w⟩
  rw [mem_insE h, List.mem_append, List.mem_singleton, mem_delE]
  exact ⟨fun m => m.elim .inr .inl, fun m => m.elim .inr .inl⟩
/-- entries set one after another -/
def setAll (rs : Bk) : Bk := rs.foldl (fun es r => insE r.1 r.2 es) []
theorem setAll_snoc {rs : Bk} {r : (Int × Int) × Ent} : setAll (rs ++ [r]) = insE r.1 r.2 (setAll rs) := by
  unfold setAll
  rw [List.foldl_append]
  rfl
/-! ### o[i] = v, o an instance with an own __setitem__, as a statement of its own -/
section
variable {X : Cx} {k : Nat} {C : Addr} {ps : List Str} {sp : Sp}
def sSetOwn (C : Addr) (sp : Sp) (E : L2.St → XK) (td ty tv : TE) : TS := fun D σ H => tv σ H fun v H1 => td σ H1 fun x H2 => ty σ H2 fun y H3 => ∃ a dx fs, x = .ref a ∧ H3 a = some (.ins C dx fs) ∧ sp [x, y, v] H3 (fun _ H' => D.nx σ H') (E σ)
theorem ps_setOwn {E : L2.St → XK} {o i value : Expr} {pos' pos : Pos} {td ty tv : TE} (O : OwnM X.prog X.w X.K X.mg X.base k C "__setitem__" ps sp) (hq : PySem.W.noSeq X.K C = true) (hr : Room k X.A) (hx : ∀ σ, PassesAt (L2N.CX X.prog X.w) X σ (E σ))
    (ho : PE X o td) (hi : PE X i ty) (hv : PE X value tv) (hs : swapsWith value (some (.Subscript o i pos')) pos.line X.env = pure false) :
    PS X (.Assign [.Subscript o i pos'] value pos) (sSetOwn C sp E td ty tv) := by
  obtain ⟨f, fd, F, hm, hbd⟩ := O.ex
  refine ⟨fun pins s σ H D I h => ?_⟩
  refine wpAny_Assign_Subscript (thn (hv.run pins s σ H _ I h) fun r s1 ⟨v, H1, I1, rv, q1⟩ => thn (ho.run pins s1 σ H1 _ I1 q1) fun u s2 ⟨x, H2, I2, rx, q2⟩ => thn (hi.run pins s2 σ H2 _ I2 q2) fun iv s3 ⟨y, H3, I3, ry, a, dx, fs, ex, ea, q3⟩ => ?_) hs
  subst ex
  obtain rfl : u = Value.ref a := rx
  obtain ⟨_, od, J⟩ := inst_at I3 ea
  obtain ⟨m, hF⟩ := I3.fr
  refine PySem.W.ksp_setItem hF I3.ok.mod.kin J hq hm.at_ hm.fn ?_
  refine wpAny_mono (run_fnS (us := [.ref a, iv, r]) (vs := [.ref a, y, v]) F hr hbd (hx σ) I3 (.cons rfl (.cons ry (.cons rv .nil))) q3) (fun r s' h => ?_) fun _ _ z => z
  obtain ⟨w, H', I', _, q'⟩ := h
  exact ⟨σ, H', I', q'⟩
end
theorem Da.neB {K : PySem.W.Frag} {H : Hp} {v w : V} {d e : PyData} {n m : Nat} {Q : VK} (h : Da K H v d n) (k : Da K H w e m) {b : Bool} (hb : PyData.eqv d e = b) (q : Q (.bl (!b)) H) (l : n ≤ 60 := by decide) (l2 : m ≤ 60 := by decide) : rNeD K v w H Q := by
  refine ⟨_, _, h.dp, k.dp, h.shaped l, k.shaped l2, ?_⟩
  rw [hb]
  exact q
theorem dPl_eqv {p q : Int × Int} : PyData.eqv (dPl p) (dPl q) = decide (p = q) := by
  obtain ⟨a, b⟩ := p
  obtain ⟨c, d⟩ := q
  by_cases h1 : a = c <;> by_cases h2 : b = d <;> simp [dPl, PyData.eqv, PyData.eqvAll, h1, h2]
/-! ### what is kept while entries are refused or set -/
structure St32 (ca : Nat → Addr) (H : Hp) (L bag l p D : Addr) (xs : List V) (rs es : Bk) (m : Nat) : Prop where
  B : Bag H L bag
  hx : H l = some (.lst xs)
  hR : Rows H xs rs
  hB : BookAt ca H p D es
  hw : BkW es
  hl : es.length ≤ m
theorem St32.same {ca : Nat → Addr} {H H' : Hp} {L bag l p D : Addr} {xs : List V} {rs es : Bk} {m : Nat} (S : St32 ca H L bag l p D xs rs es m) (s : Same H H') : St32 ca H' L bag l p D xs rs es m :=
  ⟨S.B.same s, s _ _ S.hx, S.hR.same s, S.hB.same s, S.hw, S.hl⟩
theorem St32.bag {ca : Nat → Addr} {H H' : Hp} {L bag l p D : Addr} {xs : List V} {rs es : Bk} {m : Nat} (S : St32 ca H L bag l p D xs rs es m) (n : l ≠ bag) (k : Keep bag H H') (B : Bag H' L bag) : St32 ca H' L bag l p D xs rs es m := by
  obtain ⟨xb, hb⟩ := S.B.lst
  exact ⟨B, k _ _ S.hx n, S.hR.putL hb k, S.hB.putL hb k, S.hw, S.hl⟩
theorem St32.ins {ca : Nat → Addr} {H H' : Hp} {L bag l p D : Addr} {xs : List V} {rs es : Bk} {m : Nat} {q : Int × Int} {x : Ent} (S : St32 ca H L bag l p D xs rs es m) (k : Keep D H H') (hB : BookAt ca H' p D (insE q x es)) (hq : Pl6 q) (hx : EntOk x) : St32 ca H' L bag l p D xs rs (insE q x es) (m + 1) := by
  obtain ⟨kv, hk⟩ := S.hB.2.dT
  obtain ⟨n1, n2⟩ := S.B.nedT hk
  exact ⟨S.B.keep k n1 n2, k _ _ S.hx (ne_of S.hx hk fun z => nomatch z), S.hR.keep hk (fun _ z => nomatch z) k, hB, bkW_ins S.hB.2.asc S.hw hq hx, Nat.le_trans len_insE (Nat.succ_le_succ S.hl)⟩
end Lo

set_option Elab.async false
set_option linter.all false
set_option maxRecDepth 100000
set_option maxHeartbeats 4000000
/-! LoB13: books joined. -/
namespace Lo
open PySem PySem.Spec PySem.W PyProof.Rows L2
theorem dEnt_eqv {x y : Ent} (h : EntOk x) (k : EntOk y) : PyData.eqv (dEnt x) (dEnt y) = decide (x = y) := by
  obtain ⟨k1, n1, y1, rfl, _, h1⟩ := h.ex
  obtain ⟨k2, n2, y2, rfl, _, h2⟩ := k.ex
  have e : PyData.eqv (dEnt [.str k1, .str n1, y1]) (dEnt [.str k2, .str n2, y2]) = (decide (k1 = k2) && (decide (n1 = n2) && PyData.eqv (dat y1) (dat y2))) := by
    simp only [dEnt, List.map_cons, List.map_nil, dat, PyData.eqv, PyData.eqvAll, Bool.and_true]
    by_cases z : k1 = k2 <;> by_cases z2 : n1 = n2 <;> simp [z, z2]
  have ey : PyData.eqv (dat y1) (dat y2) = decide (y1 = y2) := by
    rcases h1 with ⟨_, l1, rfl, _⟩ | ⟨_, u1, rfl, _⟩ <;> rcases h2 with ⟨_, l2, rfl, _⟩ | ⟨_, u2, rfl, _⟩
    · simp only [dat, PyData.eqv]
      by_cases z : l1 = l2 <;> simp [z]
    · simp [dat, PyData.eqv]
    · simp [dat, PyData.eqv]
    · simp only [dat, PyData.eqv]
      by_cases z : u1 = u2 <;> simp [z]
  rw [e, ey]
  by_cases z1 : k1 = k2 <;> by_cases z2 : n1 = n2 <;> by_cases z3 : y1 = y2 <;> simp [z1, z2, z3]
/-- a place at which both books have entries, but other ones -/
def clashE (es fs : Bk) (e : (Int × Int) × Ent) : Bool := match getE e.1 fs with
  | some y => decide (y ≠ e.2)
  | none => false
def clash1 (es fs : Bk) : Option (Int × Int) := (es.find? fun e => clashE es fs e).map (·.1)
/-! ### min of a list of places -/
def minP (q : Int × Int) (qs : List (Int × Int)) : Int × Int := qs.foldl (fun a y => if ltP y a then y else a) q
theorem minP_ok : ∀ (qs : List (Int × Int)) (q : Int × Int), minP q qs ∈ q :: qs ∧ ∀ x ∈ q :: qs, ¬ ltP x (minP q qs)
  | [], q => ⟨List.mem_cons_self, fun x m => by rw [List.mem_singleton.mp m]; exact fun h => h.ne rfl⟩
  | y :: qs, q => by
    obtain ⟨a, b⟩ := minP_ok qs (if ltP y q then y else q)
    have e : minP q (y :: qs) = minP (if ltP y q then y else q) qs := rfl
    rw [e]
    have tr : ∀ {x y z : Int × Int}, ¬ ltP x y → ¬ ltP y z → ¬ ltP x z := fun {x y z} h1 h2 h3 => by
      unfold ltP at *
      omega
    refine ⟨?_, fun x m => ?_⟩
    · rcases List.mem_cons.mp a with a | a
      · rw [a]
        split
        · exact List.mem_cons_of_mem _ List.mem_cons_self
        · exact List.mem_cons_self
      · exact List.mem_cons_of_mem _ (List.mem_cons_of_mem _ a)
    · have b0 := b _ List.mem_cons_self
      rcases List.mem_cons.mp m with rfl | m
      · refine tr ?_ b0
        split
        · rename_i l
          intro h
          exact (h.trans l).ne rfl
        · exact fun h => h.ne rfl
      · rcases List.mem_cons.mp m with rfl | m
        · refine tr ?_ b0
          split
          · exact fun h => h.ne rfl
          · assumption
        · exact b x (List.mem_cons_of_mem _ m)
theorem minD_pl : ∀ (qs : List (Int × Int)) (q : Int × Int), PySem.W.minD (dPl q) (qs.map dPl) = dPl (minP q qs)
  | [], q => rfl
  | y :: qs, q => by
    have e : PySem.W.minD (dPl q) ((y :: qs).map dPl) = PySem.W.minD (if dataLt (dPl y) (dPl q) then dPl y else dPl q) (qs.map dPl) := rfl
    have e2 : (if dataLt (dPl y) (dPl q) then dPl y else dPl q) = dPl (if ltP y q then y else q) := by
      have e3 : dataLt (dPl y) (dPl q) = decide (ltP y q) := dataLt_ii _ _ _ _
      rw [e3]
      by_cases z : ltP y q <;> simp [z]
    rw [e, e2, minD_pl qs]
    rfl
def rMinPl (K : PySem.W.Frag) : List V → Hp → VK → Prop := fun vs H Q => ∃ (a : Addr) (ys : List Addr) (q : Int × Int) (qs : List (Int × Int)), vs = [.ref a] ∧ SqL K H a (ys.map V.ref) ∧ Paired (PlR H) ys (q :: qs) ∧ ∀ y, H y = some (.tup [.int (minP q qs).1, .int (minP q qs).2]) → Q (.ref y) H
section
variable {X : Cx}
theorem cr_minPl (hc : X.calm = true) (hu : X.A.units + 64 < cLine) : CallR X (.builtin "min") (rMinPl X.K) := by
  intro pins s σ H vs us Q I r h
  obtain ⟨a, ys, q, qs, rfl, hs, hp, k⟩ := h
  obtain ⟨its, rv, hl, _⟩ := I.list hs
  rw [Vals.ref1 r]
  have D := plDa (K := X.K) hp
  obtain ⟨as, hr⟩ := Dp.readsAll I _ _ _ D.dp rv
  have hal : ∀ p p' : Int × Int, alike (dPl p) (dPl p') = true := fun p p' => by
    unfold dPl
    exact alike_ints [p.1, p.2] [p'.1, p'.2]
  have hd : PyData.depthAll ((q :: qs).map dPl) ≤ 1 := D.dep
  refine PySem.W.min_list_data (x := dPl q) (xs := qs.map dPl) (I.ok.hd hc) hl.isList (by simpa using hr) ⟨fun x mx y my => ?_, fun x mx => ?_⟩ (by have hd2 : PyData.depthAll (dPl q :: qs.map dPl) ≤ 1 := hd; omega) fun i v h' tk bs hv hrd hk => ?_
  · obtain ⟨p, _, rfl⟩ := List.mem_map.mp (show x ∈ (q :: qs).map dPl from mx)
    obtain ⟨p', _, rfl⟩ := List.mem_map.mp (show y ∈ (q :: qs).map dPl from my)
    exact hal p p'
  · obtain ⟨p, _, rfl⟩ := List.mem_map.mp (show x ∈ (q :: qs).map dPl from mx)
    exact fun z => nomatch z
  · have hv' : its[i]? = some v := by simpa using hv
    have li : i < ys.length := by
      have e1 := rv.length
      rw [List.length_map] at e1
      rw [e1]
      exact (List.getElem?_eq_some_iff.mp hv').1
    have lq : i < (q :: qs).length := by rw [← hp.length]; exact li
    have hy : ys[i]? = some ys[i] := List.getElem?_eq_getElem li
    have hq : (q :: qs)[i]? = some (q :: qs)[i] := List.getElem?_eq_getElem lq
    have hpl := paired_get hp hy hq
    obtain ⟨u, hu1, hu2⟩ := Vals.get rv (show (ys.map V.ref)[i]? = some (.ref ys[i]) by rw [List.getElem?_map, hy]; rfl)
    rw [hv'] at hu1
    cases hu1
    generalize (q :: qs)[i] = p at hpl
    generalize ys[i] = y at hpl hu2
    have d1 : Da X.K H (.ref y) (dPl p) 1 := .tup (.cons .int (.cons .int .nil)) (SqT.of hpl)
    obtain ⟨bs1, r1⟩ := Dp.reads I _ _ _ d1.dp hu2
    rw [minD_pl] at hrd
    have e := alike_unique _ _ _ _ _ (hal p (minP q qs)) (reads_keeps hk r1) hrd
    have e2 : p = minP q qs := by
      injection e with e
      injection e with e1 e
      injection e with e2 _
      injection e1 with e1
      injection e2 with e2
      exact Prod.ext e1 e2
    rw [← e2] at k
    exact ⟨.ref y, H, I.kept hk, hu2, k y hpl⟩
end
theorem room65 {k : Nat} {A : Around} (r : Room k A) : A.units + 65 < cLine := by
  have := r.un
  omega
theorem in_places {q : Int × Int} {es : Bk} : (((es.map (·.1)).map dPl).any fun z => PyData.eqv z (dPl q)) = (getE q es).isSome := by
  induction es with
  | nil => rfl
  | cons e es ih =>
    rw [List.map_cons, List.map_cons, List.any_cons, ih, dPl_eqv]
    unfold getE
    rw [List.find?_cons]
    by_cases z : e.1 = q
    · simp [z]
    · simp [z]
theorem inPl {K : PySem.W.Frag} {H : Hp} {t O : Addr} {q : Int × Int} {es : Bk} {ys : List Addr} {Q : VK} (ht : PlR H t q) (hO : H O = some (.lst (ys.map V.ref))) (hy : Paired (PlR H) ys (es.map (·.1))) (k : Q (.bl (getE q es).isSome) H) : rInD K (.ref t) (.ref O) H Q := by
  have A : Da K H (.ref t) (dPl q) 1 := .tup (.cons .int (.cons .int .nil)) (SqT.of ht)
  have B : Da K H (.ref O) (.list ((es.map (·.1)).map dPl)) 2 := .lst (plDa hy) (SqL.of hO)
  refine ⟨_, _, A.dp, B.dp, A.shaped, B.shaped, ?_⟩
  rw [in_places]
  exact k
/-! ### joined books -/
def Fit (l : Bk) : Prop := ∀ a ∈ l, ∀ b ∈ l, a.1 = b.1 → a = b
abbrev insL (es l : Bk) : Bk := l.foldl (fun es r => insE r.1 r.2 es) es
theorem insL_ok : ∀ (l es : Bk), Asc es → Fit (es ++ l) → Asc (insL es l) ∧ ∀ e, e ∈ insL es l ↔ e ∈ es ∨ e ∈ l
  | [], es, h, _ => ⟨h, fun e => by simp [insL]⟩
  | r :: l, es, h, f => by
    have m1 : ∀ e, e ∈ insE r.1 r.2 es ↔ e = r ∨ e ∈ es := fun e => by
      rw [mem_insE h e]
      constructor
      · rintro (m | ⟨m, _⟩)
        · exact .inl m
        · exact .inr m
      · rintro (m | m)
        · exact .inl m
        · by_cases z : e.1 = r.1
          · exact .inl (f e (List.mem_append_left _ m) r (List.mem_append_right _ List.mem_cons_self) z)
          · exact .inr ⟨m, z⟩
    obtain ⟨a, b⟩ := insL_ok l (insE r.1 r.2 es) (asc_insE h) (fun x mx y my => by
      have g : ∀ z, z ∈ insE r.1 r.2 es ++ l → z ∈ es ++ r :: l := fun z mz => by
        rcases List.mem_append.mp mz with mz | mz
        · rcases (m1 z).mp mz with rfl | mz
          · exact List.mem_append_right _ List.mem_cons_self
          · exact List.mem_append_left _ mz
        · exact List.mem_append_right _ (List.mem_cons_of_mem _ mz)
      exact f x (g x mx) y (g y my))
    refine ⟨a, fun e => ?_⟩
    show e ∈ insL (insE r.1 r.2 es) l ↔ _
    rw [b e, m1 e, List.mem_cons]
    constructor
    · rintro ((m | m) | m)
      · exact .inr (.inl m)
      · exact .inl m
      · exact .inr (.inr m)
    · rintro (m | m | m)
      · exact .inl (.inr m)
      · exact .inl (.inl m)
      · exact .inr m
theorem setAll_ok {l : Bk} (f : Fit l) : Asc (setAll l) ∧ ∀ e, e ∈ setAll l ↔ e ∈ l := by
  obtain ⟨a, b⟩ := insL_ok l [] List.Pairwise.nil (by rw [List.nil_append]; exact f)
  exact ⟨a, fun e => (b e).trans ⟨fun m => m.elim (fun z => by cases z) id, .inr⟩⟩
theorem asc_nodup {es : Bk} (h : Asc es) : es.Nodup := List.nodup_iff_pairwise_ne.mpr (h.imp fun l z => l.ne (by rw [z]))
theorem asc_ext {es fs : Bk} (h : Asc es) (k : Asc fs) (m : ∀ e, e ∈ es ↔ e ∈ fs) : es = fs := by
  refine List.Perm.eq_of_pairwise (le := fun a b => ¬ ltP b.1 a.1) (fun x y mx my g1 g2 => ?_) (h.imp fun l z => (l.trans z).ne rfl) (k.imp fun l z => (l.trans z).ne rfl) (nodup_perm (asc_nodup h) (asc_nodup k) m)
  refine asc_uniq h mx ((m y).mpr my) (Classical.byContradiction fun z => ?_)
  rcases Classical.em (ltP x.1 y.1) with c | c
  · exact g2 c
  · exact g1 (ltP_tri z c)
theorem asc_fit {es : Bk} (h : Asc es) : Fit es := fun _ ma _ mb q => asc_uniq h ma mb q
theorem setAll_asc {es : Bk} (h : Asc es) : setAll es = es := by
  obtain ⟨a, b⟩ := setAll_ok (asc_fit h)
  exact asc_ext a h b
theorem clash_no {es fs : Bk} (k : Asc fs) (h : clash1 es fs = none) {e f : (Int × Int) × Ent} (me : e ∈ es) (mf : f ∈ fs) (q : e.1 = f.1) : e = f := by
  unfold clash1 at h
  rw [Option.map_eq_none_iff, List.find?_eq_none] at h
  have h1 := h e me
  have hg : getE e.1 fs = some f.2 := (getE_mem k).mpr (by rw [q]; exact mf)
  unfold clashE at h1
  rw [hg] at h1
  have h2 : f.2 = e.2 := by
    refine Classical.byContradiction fun z => h1 (decide_eq_true z)
  exact Prod.ext q h2.symm
theorem clash_none {es fs : Bk} (k : Asc fs) (h : ∀ e ∈ es, ∀ f ∈ fs, e.1 = f.1 → e = f) : clash1 es fs = none := by
  unfold clash1
  rw [Option.map_eq_none_iff, List.find?_eq_none]
  intro e me
  unfold clashE
  cases hg : getE e.1 fs with
  | none => simp
  | some y =>
    have := h e me (e.1, y) ((getE_mem k).mp hg) rfl
    have e2 : y = e.2 := by rw [this]
    simp [e2]
theorem fit_join {es fs : Bk} (h : Asc es) (k : Asc fs) (c : clash1 es fs = none) : Fit (es ++ fs) := fun a ma b mb q => by
  rcases List.mem_append.mp ma with ma | ma <;> rcases List.mem_append.mp mb with mb | mb
  · exact asc_uniq h ma mb q
  · exact clash_no k c ma mb q
  · exact (clash_no k c mb ma q.symm).symm
  · exact asc_uniq k ma mb q
theorem clash_sym {es fs : Bk} (h : Asc es) (k : Asc fs) (c : clash1 es fs = none) : clash1 fs es = none := clash_none h fun _ me _ mf q => (clash_no k c mf me q.symm).symm
theorem clash_self {es : Bk} (h : Asc es) : clash1 es es = none := clash_none h fun _ me _ mf q => asc_uniq h me mf q
theorem clash_nil {es : Bk} : clash1 es [] = none := clash_none List.Pairwise.nil fun _ _ _ mf _ => by cases mf
theorem join_comm {es fs : Bk} (h : Asc es) (k : Asc fs) (c : clash1 es fs = none) : setAll (fs ++ es) = setAll (es ++ fs) := by
  obtain ⟨a1, b1⟩ := setAll_ok (fit_join h k c)
  obtain ⟨a2, b2⟩ := setAll_ok (fit_join k h (clash_sym h k c))
  refine asc_ext a2 a1 fun e => ?_
  rw [b1, b2, List.mem_append, List.mem_append]
  exact Or.comm
theorem join_self {es : Bk} (h : Asc es) : setAll (es ++ es) = es := by
  obtain ⟨a1, b1⟩ := setAll_ok (fit_join h h (clash_self h))
  refine asc_ext a1 h fun e => ?_
  rw [b1, List.mem_append]
  exact ⟨fun m => m.elim id id, .inl⟩
/-- one book's rows, then the other's that are not among them -/
theorem join_perm {es fs : Bk} (h : Asc es) (k : Asc fs) (c : clash1 es fs = none) : (setAll (es ++ fs)).Perm (es ++ fs.filter fun f => !decide (f ∈ es)) ∧ (es ++ fs.filter fun f => !decide (f ∈ es)).Pairwise fun a b => a.1 ≠ b.1 := by
  obtain ⟨a1, b1⟩ := setAll_ok (fit_join h k c)
  have w : (es ++ fs.filter fun f => !decide (f ∈ es)).Pairwise fun a b => a.1 ≠ b.1 := by
    refine List.pairwise_append.mpr ⟨h.imp fun l => l.ne, (k.filter _).imp fun l => l.ne, fun a ma b mb q => ?_⟩
    obtain ⟨mb, nb⟩ := List.mem_filter.mp mb
    have := clash_no k c ma mb q
    rw [this] at ma
    simp [ma] at nb
  refine ⟨nodup_perm (asc_nodup a1) (List.nodup_iff_pairwise_ne.mpr (w.imp fun n z => n (by rw [z]))) fun e => ?_, w⟩
  rw [b1, List.mem_append, List.mem_append, List.mem_filter]
  constructor
  · rintro (m | m)
    · exact .inl m
    · by_cases z : e ∈ es
      · exact .inl z
      · exact .inr ⟨m, by simp [z]⟩
  · rintro (m | ⟨m, _⟩)
    · exact .inl m
    · exact .inr m
theorem del_head {j : (Int × Int) × Ent} {js : Bk} (h : Asc (j :: js)) : delE j.1 (j :: js) = js := by
  obtain ⟨h1, h2⟩ := List.pairwise_cons.mp h
  unfold delE
  rw [List.filter_cons_of_neg (by simp)]
  exact List.filter_eq_self.mpr fun e m => decide_eq_true fun z => (h1 e m).ne z.symm
theorem len_new {p : Int × Int} {x : Ent} {es : Bk} (h : Asc es) (n : ∀ e ∈ es, e.1 ≠ p) : (insE p x es).length = es.length + 1 := by
  have := (insE_perm (p := p) (x := x) h).1.length_eq
  rw [this, List.length_append]
  have e : delE p es = es := List.filter_eq_self.mpr fun e m => decide_eq_true (n e m)
  rw [e]
  rfl
theorem dKep_eqv {e f : (Int × Int) × Ent} (h : EntOk e.2) (k : EntOk f.2) : PyData.eqv (dKep e) (dKep f) = decide (e = f) := by
  have : PyData.eqv (dKep e) (dKep f) = (PyData.eqv (dPl e.1) (dPl f.1) && (PyData.eqv (dEnt e.2) (dEnt f.2) && true)) := by
    simp [dKep, PyData.eqv, PyData.eqvAll]
  rw [this, dPl_eqv, dEnt_eqv h k, Bool.and_true]
  obtain ⟨a, b⟩ := e
  obtain ⟨c, d⟩ := f
  by_cases z1 : a = c <;> by_cases z2 : b = d <;> simp [z1, z2]
theorem in_kept {e : (Int × Int) × Ent} {es : Bk} (h : EntOk e.2) (k : ∀ f ∈ es, EntOk f.2) : ((es.map dKep).any fun z => PyData.eqv z (dKep e)) = decide (e ∈ es) := by
  induction es with
  | nil => rfl
  | cons f es ih =>
    rw [List.map_cons, List.any_cons, ih fun g m => k g (List.mem_cons_of_mem _ m), dKep_eqv (k f List.mem_cons_self) h]
    by_cases z : f = e
    · simp [z]
    · have z2 : ¬ e = f := fun q => z q.symm
      simp [z, z2]
/-! ### clashes, one after another -/
theorem pw_fit {l : Bk} (h : l.Pairwise fun a b => a.1 ≠ b.1) : Fit l := by
  induction l with
  | nil => intro a m; cases m
  | cons x l ih =>
    obtain ⟨h1, h2⟩ := List.pairwise_cons.mp h
    intro a ma b mb q
    rcases List.mem_cons.mp ma with ea | ma2
    · rcases List.mem_cons.mp mb with eb | mb2
      · rw [ea, eb]
      · exact absurd (by rw [← ea]; exact q) (h1 b mb2)
    · rcases List.mem_cons.mp mb with eb | mb2
      · exact absurd (by rw [← eb]; exact q.symm) (h1 a ma2)
      · exact ih h2 a ma2 b mb2 q
theorem getE_ins {p q : Int × Int} {x : Ent} {es : Bk} (h : Asc es) : getE q (insE p x es) = if q = p then some x else getE q es := by
  have a := asc_insE (p := p) (x := x) h
  by_cases z : q = p
  · rw [if_pos z, z]
    exact (getE_mem a).mpr ((mem_insE h _).mpr (.inl rfl))
  · rw [if_neg z]
    cases e : getE q es with
    | none =>
      refine getE_none.mpr fun f m => ?_
      rcases (mem_insE h f).mp m with rfl | ⟨m, _⟩
      · exact fun w => z w.symm
      · exact getE_none.mp e f m
    | some y => exact (getE_mem a).mpr ((mem_insE h _).mpr (.inr ⟨(getE_mem h).mp e, z⟩))
/-- rows behind which the other book clashes at just these places -/
structure Cl (es rs fs : Bk) (qs : List (Int × Int)) (i : Nat) : Prop where
  a : ∀ e ∈ rs.take i, clashE es fs e = true ↔ e.1 ∈ qs
  b : ∀ e ∈ rs.drop i, clashE es fs e = false
  c : ∀ q ∈ qs, ∃ e ∈ rs.take i, e.1 = q
theorem drop_at {rs : Bk} {i : Nat} {e : (Int × Int) × Ent} (h : rs[i]? = some e) : rs.drop i = e :: rs.drop (i + 1) ∧ rs.take (i + 1) = rs.take i ++ [e] := by
  obtain ⟨l, rfl⟩ := List.getElem?_eq_some_iff.mp h
  refine ⟨by rw [← List.getElem_cons_drop l], by rw [List.take_add_one, h]; rfl⟩
theorem pw_at {rs : Bk} {i : Nat} {e : (Int × Int) × Ent} (w : rs.Pairwise fun a b => a.1 ≠ b.1) (h : rs[i]? = some e) : (∀ f ∈ rs.take i, f.1 ≠ e.1) ∧ ∀ f ∈ rs.drop (i + 1), f.1 ≠ e.1 := by
  have e1 : rs = rs.take i ++ (e :: rs.drop (i + 1)) := by rw [← (drop_at h).1, List.take_append_drop]
  rw [e1] at w
  obtain ⟨_, w2, w3⟩ := List.pairwise_append.mp w
  exact ⟨fun f m => w3 f m e List.mem_cons_self, fun f m => ((List.pairwise_cons.mp w2).1 f m).symm⟩
theorem Cl.skip {es rs fs : Bk} {qs : List (Int × Int)} {i : Nat} {e : (Int × Int) × Ent} (C : Cl es rs fs qs i) (w : rs.Pairwise fun a b => a.1 ≠ b.1) (h : rs[i]? = some e) : Cl es rs fs qs (i + 1) := by
  obtain ⟨d, t⟩ := drop_at h
  obtain ⟨w1, w2⟩ := pw_at w h
  refine ⟨fun f m => ?_, fun f m => C.b f (by rw [d]; exact List.mem_cons_of_mem _ m), fun q m => let ⟨f, mf, r⟩ := C.c q m; ⟨f, by rw [t]; exact List.mem_append_left _ mf, r⟩⟩
  rw [t] at m
  rcases List.mem_append.mp m with m | m
  · exact C.a f m
  · rw [List.mem_singleton.mp m, C.b e (by rw [d]; exact List.mem_cons_self)]
    refine ⟨fun z => Bool.noConfusion z, fun z => ?_⟩
    obtain ⟨g, mg, r⟩ := C.c _ z
    exact absurd r (w1 g mg)
theorem Cl.set {es rs fs : Bk} {qs qs' : List (Int × Int)} {i : Nat} {e : (Int × Int) × Ent} {y : Ent} (C : Cl es rs fs qs i) (w : rs.Pairwise fun a b => a.1 ≠ b.1) (h : rs[i]? = some e) (k : Asc fs) (hq : qs' = if y = e.2 then qs else qs ++ [e.1]) : Cl es rs (insE e.1 y fs) qs' (i + 1) := by
  obtain ⟨d, t⟩ := drop_at h
  obtain ⟨w1, w2⟩ := pw_at w h
  have ot : ∀ f : (Int × Int) × Ent, f.1 ≠ e.1 → clashE es (insE e.1 y fs) f = clashE es fs f := fun f n => by
    unfold clashE
    rw [getE_ins k, if_neg n]
  have se : clashE es (insE e.1 y fs) e = decide (y ≠ e.2) := by
    unfold clashE
    rw [getE_ins k, if_pos rfl]
  have ne : e.1 ∉ qs := fun z => by
    obtain ⟨g, mg, r⟩ := C.c _ z
    exact absurd r (w1 g mg)
  have mq : ∀ q, q ≠ e.1 → (q ∈ qs' ↔ q ∈ qs) := fun q n => by
    rw [hq]
    split
    · exact Iff.rfl
    · rw [List.mem_append, List.mem_singleton]
      exact ⟨fun m => m.elim id fun z => absurd z n, .inl⟩
  refine ⟨fun f m => ?_, fun f m => ?_, fun q m => ?_⟩
  · rw [t] at m
    rcases List.mem_append.mp m with m | m
    · rw [ot f (w1 f m), mq _ (w1 f m)]
      exact C.a f m
    · rw [List.mem_singleton.mp m, se, hq]
      by_cases z : y = e.2
      · rw [if_pos z]
        simp [z, ne]
      · rw [if_neg z]
        simp [z]
  · rw [ot f (w2 f m)]
    exact C.b f (by rw [d]; exact List.mem_cons_of_mem _ m)
  · rw [t]
    by_cases z : q = e.1
    · exact ⟨e, List.mem_append_right _ List.mem_cons_self, z.symm⟩
    · obtain ⟨f, mf, r⟩ := C.c q ((mq q z).mp m)
      exact ⟨f, List.mem_append_left _ mf, r⟩
theorem clash_first {fs gs : Bk} {m : Int × Int} : ∀ {es : Bk}, Asc es → (∃ e ∈ es, e.1 = m ∧ clashE gs fs e = true) → (∀ e ∈ es, clashE gs fs e = true → ¬ ltP e.1 m) → (es.find? fun e => clashE gs fs e).map (·.1) = some m
  | [], _, ⟨e, me, _⟩, _ => by cases me
  | a :: r, h, ⟨e, me, q, c⟩, k => by
    obtain ⟨h1, h2⟩ := List.pairwise_cons.mp h
    rw [List.find?_cons]
    by_cases z : clashE gs fs a = true
    · rw [z]
      rcases List.mem_cons.mp me with rfl | me2
      · exact congrArg some q
      · exact absurd (by rw [← q]; exact h1 e me2) (k a List.mem_cons_self z)
    · have z2 : clashE gs fs a = false := by simpa using z
      rw [z2]
      rcases List.mem_cons.mp me with rfl | me2
      · exact absurd c z
      · exact clash_first h2 ⟨e, me2, q, c⟩ fun f m => k f (List.mem_cons_of_mem _ m)
theorem Cl.none {es rs fs : Bk} (C : Cl es rs fs [] rs.length) (m : ∀ e, e ∈ es ↔ e ∈ rs) : clash1 es fs = Option.none := by
  unfold clash1
  rw [Option.map_eq_none_iff, List.find?_eq_none]
  intro e me z
  have := (C.a e (by rw [List.take_length]; exact (m e).mp me)).mp z
  cases this
theorem Cl.some {es rs fs : Bk} {q : Int × Int} {qs : List (Int × Int)} (C : Cl es rs fs (q :: qs) rs.length) (m : ∀ e, e ∈ es ↔ e ∈ rs) (A1 : Asc es) (A2 : Asc fs) : clash1 es fs = Option.some (minP q qs) ∧ clash1 fs es = Option.some (minP q qs) := by
  obtain ⟨m1, m2⟩ := minP_ok qs q
  have ca : ∀ e ∈ es, clashE es fs e = true ↔ e.1 ∈ q :: qs := fun e me => C.a e (by rw [List.take_length]; exact (m e).mp me)
  obtain ⟨e, me, r⟩ := C.c _ m1
  rw [List.take_length] at me
  have me := (m e).mpr me
  have ce : clashE es fs e = true := (ca e me).mpr (by rw [r]; exact m1)
  refine ⟨clash_first A1 ⟨e, me, r, ce⟩ fun f mf c => m2 _ ((ca f mf).mp c), ?_⟩
  have sw : ∀ {as bs : Bk}, Asc as → Asc bs → ∀ a ∈ as, clashE as bs a = true → ∃ b ∈ bs, b.1 = a.1 ∧ clashE bs as b = true := fun {as bs} ha hb a mem c => by
    unfold clashE at c
    cases hg : getE a.1 bs with
    | none => rw [hg] at c; cases c
    | some y =>
      rw [hg] at c
      have c : y ≠ a.2 := of_decide_eq_true c
      refine ⟨(a.1, y), (getE_mem hb).mp hg, rfl, ?_⟩
      unfold clashE
      rw [(getE_mem ha).mpr mem]
      exact decide_eq_true fun z => c z.symm
  obtain ⟨b, mb, rb, cb⟩ := sw A1 A2 e me ce
  refine clash_first A2 ⟨b, mb, rb.trans r, cb⟩ fun f mf c => ?_
  obtain ⟨g, mg, rg, cg⟩ := sw A2 A1 f mf c
  rw [← rg]
  exact m2 _ ((ca g mg).mp cg)
end Lo

set_option Elab.async false
set_option linter.all false
set_option maxRecDepth 100000
set_option maxHeartbeats 4000000
/-! LoB14: comparisons of names, what they tell. -/
namespace Lo
open PySem PySem.Spec PyProof.Rows L2
abbrev Prs := List (Str × Str)
/-- b stands above a, or is a -/
inductive Rch (ps : Prs) (a : Str) : Str → Prop
  | refl : Rch ps a a
  | step {x y : Str} : Rch ps a x → (x, y) ∈ ps → Rch ps a y
theorem nd_len {α : Type} [DecidableEq α] : ∀ (l D : List α), l.Nodup → (∀ x ∈ l, x ∈ D) → l.length ≤ D.length := by
  intro l
  induction l with
  | nil => exact fun D _ _ => Nat.zero_le _
  | cons x l ih =>
    intro D hn hs
    obtain ⟨n1, n2⟩ := List.nodup_cons.mp hn
    have mx := hs x List.mem_cons_self
    have := ih (D.erase x) n2 fun y my => (List.mem_erase_of_ne fun (e : y = x) => n1 (by rw [← e]; exact my)).mpr (hs y (List.mem_cons_of_mem _ my))
    have e := List.length_erase_of_mem mx
    have p := List.length_pos_of_mem mx
    rw [List.length_cons]
    omega
/-- found names: all told, no name twice, the ways from the first k of them walked -/
structure Fnd (ps : Prs) (a : Str) (k : Nat) (fs : List Str) : Prop where
  hd : a ∈ fs
  nd : fs.Nodup
  rc : ∀ x ∈ fs, Rch ps a x
  cl : ∀ x ∈ fs.take k, ∀ y, (x, y) ∈ ps → y ∈ fs
theorem rch_in {ps : Prs} {a : Str} : ∀ {b : Str}, Rch ps a b → b = a ∨ b ∈ ps.map (·.2)
  | _, .refl => .inl rfl
  | _, .step _ m => .inr (List.mem_map.mpr ⟨_, m, rfl⟩)
theorem Fnd.len {ps : Prs} {a : Str} {k : Nat} {fs : List Str} (h : Fnd ps a k fs) : fs.length ≤ ps.length + 1 := by
  have := nd_len fs (a :: ps.map (·.2)) h.nd fun x m => by
    rcases rch_in (h.rc x m) with rfl | m
    · exact List.mem_cons_self
    · exact List.mem_cons_of_mem _ m
  rw [List.length_cons, List.length_map] at this
  exact this
theorem Fnd.all {ps : Prs} {a : Str} {fs : List Str} (h : Fnd ps a fs.length fs) (b : Str) : b ∈ fs ↔ Rch ps a b := by
  refine ⟨h.rc b, fun r => ?_⟩
  induction r with
  | refl => exact h.hd
  | step _ m ih => exact h.cl _ (by rw [List.take_length]; exact ih) _ m
/-- within a walk: the pairs so far are seen to -/
structure FndW (ps : Prs) (a : Str) (k i : Nat) (x : Str) (fs : List Str) : Prop where
  f : Fnd ps a k fs
  at_ : fs[k]? = some x
  cw : ∀ p ∈ ps.take i, p.1 = x → p.2 ∈ fs
theorem FndW.start {ps : Prs} {a : Str} {k : Nat} {x : Str} {fs : List Str} (f : Fnd ps a k fs) (h : fs[k]? = some x) : FndW ps a k 0 x fs := ⟨f, h, fun p m => by cases m⟩
theorem FndW.skip {ps : Prs} {a : Str} {k i : Nat} {x : Str} {fs : List Str} {p : Str × Str} (h : FndW ps a k i x fs) (hp : ps[i]? = some p) (n : p.1 = x → p.2 ∈ fs) : FndW ps a k (i + 1) x fs := by
  refine ⟨h.f, h.at_, fun q m => ?_⟩
  rw [List.take_add_one, hp] at m
  rcases List.mem_append.mp m with m | m
  · exact h.cw q m
  · have : q = p := by simpa using m
    rw [this]
    exact n
theorem FndW.add {ps : Prs} {a : Str} {k i : Nat} {x : Str} {fs : List Str} {p : Str × Str} (h : FndW ps a k i x fs) (hp : ps[i]? = some p) (e : p.1 = x) (n : p.2 ∉ fs) : FndW ps a k (i + 1) x (fs ++ [p.2]) := by
  obtain ⟨f, at_, cw⟩ := h
  have lk : k < fs.length := (List.getElem?_eq_some_iff.mp at_).1
  have mp : (p.1, p.2) ∈ ps := List.mem_of_getElem? hp
  refine ⟨⟨List.mem_append_left _ f.hd, ?_, fun y m => ?_, fun y m z mz => ?_⟩, by rw [List.getElem?_append_left lk]; exact at_, fun q m => ?_⟩
  · rw [List.nodup_append]
    refine ⟨f.nd, by simp, fun y my z mz w => ?_⟩
    rw [List.mem_singleton.mp mz] at w
    rw [w] at my
    exact n my
  · rcases List.mem_append.mp m with m | m
    · exact f.rc y m
    · rw [List.mem_singleton.mp m]
      exact .step (f.rc x (List.mem_of_getElem? at_)) (by rw [← e]; exact mp)
  · rw [List.take_append_of_le_length (Nat.le_of_lt lk)] at m
    exact List.mem_append_left _ (f.cl y m z mz)
  · intro eq
    rw [List.take_add_one, hp] at m
    rcases List.mem_append.mp m with m | m
    · exact List.mem_append_left _ (cw q m eq)
    · have : q = p := by simpa using m
      rw [this]
      exact List.mem_append_right _ List.mem_cons_self
theorem FndW.done {ps : Prs} {a : Str} {k : Nat} {x : Str} {fs : List Str} (h : FndW ps a k ps.length x fs) : Fnd ps a (k + 1) fs := by
  refine ⟨h.f.hd, h.f.nd, h.f.rc, fun y m z mz => ?_⟩
  rw [List.take_add_one, h.at_] at m
  rcases List.mem_append.mp m with m | m
  · exact h.f.cl y m z mz
  · have : y = x := by simpa using m
    exact h.cw (y, z) (by rw [List.take_length]; exact mz) this
/-- a pair of names as a tuple -/
def PrR (H : Hp) (v : V) (p : Str × Str) : Prop := ∃ t, v = .ref t ∧ H t = some (.tup [.str p.1, .str p.2])
theorem PrR.same {H H' : Hp} {v : V} {p : Str × Str} (h : PrR H v p) (s : Same H H') : PrR H' v p := let ⟨t, e, q⟩ := h; ⟨t, e, s _ _ q⟩
theorem PrR.keep {H H' : Hp} {v : V} {p : Str × Str} {c : Addr} {u : HO} (h : PrR H v p) (e : H c = some u) (n : ∀ xs, u ≠ .tup xs) (k : Keep c H H') : PrR H' v p := let ⟨t, x, q⟩ := h; ⟨t, x, k _ _ q (ne_of q e fun z => n _ z.symm)⟩
/-- the pairs but the k-th -/
def without (ps : Prs) (k : Nat) : Prs := ps.take k ++ ps.drop (k + 1)
/-- the k-th pair follows from the others -/
def Extra (ps : Prs) (k : Nat) : Prop := ∃ p, ps[k]? = some p ∧ Rch (without ps k) p.1 p.2
open Classical in
noncomputable def extras (ps : Prs) (n : Nat) : List Nat := (List.range n).filter fun k => decide (Extra ps k)
theorem extras_succ {ps : Prs} {n : Nat} {b : Bool} (h : b = true ↔ Extra ps n) : extras ps (n + 1) = extras ps n ++ (if b = true then [n] else []) := by
  unfold extras
  rw [List.range_succ, List.filter_append]
  congr 1
  by_cases z : Extra ps n
  · rw [if_pos (h.mpr z)]
    simp [z]
  · rw [if_neg fun y => z (h.mp y)]
    simp [z]
theorem extras_len {ps : Prs} {n : Nat} : (extras ps n).length ≤ n := by
  unfold extras
  refine Nat.le_trans (List.length_filter_le _ _) ?_
  rw [List.length_range]
  exact Nat.le_refl _
open Classical in
/-- the names that stand as high as n -/
noncomputable def grp (ps : Prs) (zs : List Str) (n : Str) : List Str := zs.filter fun o => decide (Rch ps n o ∧ Rch ps o n)
noncomputable def grps (ps : Prs) (zs : List Str) (ns : List Str) : List (List Str) := ns.filterMap fun n => if 1 < (grp ps zs n).length ∧ (grp ps zs n).head? = some n then some (grp ps zs n) else none
theorem grp_snoc {ps : Prs} {zs : List Str} {n o : Str} {b : Bool} (h : b = true ↔ (Rch ps n o ∧ Rch ps o n)) : grp ps (zs ++ [o]) n = grp ps zs n ++ (if b = true then [o] else []) := by
  unfold grp
  rw [List.filter_append]
  congr 1
  by_cases z : Rch ps n o ∧ Rch ps o n
  · rw [if_pos (h.mpr z)]
    simp [z]
  · rw [if_neg fun y => z (h.mp y)]
    simp [z]
end Lo

set_option Elab.async false
set_option linter.all false
set_option maxRecDepth 100000
set_option maxHeartbeats 4000000
/-! LoB15: {word for .. in .. for .. in ..}; d.update(d2). -/
namespace Lo
open PySem PySem.Spec PyProof.Rows L2
theorem setQ_fresh {h : Heap} (P : Program) (w : World) : SetQ (strKind P w) (h.push { cls := .type "set", dict := none, data := .set #[] 0 (.fresh 0 0 (!w.params.followText "set-order")) }) h.objs.size (fun j => decide (j ∈ ([] : List Str))) 0 := by
  refine ⟨_, _, _, _, Heap.get?_push_size _ rfl, ⟨rfl, rfl, rfl⟩, rfl, fun e m => absurd m (by simp), List.Pairwise.nil, fun k => by simp, by show 0 < scanBound; decide, rfl, rfl, List.Pairwise.nil, ?_⟩
  show w.params.followText "set-order" = true ∨ (!w.params.followText "set-order") = true
  cases w.params.followText "set-order"
  · exact .inr rfl
  · exact .inl rfl
section
variable {P : Program} {w : World} {K : Type} [DecidableEq K] {knd : KeyKind P w K}
theorem call_addQ {A : Around} {E : Value → Shared → Prop} {s : Shared} {a : Addr} {k : K} {key : Value} {S : K → Bool} {n : Nat} {Q : Value → Shared → Prop} (hkey : knd.is k key = true) (hsc : key.scannable = true) (hS : SetQ knd s.heap a S n) (hroom : n + 1 < scanBound)
    (h : ∀ h', Heap.SameBut a s.heap h' → SetQ knd h' a (fun j => S j || decide (j = k)) (if S k = true then n else n + 1) → Q .none { s with heap := h', toks := s.toks + 1 }) :
    wpAny (model P w) A (call (.builtin "set.add") [.ref a, key]) Q E s := by
  have hT : s.TypeIs (.ref a) "set" := let ⟨o, _, _, _, ho, hex, _⟩ := hS; ⟨o, ho, hex.1⟩
  refine wpAny_call_entry F.slot_set_add hT F.entry_set_add ?_ (F.args_set_add_2 _ _)
  unfold Builtin.«set.add» Builtin.Frozenset.oneOther
  simp only [List.isEmpty_nil, bind_assoc]
  unfold Builtin.Frozenset.addrOf setAdd
  refine wpAny_bind (wpAny_pure ?_)
  try dsimp only
  refine wpAny_bind (wpAny_pure ?_)
  try dsimp only
  refine wpAny_bind ?_
  refine wpAny_holding ?_
  refine wpAny_bind (knd.pyHash hkey ?_)
  refine setQ_add (s := { s with toks := s.toks + 1 }) hS hroom hkey hsc fun h' hsb hS' => ?_
  show wpAny _ _ (ret Value.none) _ _ _
  exact wpAny_pure ⟨_, rfl, h h' hsb hS'⟩
end
theorem addQ_ok {X : Cx} {pins : List (Addr × Obj)} {σ : L2.St} {H : Hp} {s : Shared} {E : Value → Shared → Prop} {D : Addr} {zs : List Str} {z : Str} {u : Value} {Q : Value → Shared → Prop} (I : Inv X pins σ H s) (hD : H D = some (SetQO X.prog X.w D zs)) (room : zs.length < 1000) (r : RelV (.str z) u)
    (h : ∀ s', Inv X pins σ (upd H D (SetQO X.prog X.w D (zs ++ [z]))) s' → Q .none s') : wpAny (model X.prog X.w) X.A (call (.builtin "set.add") [.ref D, u]) Q E s := by
  have q := I.hok D _ hD
  unfold SetQO at q
  rw [ObjOk.eq_13] at q
  obtain ⟨c, hc, q⟩ := q.1
  obtain ⟨t, rfl⟩ := r
  have e99 : 1002 < scanBound := by decide
  refine call_addQ (knd := strKind X.prog X.w) (k := z) (beq_self_eq_true _) rfl q (by omega) fun h' sb new => ?_
  have hx : ∃ u, h'.get? D = some u := let ⟨o, _, _, _, ho, _⟩ := new; ⟨o, ho⟩
  refine h _ (I.write (e := D) (t' := s.toks + 1) (by rw [hD]; trivial) (.inl rfl) (fun b u hb hu => (sb.2 b hb).trans hu) hx (setQO_ok (c := if decide (z ∈ zs) = true then c else c + 1) ?_ (new.congr ?_)))
  · rw [List.length_append]
    split
    · exact Nat.le_succ_of_le hc
    · exact Nat.succ_le_succ hc
  · funext j
    by_cases h1 : j ∈ zs <;> by_cases h2 : j = z <;> simp [h1, h2]
theorem scTurn_o (el t0 i0 t1 i1 : Expr) (ifs0 ifs1 : List Expr) (scp : Scope) (pos : Pos) (it acc : Value) (env : Env) :
    compTurn (.SetComp el [⟨t0, i0, ifs0, 0⟩, ⟨t1, i1, ifs1, 0⟩] scp pos) 0 it acc env = (do
      standAt i0.pos
      match ← pyNext it with
      | none => pure (.done .next)
      | some v =>
        letOwnedTupleGo t0 it v
        assign t0 env v
        let mut ok := true
        for c in ifs0 do
          if ok then ok ← isTrue c env (eval c env)
        if ok then
          let x ← eval i1 env
          standAt i1.pos
          let x ← foldedSetIterable i1 env x
          let _ ← runOwn (.compStart (.SetComp el [⟨t0, i0, ifs0, 0⟩, ⟨t1, i1, ifs1, 0⟩] scp pos) 1 (← holding [x] (pyIter x)) acc env) env
        again (.compLoop (.SetComp el [⟨t0, i0, ifs0, 0⟩, ⟨t1, i1, ifs1, 0⟩] scp pos) 0 it acc env)) := by rfl
theorem scTurn_i (el t0 i0 t1 i1 : Expr) (ifs0 ifs1 : List Expr) (scp : Scope) (pos : Pos) (it acc : Value) (env : Env) :
    compTurn (.SetComp el [⟨t0, i0, ifs0, 0⟩, ⟨t1, i1, ifs1, 0⟩] scp pos) 1 it acc env = (do
      standAt i1.pos
      match ← pyNext it with
      | none => pure (.done .next)
      | some v =>
        letOwnedTupleGo t1 it v
        assign t1 env v
        let mut ok := true
        for c in ifs1 do
          if ok then ok ← isTrue c env (eval c env)
        if ok then
          (do let v ← eval el env; standAt el.pos; let _ ← call (.builtin "set.add") [acc, v])
        again (.compLoop (.SetComp el [⟨t0, i0, ifs0, 0⟩, ⟨t1, i1, ifs1, 0⟩] scp pos) 1 it acc env)) := by rfl

section
variable {prog : Program} {w : World} {A : Around} {R : Result → Shared → Prop} {s : Shared} {el t0 i0 t1 i1 : Expr} {ifs0 ifs1 : List Expr} {scp : Scope} {pos : Pos} {it acc : Value} {env : Env}
/-- the lpO of the first clause -/
theorem scLoop_o (hs : ∀ x, foldedSetIterable i1 env x = pure x) (I : Nat → Shared → Prop)
    (turn : ∀ n s, I n s → wpAny (model prog w) A (pyNext it) (fun r r₁ => match r with
      | none => R (.ok .next) r₁
      | some v => wpAny (model prog w) A (letOwnedTupleGo t0 it v) (fun _ s₁' => wpAny (model prog w) A (assign t0 env v) (fun _ r₂ =>
          wpAny (model prog w) A (forIn ifs0 true fun c r => if r = true then do let ok ← isTrue c env (eval c env); pure (ForInStep.yield ok) else pure (ForInStep.yield r)) (fun ok r₃ =>
            if ok = true then wpAny (model prog w) A (eval i1 env) (fun x r₄ => wpAny (model prog w) A (pyIter x) (fun itI r₅ =>
              codeAny (model prog w) A (.compStart (.SetComp el [⟨t0, i0, ifs0, 0⟩, ⟨t1, i1, ifs1, 0⟩] scp pos) 1 itI acc env) (fun r s' => match r with
                | .ok _ => ∃ m, m < n ∧ I m s'
                | .error _ => False) r₅) (notedBy (model prog w) A env fun e s' => R (.error e) s') r₄) (notedBy (model prog w) A env fun e s' => R (.error e) s') r₃
            else ∃ m, m < n ∧ I m r₃) (notedBy (model prog w) A env fun e s' => R (.error e) s') r₂) (notedBy (model prog w) A env fun e s' => R (.error e) s') s₁') (notedBy (model prog w) A env fun e s' => R (.error e) s') r₁) (notedBy (model prog w) A env fun e s' => R (.error e) s') s)
    (n : Nat) (h : I n s) :
    codeAny (model prog w) A (.compLoop (.SetComp el [⟨t0, i0, ifs0, 0⟩, ⟨t1, i1, ifs1, 0⟩] scp pos) 0 it acc env) R s := by
  refine codeAny_loop rfl I (fun n s hI => ?_) n h
  show wpAny _ A ((compTurn (.SetComp el [⟨t0, i0, ifs0, 0⟩, ⟨t1, i1, ifs1, 0⟩] scp pos) 0 it acc env).onRaise (fun x => do noteFrame x env; theTreesLotGoes x)) _ _ s
  refine wpAny_noted ?_
  rw [scTurn_o]
  refine wpAny_bind (wpAny_standAt (wpAny_bind (wpAny_mono (turn n s hI) (fun r r₁ u₁ => ?_) fun _ _ h' => h')))
  cases r with
  | none => exact wpAny_pure u₁
  | some v =>
    refine wpAny_bind (wpAny_mono u₁ (fun _ s₁' h₁' => ?_) fun _ _ h' => h')
    refine wpAny_bind (wpAny_mono h₁' (fun _ r₂ h₂ => wpAny_bind (wpAny_mono h₂ (fun ok r₃ u₃ => ?_) fun _ _ h' => h')) fun _ _ h' => h')
    cases ok with
    | false => exact wpAny_pure ⟨rfl, u₃⟩
    | true =>
      refine wpAny_bind (wpAny_mono u₃ (fun x r₄ u₄ => ?_) fun _ _ h' => h')
      refine wpAny_bind (wpAny_standAt (wpAny_bind (wpAny_of_eq (hs x) (wpAny_bind (wpAny_holding (wpAny_mono u₄ (fun itI r₅ u₅ => ?_) fun _ _ h' => h'))))))
      refine wpAny_bind (wpAny_runOwn ?_)
      rw [Around.mark_none]
      refine codeAny_mono u₅ fun r s' hRr => ?_
      cases r with
      | ok f =>
        first
          | exact wpAny_pure ⟨rfl, hRr⟩
          | exact wpAny_bind (wpAny_pure (wpAny_pure ⟨rfl, hRr⟩))
      | error e => exact hRr.elim
/-- the lpO of the second -/
theorem scLoop_i (I : Nat → Shared → Prop)
    (turn : ∀ n s, I n s → wpAny (model prog w) A (pyNext it) (fun r r₁ => match r with
      | none => R (.ok .next) r₁
      | some v => wpAny (model prog w) A (letOwnedTupleGo t1 it v) (fun _ s₁' => wpAny (model prog w) A (assign t1 env v) (fun _ r₂ =>
          wpAny (model prog w) A (forIn ifs1 true fun c r => if r = true then do let ok ← isTrue c env (eval c env); pure (ForInStep.yield ok) else pure (ForInStep.yield r)) (fun ok r₃ =>
            if ok = true then wpAny (model prog w) A (eval el env) (fun x r₄ =>
              wpAny (model prog w) A (call (.builtin "set.add") [acc, x]) (fun _ r₅ => ∃ m, m < n ∧ I m r₅) (notedBy (model prog w) A env fun e s' => R (.error e) s') r₄) (notedBy (model prog w) A env fun e s' => R (.error e) s') r₃
            else ∃ m, m < n ∧ I m r₃) (notedBy (model prog w) A env fun e s' => R (.error e) s') r₂) (notedBy (model prog w) A env fun e s' => R (.error e) s') s₁') (notedBy (model prog w) A env fun e s' => R (.error e) s') r₁) (notedBy (model prog w) A env fun e s' => R (.error e) s') s)
    (n : Nat) (h : I n s) :
    codeAny (model prog w) A (.compLoop (.SetComp el [⟨t0, i0, ifs0, 0⟩, ⟨t1, i1, ifs1, 0⟩] scp pos) 1 it acc env) R s := by
  refine codeAny_loop rfl I (fun n s hI => ?_) n h
  show wpAny _ A ((compTurn (.SetComp el [⟨t0, i0, ifs0, 0⟩, ⟨t1, i1, ifs1, 0⟩] scp pos) 1 it acc env).onRaise (fun x => do noteFrame x env; theTreesLotGoes x)) _ _ s
  refine wpAny_noted ?_
  rw [scTurn_i]
  refine wpAny_bind (wpAny_standAt (wpAny_bind (wpAny_mono (turn n s hI) (fun r r₁ u₁ => ?_) fun _ _ h' => h')))
  cases r with
  | none => exact wpAny_pure u₁
  | some v =>
    refine wpAny_bind (wpAny_mono u₁ (fun _ s₁' h₁' => ?_) fun _ _ h' => h')
    refine wpAny_bind (wpAny_mono h₁' (fun _ r₂ h₂ => wpAny_bind (wpAny_mono h₂ (fun ok r₃ u₃ => ?_) fun _ _ h' => h')) fun _ _ h' => h')
    cases ok with
    | false => exact wpAny_pure ⟨rfl, u₃⟩
    | true =>
      exact wpAny_bind (wpAny_bind (wpAny_mono u₃ (fun x r₄ u₄ => wpAny_bind (wpAny_standAt (wpAny_bind (wpAny_mono u₄ (fun _ r₅ u₅ => wpAny_pure (wpAny_pure ⟨rfl, u₅⟩)) fun _ _ h' => h')))) fun _ _ h' => h'))
/-- the second clause's start -/
theorem scStart1 (h0 : codeAny (model prog w) A (.compLoop (.SetComp el [⟨t0, i0, ifs0, 0⟩, ⟨t1, i1, ifs1, 0⟩] scp pos) 1 it acc env) R s)
    (h : wpAny (model prog w) A (pyIter it) (fun it' s' => codeAny (model prog w) A (.compLoop (.SetComp el [⟨t0, i0, ifs0, 0⟩, ⟨t1, i1, ifs1, 0⟩] scp pos) 1 it' acc env) R s')
      (notedBy (model prog w) A env fun x s' => R (.error x) s') s) :
    codeAny (model prog w) A (.compStart (.SetComp el [⟨t0, i0, ifs0, 0⟩, ⟨t1, i1, ifs1, 0⟩] scp pos) 1 it acc env) R s := by
  refine codeAny_of_tree ?_
  show wpAny _ _ ((compStart (.SetComp el [⟨t0, i0, ifs0, 0⟩, ⟨t1, i1, ifs1, 0⟩] scp pos) 1 it acc env).onRaise (fun x => do noteFrame x env; standAt theWindowsPlace)) _ _ s
  refine wpAny_notedAt ?_
  unfold compStart
  show wpAny _ _ (ask >>= _) _ _ s
  refine wpAny_bind (wpAny_askSetting (wpAny_ite ?_))
  split
  · first
      | exact wpAny_bind (wpAny_pure (wpAny_pure (And.intro rfl h0)))
      | exact wpAny_pure (And.intro rfl h0)
  · first
      | exact wpAny_bind (wpAny_rule (wpAny_bind (wpAny_standAt (wpAny_bind (wpAny_mono h (fun it' s' h' => wpAny_pure (And.intro rfl h')) fun _ _ x => x)))))
      | (refine wpAny_bind (wpAny_rule ?_); show wpAny _ _ (standAt i1.pos >>= _) _ _ s; exact wpAny_bind (wpAny_standAt (wpAny_bind (wpAny_mono h (fun it' s' h' => wpAny_pure (And.intro rfl h')) fun _ _ x => x))))
end

/-- {el for tg in iter if .. for tg1 in iter1 if ..}, el a word -/
def tSc2 (P : Program) (w : World) (wi : TI) (g : TG) (tt : TT) (wi1 : TI) (g1 : TG) (tt1 : TT) (te : TE) (vs vs1 : List Nat) : TE := fun σ H Q => wi σ H fun J H1 => ∀ D, H1 D = none → ∃ W : Nat → Nat → Hp → Prop, (∃ m, W 0 m (upd H1 D (SetQO P w D []))) ∧ ∀ i m H, W i m H →
  (J.stop i H ∧ Q (.ref D) H) ∨ (J.go i H ∧ ∃ Nx : Hp → Prop, (∀ H', Nx H' → ∃ m', m' < m ∧ W (i + 1) m' H') ∧ ∀ x H', J.yld i H x H' → g x (wipe σ vs) H' fun σ2 G2 => wipe σ2 vs = wipe σ vs ∧ tt σ2 G2 fun b G3 =>
    if b = true then wi1 σ2 G3 fun J1 H4 => ∃ W1 : Nat → Nat → Hp → Prop, (∃ m, W1 0 m H4) ∧ ∀ j k H, W1 j k H →
      (J1.stop j H ∧ Nx H) ∨ (J1.go j H ∧ ∃ Nx1 : Hp → Prop, (∀ H', Nx1 H' → ∃ k', k' < k ∧ W1 (j + 1) k' H') ∧ ∀ x H', J1.yld j H x H' → g1 x (wipe σ2 vs1) H' fun σ3 G5 => wipe σ3 vs1 = wipe σ2 vs1 ∧ tt1 σ3 G5 fun b H6 =>
        if b = true then te σ3 H6 fun y G7 => ∃ (zs : List Str) (z : Str), y = .str z ∧ G7 D = some (SetQO P w D zs) ∧ zs.length < 1000 ∧ Nx1 (upd G7 D (SetQO P w D (zs ++ [z]))) else Nx1 H6)
    else Nx G3)
theorem sc2_core {pins : List (Addr × Obj)} {s : Shared} {σ : L2.St} {H : Hp} {Q : VK} {el tg iter tg1 iter1 : Expr} {ifs ifs1 : List Expr} {scp : Scope} {own : List (Str × Nat)} {vs1 : List Nat} {pos pos' : Pos} {wi wi1 : TI} {g g1 : TG} {tt tt1 : TT} {te : TE} {use : Option (Value → Sem Unit)} {Qf : Value → Shared → Prop}
    (hCa : X.calm = true) (hNd : X.N.Nodup) (I : Inv X pins σ H s) (hIo : PI X tg iter wi) (ok : BlkOk X.N X.env.scope scp own) (hv : ∀ i ∈ vs1, i ∈ own.map (·.2))
    (hGo : ∀ (s : Shared) (H : Hp) (C : Addr) (cl : List (Str × Addr)) (fp : List Addr), PG (X.blk s H scp (compEnvC scp cl C X.env) fp) tg g) (hTo : ∀ (s : Shared) (H : Hp) (C : Addr) (cl : List (Str × Addr)) (fp : List Addr), PTs (X.blk s H scp (compEnvC scp cl C X.env) fp) ifs tt)
    (hEl : ∀ (s : Shared) (H : Hp) (C : Addr) (cl : List (Str × Addr)) (fp : List Addr), PE (X.blk s H scp (compEnvC scp cl C X.env) fp) el te) (hs : ∀ x, foldedSetIterable iter X.env x = pure x)
    (hIi : ∀ (s : Shared) (H : Hp) (C : Addr) (cl : List (Str × Addr)) (fp : List Addr), PI (X.blk s H scp (compEnvC scp cl C X.env) fp) tg1 iter1 wi1)
    (hGi : ∀ (s : Shared) (H : Hp) (C : Addr) (cl : List (Str × Addr)) (fp : List Addr), PG (X.blk s H scp (compEnvC scp cl C X.env) fp) tg1 g1)
    (hTi : ∀ (s : Shared) (H : Hp) (C : Addr) (cl : List (Str × Addr)) (fp : List Addr), PTs (X.blk s H scp (compEnvC scp cl C X.env) fp) ifs1 tt1)
    (hs1 : ∀ env x, foldedSetIterable iter1 env x = pure x)
    (h : tSc2 X.prog X.w wi g tt wi1 g1 tt1 te (own.map (·.2)) vs1 σ H Q)
    (hRR : ∀ D C s' m H', Inv X pins σ H' s' → Q (.ref D) H' → s'.heap.Ns C m → FpOk X pins H' C → compPost (model X.prog X.w) X.A X.xe use Qf (.ref D) C (.ok .next) s') :
    wpAny (model X.prog X.w) X.A (comprehension (.SetComp el [⟨tg, iter, ifs, 0⟩, ⟨tg1, iter1, ifs1, 0⟩] scp pos) scp X.env pos' (newSet (.type "set")) false (eval iter X.env) use) Qf X.xe s := by
  have hFr : ∀ y ∈ scp.names, y.2 = .free → ∃ c, X.env.cells.lookup y.1 = some c := fun y hy e => by
    rcases ok.free y hy e with k | k
    · exact I.ok.has _ (.inl k)
    · exact I.ok.has _ (.inr k)
  refine wpAny_comprehension_free (use := use) rfl hs (closure_ok hFr) ok.kind (fun y hy e => by rw [ok.uniq y hy, e])
    (thn (hIo.run pins s σ H _ I h) fun xv s1 hx => thn hx fun ivv q2 h2 => ?_)
  obtain ⟨it, fp, tn, J, G2, e, J2, T, st2, ff2, q⟩ := h2
  subst e
  refine PpSet.newSet_ok (newEnv_comp ?_)
  generalize hDd : q2.heap.objs.size = D
  have hDno : G2 D = none := J2.hok.fresh (Nat.le_of_eq hDd)
  obtain ⟨W, ⟨m0, w0⟩, turn⟩ := q D hDno
  -- the new list
  generalize hq3 : ({ q2 with heap := q2.heap.push { cls := .type "set", dict := none, data := .set #[] 0 (.fresh 0 0 (!X.w.params.followText "set-order")) } } : Shared) = q3
  have J3 : Inv X pins σ (upd G2 D (SetQO X.prog X.w D [])) q3 := by
    rw [← hq3]
    refine J2.laid (t' := q2.toks) (fun b o e => Heap.get?_push_of_some _ e) (Nat.le_of_eq hDd) ?_
    rw [← hDd]
    exact setQO_ok (Nat.le_refl _) (setQ_fresh X.prog X.w)
  have e3 : q3.heap = q2.heap.push { cls := .type "set", dict := none, data := .set #[] 0 (.fresh 0 0 (!X.w.params.followText "set-order")) } := by rw [← hq3]
  have szz : ∀ b ∈ fp, b < q2.heap.objs.size := fun b hb => by
    obtain ⟨o, e, _⟩ := T.obj _ _ st2 b hb
    exact Heap.lt_size e
  have ff3 : ∀ b ∈ fp, FpOk X pins (upd G2 D (SetQO X.prog X.w D [])) b ∧ b < q3.heap.objs.size := fun b hb => by
    have hlt := szz b hb
    refine ⟨⟨?_, (ff2 b hb).2⟩, by rw [e3, Heap.size_push]; exact Nat.lt_succ_of_lt hlt⟩
    rw [upd_ne (by rw [← hDd]; exact Nat.ne_of_lt hlt)]
    exact (ff2 b hb).1
  have tt3 : tn 0 q3.heap := T.keep _ _ _ st2 fun b _ o e => by rw [e3]; exact Heap.get?_push_of_some _ e
  have J4 := block_start J3 ok hNd ff3
  have pgO := hGo q3 (upd G2 D (SetQO X.prog X.w D [])) q3.heap.objs.size (cellsFrom (q3.heap.objs.size + 1) scp.names (cloFrom X.env.cells scp.names [])) fp
  have ptO := hTo q3 (upd G2 D (SetQO X.prog X.w D [])) q3.heap.objs.size (cellsFrom (q3.heap.objs.size + 1) scp.names (cloFrom X.env.cells scp.names [])) fp
  have peO := hEl q3 (upd G2 D (SetQO X.prog X.w D [])) q3.heap.objs.size (cellsFrom (q3.heap.objs.size + 1) scp.names (cloFrom X.env.cells scp.names [])) fp
  have piI := hIi q3 (upd G2 D (SetQO X.prog X.w D [])) q3.heap.objs.size (cellsFrom (q3.heap.objs.size + 1) scp.names (cloFrom X.env.cells scp.names [])) fp
  have pgI := hGi q3 (upd G2 D (SetQO X.prog X.w D [])) q3.heap.objs.size (cellsFrom (q3.heap.objs.size + 1) scp.names (cloFrom X.env.cells scp.names [])) fp
  have ptI := hTi q3 (upd G2 D (SetQO X.prog X.w D [])) q3.heap.objs.size (cellsFrom (q3.heap.objs.size + 1) scp.names (cloFrom X.env.cells scp.names [])) fp
  show codeAny _ _ (.compStart (.SetComp el [⟨tg, iter, ifs, 0⟩, ⟨tg1, iter1, ifs1, 0⟩] scp pos) 0 (.ref it) (.ref D) (compEnvC scp (cellsFrom (q3.heap.objs.size + 1) scp.names (cloFrom X.env.cells scp.names [])) q3.heap.objs.size X.env)) (compPost (model X.prog X.w) X.A X.xe use Qf (.ref D) q3.heap.objs.size) { q3 with heap := pushCells (q3.heap.push { cls := .type "dict", data := .dict #[] }) scp.names }
  have nofp : ∀ b ∈ fp, (upd G2 D (SetQO X.prog X.w D [])) b = none := fun b hb => (ff3 b hb).1.1
  generalize hce : compEnvC scp (cellsFrom (q3.heap.objs.size + 1) scp.names (cloFrom X.env.cells scp.names [])) q3.heap.objs.size X.env = cE at J4 pgO ptO peO piI pgI ptI ⊢
  have cLo : cE.locals = q3.heap.objs.size := by subst hce; rfl
  generalize hG3 : upd G2 D (SetQO X.prog X.w D []) = G3 at J3 J4 pgO ptO peO piI pgI ptI w0 nofp ff3
  generalize hq4 : ({ q3 with heap := pushCells (q3.heap.push { cls := .type "dict", data := .dict #[] }) scp.names } : Shared) = q4 at J4 ⊢
  have tt4 : tn 0 q4.heap := T.keep _ _ _ tt3 fun b _ o e => by rw [← hq4]; exact pushCells_keeps _ _ _ _ (Heap.get?_push_of_some _ e)
  have sta : ∀ {σ' : L2.St} {H' : Hp} {s' : Shared}, Inv (X.blk q3 G3 scp cE fp) [] σ' H' s' → (∀ b ∈ fp, H' b = none) → ∀ b ∈ fp, FpOk (X.blk q3 G3 scp cE fp) [] H' b := fun {σ' H' s'} I' hn b hb =>
    ⟨hn b hb, (I'.ok.exf b hb).1, I'.ok.exfs b hb, .inl hb, fun x c e => (I'.ok.exf b hb).2 x c e, fun p hp => absurd (show p ∈ ([] : List (Addr × Obj)) ++ [] from hp) (by simp)⟩
  have lpO : codeAny (model X.prog X.w) X.A (.compLoop (.SetComp el [⟨tg, iter, ifs, 0⟩, ⟨tg1, iter1, ifs1, 0⟩] scp pos) 0 (.ref it) (.ref D) cE) (compPost (model X.prog X.w) X.A X.xe use Qf (.ref D) q3.heap.objs.size) q4 := by
    refine scLoop_o (hs1 cE) (fun n s' => ∃ i H', Inv (X.blk q3 G3 scp cE fp) [] (wipe σ (own.map (·.2))) H' s' ∧ tn i s'.heap ∧ (∀ b ∈ fp, H' b = none) ∧ W i n H') ?_ m0 ⟨0, G3, J4, tt4, nofp, w0⟩
    rintro n q5 ⟨i, G5, J5, tt5, nn5, ww5⟩
    rcases turn i n G5 ww5 with ⟨stop, qq⟩ | ⟨go, Nx, hNx, step⟩
    · have td := T.done (X.blk q3 G3 scp cE fp) rfl rfl rfl hCa i [] q5 _ G5 (fun _ _ => False) J5 (sta J5 nn5) tt5 stop
      refine thnF td fun r q6 ⟨hRr, J6⟩ => ?_
      subst hRr
      -- back in the def's context
      have J7 : Inv X pins σ G5 q6 := J3.call' (ch := fp) J6.os J6.base J6.hok J6.bare fun b hb => ⟨(ff3 b hb).1.2.2.2.1, (ff3 b hb).1.2.1, (ff3 b hb).1.2.2.2.2.1, (ff3 b hb).1.2.2.2.2.2⟩
      have nCo : G5 q3.heap.objs.size = none := by
        have z : G5 cE.locals = none := J6.free
        rw [cLo] at z
        exact z
      obtain ⟨m, hn, _⟩ := J6.loc
      have hn : q6.heap.Ns cE.locals m := hn
      rw [cLo] at hn
      exact hRR D q3.heap.objs.size q6 m G5 J7 qq hn (J3.fpOk (Nat.le_refl _) nCo)
    · have ti := T.item (X.blk q3 G3 scp cE fp) rfl rfl rfl hCa i [] q5 _ G5 (fun _ _ => False) J5 (sta J5 nn5) tt5 go
      refine thnF ti fun r q6 ⟨u, hRr, hh6⟩ => ?_
      subst hRr
      refine thnF hh6 fun _ q7 ⟨x, G7, J7, r7, y7, st7, n7⟩ => ?_
      have I7' := J7.pinned (sta J7 n7) (T.obj _ _ st7)
      refine thnF (pgO.run _ q7 _ G7 x u _ I7' r7 (step x G7 y7)) fun _ q8_ ⟨σ8, G8, J8, hw8, q8⟩ => ?_
      refine thnF (ptO.run _ q8_ σ8 G8 _ J8 q8) fun b s9 ⟨H9, J9, q9⟩ => ?_
      -- the turn's end, from any slots that know what the block knew at its start
      have finO : ∀ {σ9 : L2.St} {s' : Shared} {H' : Hp}, Inv (X.blk q3 G3 scp cE fp) ([] ++ pinsAt fp q7.heap) σ9 H' s' → (wipe σ (own.map (·.2))).length = σ9.length → (∀ (j : Nat) v, (wipe σ (own.map (·.2)))[j]? = some (some v) → σ9[j]? = some (some v)) → Nx H' →
          ∃ m, m < n ∧ ∃ i H', Inv (X.blk q3 G3 scp cE fp) [] (wipe σ (own.map (·.2))) H' s' ∧ tn i s'.heap ∧ (∀ b ∈ fp, H' b = none) ∧ W i m H' := fun {σ9 s' H'} I' hl hk nx => by
        obtain ⟨m', hMm, wNew⟩ := hNx H' nx
        have pin' : ∀ b ∈ fp, ∀ o, q7.heap.get? b = some o → s'.heap.get? b = some o ∧ H' b = none := fun b hb o e =>
          let z := I'.pin (b, o) (List.mem_append_right _ (List.mem_append_right _ (mem_pinsAt hb e)))
          ⟨z.1, z.2.1⟩
        refine ⟨m', hMm, i + 1, H', (I'.unpinned (pins := [])).weak hl hk, T.keep _ _ _ st7 fun b hb o e => (pin' b hb o e).1, fun b hb => ?_, wNew⟩
        obtain ⟨o, e, _⟩ := T.obj _ _ st7 b hb
        exact (pin' b hb o e).2
      have hl8 : (wipe σ (own.map (·.2))).length = σ8.length := by rw [← hw8, wipe_length]
      have hk8 : ∀ (j : Nat) v, (wipe σ (own.map (·.2)))[j]? = some (some v) → σ8[j]? = some (some v) := fun j v e => by
        rw [← hw8] at e
        exact (wipe_some e).1
      have hk9 : ∀ (j : Nat) v, (wipe σ (own.map (·.2)))[j]? = some (some v) → (wipe σ8 vs1)[j]? = some (some v) := fun j v e => by
        rw [← hw8] at e
        obtain ⟨e1, e2⟩ := wipe_some e
        rw [wipe_out fun z => e2 (hv j z)]
        exact e1
      cases b with
      | false =>
        simp only [Bool.false_eq_true, if_false] at q9 ⊢
        exact finO J9 hl8 hk8 q9
      | true =>
        simp only [if_true] at q9 ⊢
        refine thnF (piI.run _ s9 σ8 H9 _ J9 q9) fun xv s10 hx => thnF hx fun ivv s11 h11 => ?_
        obtain ⟨itI, fp1, tn1, J1, H11, e1, I11, T1, st11, f11, W1, ⟨m1, w1⟩, turn1⟩ := h11
        subst e1
        -- the inner lpO
        have stat1 : ∀ {H' : Hp}, (∀ b ∈ fp1, H' b = none) → ∀ b ∈ fp1, FpOk (X.blk q3 G3 scp cE fp) ([] ++ pinsAt fp q7.heap) H' b := fun hn b hb => ⟨hn b hb, (f11 b hb).2⟩
        have lpI : codeAny (model X.prog X.w) X.A (.compLoop (.SetComp el [⟨tg, iter, ifs, 0⟩, ⟨tg1, iter1, ifs1, 0⟩] scp pos) 1 (.ref itI) (.ref D) cE)
            (fun r s' => match r with
              | .ok _ => ∃ m, m < n ∧ ∃ i H', Inv (X.blk q3 G3 scp cE fp) [] (wipe σ (own.map (·.2))) H' s' ∧ tn i s'.heap ∧ (∀ b ∈ fp, H' b = none) ∧ W i m H'
              | .error _ => False) s11 := by
          refine scLoop_i (fun k s' => ∃ j H', Inv (X.blk q3 G3 scp cE fp) ([] ++ pinsAt fp q7.heap) (wipe σ8 vs1) H' s' ∧ tn1 j s'.heap ∧ (∀ b ∈ fp1, H' b = none) ∧ W1 j k H') ?_ m1 ⟨0, H11, I11.weak (wipe_length _ _) (fun j v e => (wipe_some e).1), st11, fun b hb => (f11 b hb).1, w1⟩
          rintro k s12 ⟨j, H12, I12, st12, n12, w12⟩
          rcases turn1 j k H12 w12 with ⟨stop1, nx1⟩ | ⟨go1, Nx1, hNx1, step1⟩
          · refine thnF (T1.done (X.blk q3 G3 scp cE fp) rfl rfl rfl hCa j _ s12 (wipe σ8 vs1) H12 (fun _ _ => False) I12 (stat1 n12) st12 stop1) fun r s13 ⟨hRr, I13⟩ => ?_
            subst hRr
            exact finO I13 (hl8.trans (wipe_length σ8 vs1).symm) hk9 nx1
          · refine thnF (T1.item (X.blk q3 G3 scp cE fp) rfl rfl rfl hCa j _ s12 (wipe σ8 vs1) H12 (fun _ _ => False) I12 (stat1 n12) st12 go1) fun r s13 ⟨u1, hRr, h13⟩ => ?_
            subst hRr
            refine thnF h13 fun _ s14 ⟨x1, H14, I14, r14, y14, st14, n14⟩ => ?_
            have I14' := I14.pinned (stat1 n14) (T1.obj _ _ st14)
            refine thnF (pgI.run _ s14 (wipe σ8 vs1) H14 x1 u1 _ I14' r14 (step1 x1 H14 y14)) fun _ s15 ⟨σ15, H15, I15, hw15, q15⟩ => ?_
            refine thnF (ptI.run _ s15 σ15 H15 _ I15 q15) fun b1 s16 ⟨H16, I16, q16⟩ => ?_
            have finI : ∀ {s' : Shared} {H' : Hp}, Inv (X.blk q3 G3 scp cE fp) (([] ++ pinsAt fp q7.heap) ++ pinsAt fp1 s14.heap) σ15 H' s' → Nx1 H' → ∃ m, m < k ∧ ∃ j H', Inv (X.blk q3 G3 scp cE fp) ([] ++ pinsAt fp q7.heap) (wipe σ8 vs1) H' s' ∧ tn1 j s'.heap ∧ (∀ b ∈ fp1, H' b = none) ∧ W1 j m H' := fun {s' H'} I' nx => by
              obtain ⟨m', hMm, wNew⟩ := hNx1 H' nx
              have pin' : ∀ b ∈ fp1, ∀ o, s14.heap.get? b = some o → s'.heap.get? b = some o ∧ H' b = none := fun b hb o e =>
                let z := I'.pin (b, o) (List.mem_append_right _ (List.mem_append_right _ (mem_pinsAt hb e)))
                ⟨z.1, z.2.1⟩
              refine ⟨m', hMm, j + 1, H', I'.unpinned.weak (by rw [← hw15, wipe_length]) (fun j v e => by rw [← hw15] at e; exact (wipe_some e).1), T1.keep _ _ _ st14 fun b hb o e => (pin' b hb o e).1, fun b hb => ?_, wNew⟩
              obtain ⟨o, e, _⟩ := T1.obj _ _ st14 b hb
              exact (pin' b hb o e).2
            cases b1 with
            | false =>
              simp only [Bool.false_eq_true, if_false] at q16 ⊢
              exact finI I16 q16
            | true =>
              simp only [if_true] at q16 ⊢
              refine thnF (peO.run _ s16 σ15 H16 _ I16 q16) fun z s17 ⟨yv, H17, I17, r17, zs0, z0, ey, hD17, hz17, nx⟩ => ?_
              subst ey
              exact addQ_ok (X := X.blk q3 G3 scp cE fp) I17 hD17 hz17 r17 fun s18 I18 => finI I18 nx
        exact scStart1 lpI (T1.self X.A 0 _ _ _ st11 lpI)
  exact PpSet.codeAny_compStart_set lpO (T.self X.A 0 _ _ _ tt4 lpO)
/-- as a value -/
theorem pe_sc2 {el tg iter tg1 iter1 : Expr} {ifs ifs1 : List Expr} {scp : Scope} {own : List (Str × Nat)} {vs1 : List Nat} {pos : Pos} {wi wi1 : TI} {g g1 : TG} {tt tt1 : TT} {te : TE} (hCa : X.calm = true) (hNd : X.N.Nodup) (hIo : PI X tg iter wi) (ok : BlkOk X.N X.env.scope scp own) (hv : ∀ i ∈ vs1, i ∈ own.map (·.2))
    (hGo : ∀ (s : Shared) (H : Hp) (C : Addr) (cl : List (Str × Addr)) (fp : List Addr), PG (X.blk s H scp (compEnvC scp cl C X.env) fp) tg g) (hTo : ∀ (s : Shared) (H : Hp) (C : Addr) (cl : List (Str × Addr)) (fp : List Addr), PTs (X.blk s H scp (compEnvC scp cl C X.env) fp) ifs tt)
    (hIi : ∀ (s : Shared) (H : Hp) (C : Addr) (cl : List (Str × Addr)) (fp : List Addr), PI (X.blk s H scp (compEnvC scp cl C X.env) fp) tg1 iter1 wi1)
    (hGi : ∀ (s : Shared) (H : Hp) (C : Addr) (cl : List (Str × Addr)) (fp : List Addr), PG (X.blk s H scp (compEnvC scp cl C X.env) fp) tg1 g1) (hTi : ∀ (s : Shared) (H : Hp) (C : Addr) (cl : List (Str × Addr)) (fp : List Addr), PTs (X.blk s H scp (compEnvC scp cl C X.env) fp) ifs1 tt1)
    (hEl : ∀ (s : Shared) (H : Hp) (C : Addr) (cl : List (Str × Addr)) (fp : List Addr), PE (X.blk s H scp (compEnvC scp cl C X.env) fp) el te) (hs : ∀ x, foldedSetIterable iter X.env x = pure x := by intro _; rfl) (hs1 : ∀ env x, foldedSetIterable iter1 env x = pure x := by intro _ _; rfl) :
    PE X (.SetComp el [⟨tg, iter, ifs, 0⟩, ⟨tg1, iter1, ifs1, 0⟩] scp pos) (tSc2 X.prog X.w wi g tt wi1 g1 tt1 te (own.map (·.2)) vs1) := by
  refine ⟨fun pins s σ H Q I h => ?_⟩
  rw [PpSet.eval_SetComp]
  refine sc2_core hCa hNd I hIo ok hv hGo hTo hEl hs hIi hGi hTi hs1 h fun D C s' m H' I' q hn f => ⟨m, hn, fun h'' sb => ?_⟩
  obtain ⟨f0, f1, ff2, ff3, f4, f5⟩ := f
  exact ⟨.ref D, H', I'.turned (t' := s'.toks) (fun b o hb e => (sb.2 b hb).trans e) f0 f1 ff3 f4 f5, rfl, q⟩

section
variable {X : Cx}
/-- d.update(d2) -/
def rDUpd : V → List V → Hp → VK → Prop := fun x vs H Q => ∃ (a b : Addr) (kvs more : List (Key × V)), x = .ref a ∧ vs = [.ref b] ∧ H a = some (.dK kvs) ∧ H b = some (.dK more) ∧ a ≠ b ∧ kvs.length + more.length ≤ sizeLine ∧ Q .non (upd H a (.dK (mergeK kvs more)))
theorem mt_dupd : MtR X "dict.update" rDUpd := by
  intro pins s σ H x vs v us Q I rx rv h
  obtain ⟨a, b, kvs, more, ex, ev, e, e2, nab, hz, q⟩ := h
  subst ex
  subst ev
  obtain rfl : v = Value.ref a := rx
  cases Vals.ref1 rv
  obtain ⟨z, hd, us, rel, dd⟩ := dk_of I.hok e
  obtain ⟨z2, hd2, ws, rel2, dd2⟩ := dk_of I.hok e2
  have hle : us.length + ws.length ≤ sizeLine := by rw [← rel.length, ← rel2.length]; exact hz
  refine call_meetsIn PySem.F.slot_dict_update dd.typeIs PySem.F.entry_dict_update (PySem.F.args_dict_update_2 _ _) (meets_dict_update (mixKind X.prog X.w) a b nab hd2) ⟨us, ws, dd, dd2, hle, fun h' d1 _ hs => ?_⟩
  have hx : ∃ q, h'.get? a = some q := let ⟨q, _, _, hq, _⟩ := d1; ⟨q, hq⟩
  exact ⟨.non, _, d_write (t' := s.toks) I (by rw [e]; exact True.intro) hs hx (dk_new (Nat.le_trans (length_mergeK _ _) hz) hd (KV.merge rel2 rel) d1), rfl, q⟩
end
/-! ### a block's loop over a list, over a tuple -/
section
variable {K : PySem.W.Frag} {a : Addr} {xs : List V} {H0 : Hp} {Qd : Hp → Prop} {B : V → Hp → (Hp → Prop) → Prop}
theorem walkL (Pv : Nat → Hp → Prop) (h0 : Pv 0 H0) (hl : ∀ i H, i ≤ xs.length → Pv i H → SqL K H a xs) (hs : ∀ i x H, xs[i]? = some x → Pv i H → B x H (Pv (i + 1))) (hd : ∀ H, Pv xs.length H → Qd H) :
    ∃ W : Nat → Nat → Hp → Prop, (∃ m, W 0 m H0) ∧ ∀ i m H, W i m H → ((Itl K a).stop i H ∧ Qd H) ∨ ((Itl K a).go i H ∧ ∃ Nx : Hp → Prop, (∀ H', Nx H' → ∃ m', m' < m ∧ W (i + 1) m' H') ∧ ∀ x H', (Itl K a).yld i H x H' → B x H' Nx) := by
  refine ⟨fun i m H => m = xs.length - i ∧ i ≤ xs.length ∧ Pv i H, ⟨xs.length, by simp, Nat.zero_le _, h0⟩, fun i m H ⟨em, hi, p⟩ => ?_⟩
  have q := hl i H hi p
  by_cases c : i < xs.length
  · exact .inr ⟨⟨xs, xs[i], q, by simp [c]⟩, Pv (i + 1), fun H' p' => ⟨xs.length - (i + 1), by omega, rfl, c, p'⟩, fun x H' ⟨e, y⟩ => by subst e; exact hs i x _ (y xs q) p⟩
  · have e : i = xs.length := by omega
    subst e
    exact .inl ⟨⟨xs, q, Nat.le_refl _⟩, hd H p⟩
theorem walkT (Pv : Nat → Hp → Prop) (h0 : Pv 0 H0) (hl : ∀ i H, i ≤ xs.length → Pv i H → SqT K H a xs) (hs : ∀ i x H, xs[i]? = some x → Pv i H → B x H (Pv (i + 1))) (hd : ∀ H, Pv xs.length H → Qd H) :
    ∃ W : Nat → Nat → Hp → Prop, (∃ m, W 0 m H0) ∧ ∀ i m H, W i m H → ((Itt K a).stop i H ∧ Qd H) ∨ ((Itt K a).go i H ∧ ∃ Nx : Hp → Prop, (∀ H', Nx H' → ∃ m', m' < m ∧ W (i + 1) m' H') ∧ ∀ x H', (Itt K a).yld i H x H' → B x H' Nx) := by
  refine ⟨fun i m H => m = xs.length - i ∧ i ≤ xs.length ∧ Pv i H, ⟨xs.length, by simp, Nat.zero_le _, h0⟩, fun i m H ⟨em, hi, p⟩ => ?_⟩
  have q := hl i H hi p
  by_cases c : i < xs.length
  · exact .inr ⟨⟨xs, xs[i], q, by simp [c]⟩, Pv (i + 1), fun H' p' => ⟨xs.length - (i + 1), by omega, rfl, c, p'⟩, fun x H' ⟨e, y⟩ => by subst e; exact hs i x _ (y xs q) p⟩
  · have e : i = xs.length := by omega
    subst e
    exact .inl ⟨⟨xs, q, Nat.le_refl _⟩, hd H p⟩
end
/-! ### the names above a name -/
def outs (ps : Prs) (a : Str) : List Str := (ps.filter fun p => decide (p.1 = a)).map (·.2)
theorem mem_outs {ps : Prs} {a y : Str} : y ∈ outs ps a ↔ (a, y) ∈ ps := by
  unfold outs
  rw [List.mem_map]
  constructor
  · rintro ⟨⟨u, v⟩, m, rfl⟩
    obtain ⟨m1, m2⟩ := List.mem_filter.mp m
    have : u = a := of_decide_eq_true m2
    rw [← this]
    exact m1
  · exact fun m => ⟨(a, y), List.mem_filter.mpr ⟨m, decide_eq_true rfl⟩, rfl⟩
theorem outs_snoc {ps : Prs} {p : Str × Str} {a : Str} : outs (ps ++ [p]) a = outs ps a ++ (if p.1 = a then [p.2] else []) := by
  unfold outs
  rw [List.filter_append, List.map_append]
  congr 1
  by_cases c : p.1 = a <;> simp [c]
theorem outs_len {ps : Prs} {a : Str} : (outs ps a).length ≤ ps.length := by
  unfold outs
  rw [List.length_map]
  exact List.length_filter_le _ _
/-- the dict of the names above each name -/
def HigAt (H : Hp) (d : Addr) (ps : Prs) : Prop := ∃ kvs, H d = some (.dK kvs) ∧ kvs.length ≤ ps.length ∧ ∀ a, (valV kvs (.inr a) = none ∧ outs ps a = []) ∨ ∃ l, valV kvs (.inr a) = some (.ref l) ∧ H l = some (.lst ((outs ps a).map V.str))
theorem HigAt.same {H H' : Hp} {d : Addr} {ps : Prs} (h : HigAt H d ps) (s : Same H H') : HigAt H' d ps :=
  let ⟨kvs, e, z, g⟩ := h
  ⟨kvs, s _ _ e, z, fun a => (g a).imp id fun ⟨l, x, y⟩ => ⟨l, x, s _ _ y⟩⟩
/-- while it is made: each list is new and stands for one name -/
def HigN (H0 H : Hp) (d : Addr) (ps : Prs) : Prop := ∃ kvs, H d = some (.dK kvs) ∧ kvs.length ≤ ps.length ∧ (∀ a, (valV kvs (.inr a) = none ∧ outs ps a = []) ∨ ∃ l, valV kvs (.inr a) = some (.ref l) ∧ H l = some (.lst ((outs ps a).map V.str)) ∧ H0 l = none) ∧
  ∀ a b l, valV kvs (.inr a) = some (.ref l) → valV kvs (.inr b) = some (.ref l) → a = b
theorem HigN.ok {H0 H : Hp} {d : Addr} {ps : Prs} (h : HigN H0 H d ps) : HigAt H d ps :=
  let ⟨kvs, e, z, g, _⟩ := h
  ⟨kvs, e, z, fun a => (g a).imp id fun ⟨l, x, y, _⟩ => ⟨l, x, y⟩⟩
theorem HigN.there {H0 H H1 : Hp} {d l : Addr} {ps : Prs} {p : Str × Str} {kvs : List (Key × V)} (hd : H d = some (.dK kvs)) (hz : kvs.length ≤ ps.length)
    (g : ∀ a, (valV kvs (.inr a) = none ∧ outs ps a = []) ∨ ∃ l, valV kvs (.inr a) = some (.ref l) ∧ H l = some (.lst ((outs ps a).map V.str)) ∧ H0 l = none)
    (u : ∀ a b l, valV kvs (.inr a) = some (.ref l) → valV kvs (.inr b) = some (.ref l) → a = b) (hv : valV kvs (.inr p.1) = some (.ref l)) (hl : H l = some (.lst ((outs ps p.1).map V.str))) (n : H0 l = none) (s : Same H H1) :
    HigN H0 (upd H1 l (.lst ((outs ps p.1).map V.str ++ [V.str p.2]))) d (ps ++ [p]) := by
  have dl : d ≠ l := fun e => by rw [e, hl] at hd; cases hd
  refine ⟨kvs, une dl (s _ _ hd), by rw [List.length_append]; exact Nat.le_succ_of_le hz, fun a => ?_, u⟩
  by_cases c : p.1 = a
  · subst c
    exact .inr ⟨l, hv, by rw [upd_same, outs_snoc, if_pos rfl, List.map_append]; rfl, n⟩
  · rw [outs_snoc, if_neg c, List.append_nil]
    rcases g a with q | ⟨l2, e1, e2, e3⟩
    · exact .inl q
    · exact .inr ⟨l2, e1, une (fun e => c (u _ _ l hv (by rw [← e]; exact e1))) (s _ _ e2), e3⟩
theorem HigN.new {H0 H H1 H2 : Hp} {d l : Addr} {ps : Prs} {p : Str × Str} {kvs : List (Key × V)} (hd : H d = some (.dK kvs)) (hz : kvs.length ≤ ps.length)
    (g : ∀ a, (valV kvs (.inr a) = none ∧ outs ps a = []) ∨ ∃ l, valV kvs (.inr a) = some (.ref l) ∧ H l = some (.lst ((outs ps a).map V.str)) ∧ H0 l = none)
    (u : ∀ a b l, valV kvs (.inr a) = some (.ref l) → valV kvs (.inr b) = some (.ref l) → a = b) (hv : valV kvs (.inr p.1) = none) (hl : H l = none) (n : H0 l = none) (s : Same H H1) (e2 : H2 = upd (upd H1 d (.dK (putK kvs (.inr p.1) (.ref l)))) l (.lst [V.str p.2])) :
    HigN H0 H2 d (ps ++ [p]) := by
  subst e2
  have dl : d ≠ l := fun e => by rw [e, hl] at hd; cases hd
  have nv : ∀ a l2, valV kvs (.inr a) = some (.ref l2) → l2 ≠ l := fun a l2 e z => by
    rcases g a with q | ⟨l3, e1, e2, _⟩
    · rw [q.1] at e; cases e
    · rw [e] at e1
      cases e1
      rw [z, hl] at e2
      cases e2
  refine ⟨putK kvs (.inr p.1) (.ref l), by rw [upd_ne dl]; exact upd_same, ?_, fun a => ?_, fun a b l2 ha hb => ?_⟩
  · rw [List.length_append]
    exact Nat.le_trans (length_putK _ _ _) (Nat.succ_le_succ hz)
  · by_cases c : p.1 = a
    · subst c
      refine .inr ⟨l, by rw [valV_put, if_pos rfl], ?_, n⟩
      rcases g p.1 with q | ⟨l3, e1, _⟩
      · rw [upd_same, outs_snoc, if_pos rfl, q.2]; rfl
      · rw [hv] at e1; cases e1
    · rw [outs_snoc, if_neg c, List.append_nil, valV_put, if_neg fun e => c (Sum.inr.inj e).symm]
      rcases g a with q | ⟨l2, e1, e2, e3⟩
      · exact .inl q
      · exact .inr ⟨l2, e1, une (nv a l2 e1) (une (fun e => by rw [e, hd] at e2; cases e2) (s _ _ e2)), e3⟩
  · rw [valV_put] at ha hb
    split at ha
    · rename_i ea
      split at hb
      · rename_i eb
        exact (Sum.inr.inj ea).trans (Sum.inr.inj eb).symm
      · cases ha
        exact absurd rfl (nv b l hb)
    · split at hb
      · cases hb
        exact absurd rfl (nv a l ha)
      · exact u a b l2 ha hb
/-! ### what is reached from names -/
structure Wk (ps : Prs) (zs fs ws : List Str) : Prop where
  nd : fs.Nodup
  st : ∀ a ∈ zs, a ∈ fs
  rc : ∀ x ∈ fs, ∃ a ∈ zs, Rch ps a x
  sub : ∀ x ∈ ws, x ∈ fs
  cl : ∀ x ∈ fs, x ∉ ws → ∀ y, (x, y) ∈ ps → y ∈ fs
theorem Wk.len {ps : Prs} {zs fs ws : List Str} (h : Wk ps zs fs ws) : fs.length ≤ zs.length + ps.length := by
  have := nd_len fs (zs ++ ps.map (·.2)) h.nd fun x m => by
    obtain ⟨a, ma, r⟩ := h.rc x m
    rcases rch_in r with rfl | m
    · exact List.mem_append_left _ ma
    · exact List.mem_append_right _ m
  rw [List.length_append, List.length_map] at this
  exact this
theorem Wk.done {ps : Prs} {zs fs : List Str} (h : Wk ps zs fs []) (b : Str) : b ∈ fs ↔ ∃ a ∈ zs, Rch ps a b := by
  refine ⟨h.rc b, fun ⟨a, ma, r⟩ => ?_⟩
  have : ∀ {b : Str}, Rch ps a b → b ∈ fs := fun r => by
    induction r with
    | refl => exact h.st a ma
    | step _ m ih => exact h.cl _ ih (fun z => by cases z) _ m
  exact this r
structure WkI (ps : Prs) (zs : List Str) (x : Str) (i : Nat) (fs ws : List Str) : Prop where
  nd : fs.Nodup
  st : ∀ a ∈ zs, a ∈ fs
  rc : ∀ x ∈ fs, ∃ a ∈ zs, Rch ps a x
  sub : ∀ x ∈ ws, x ∈ fs
  xin : x ∈ fs
  cl : ∀ z ∈ fs, z ∉ ws → z ≠ x → ∀ y, (z, y) ∈ ps → y ∈ fs
  cx : ∀ y ∈ (outs ps x).take i, y ∈ fs
theorem WkI.start {ps : Prs} {zs fs ws : List Str} {x : Str} (h : Wk ps zs fs (ws ++ [x])) : WkI ps zs x 0 fs ws :=
  ⟨h.nd, h.st, h.rc, fun y m => h.sub y (List.mem_append_left _ m), h.sub x (List.mem_append_right _ List.mem_cons_self), fun z m n1 n2 => h.cl z m fun m2 => (List.mem_append.mp m2).elim n1 fun e => n2 (List.mem_singleton.mp e), fun y m => by cases m⟩
theorem WkI.skip {ps : Prs} {zs fs ws : List Str} {x y : Str} {i : Nat} (h : WkI ps zs x i fs ws) (e : (outs ps x)[i]? = some y) (m : y ∈ fs) : WkI ps zs x (i + 1) fs ws :=
  ⟨h.nd, h.st, h.rc, h.sub, h.xin, h.cl, fun z mz => by
    rw [List.take_add_one, e] at mz
    rcases List.mem_append.mp mz with q | q
    · exact h.cx z q
    · have : z = y := by simpa using q
      rw [this]
      exact m⟩
theorem WkI.add {ps : Prs} {zs fs ws : List Str} {x y : Str} {i : Nat} (h : WkI ps zs x i fs ws) (e : (outs ps x)[i]? = some y) (n : y ∉ fs) : WkI ps zs x (i + 1) (fs ++ [y]) (ws ++ [y]) := by
  have mp : (x, y) ∈ ps := mem_outs.mp (List.mem_of_getElem? e)
  refine ⟨?_, fun a m => List.mem_append_left _ (h.st a m), fun z m => ?_, fun z m => ?_, List.mem_append_left _ h.xin, fun z m n1 n2 u mu => ?_, fun z mz => ?_⟩
  · rw [List.nodup_append]
    refine ⟨h.nd, by simp, fun u mu v mv q => ?_⟩
    rw [List.mem_singleton.mp mv] at q
    exact n (by rw [← q]; exact mu)
  · rcases List.mem_append.mp m with m | m
    · exact h.rc z m
    · rw [List.mem_singleton.mp m]
      obtain ⟨a, ma, r⟩ := h.rc x h.xin
      exact ⟨a, ma, .step r mp⟩
  · rcases List.mem_append.mp m with m | m
    · exact List.mem_append_left _ (h.sub z m)
    · exact List.mem_append_right _ m
  · rcases List.mem_append.mp m with m | m
    · exact List.mem_append_left _ (h.cl z m (fun q => n1 (List.mem_append_left _ q)) n2 u mu)
    · exact absurd (List.mem_append_right _ m) n1
  · rw [List.take_add_one, e] at mz
    rcases List.mem_append.mp mz with q | q
    · exact List.mem_append_left _ (h.cx z q)
    · have : z = y := by simpa using q
      rw [this]
      exact List.mem_append_right _ List.mem_cons_self
theorem WkI.done {ps : Prs} {zs fs ws : List Str} {x : Str} {n : Nat} (h : WkI ps zs x n fs ws) (e : (outs ps x).length ≤ n) : Wk ps zs fs ws :=
  ⟨h.nd, h.st, h.rc, h.sub, fun z m n1 y my => by
    by_cases c : z = x
    · subst c
      exact h.cx y (by rw [List.take_of_length_le e]; exact mem_outs.mpr my)
    · exact h.cl z m n1 c y my⟩
theorem WkI.len {ps : Prs} {zs fs ws : List Str} {x : Str} {i : Nat} (h : WkI ps zs x i fs ws) : fs.length ≤ zs.length + ps.length := by
  have := nd_len fs (zs ++ ps.map (·.2)) h.nd fun x m => by
    obtain ⟨a, ma, r⟩ := h.rc x m
    rcases rch_in r with rfl | m
    · exact List.mem_append_left _ ma
    · exact List.mem_append_right _ m
  rw [List.length_append, List.length_map] at this
  exact this
/-- a dict whose keys are words -/
def KeyAt (H : Hp) (d : Addr) (fs : List Str) : Prop := ∃ kvs, H d = some (.dK kvs) ∧ kvs.map (·.1) = fs.map Sum.inr
theorem keys_val {kvs : List (Key × V)} {fs : List Str} {b : Str} (e : kvs.map (·.1) = fs.map Sum.inr) : (valV kvs (.inr b)).isSome = decide (b ∈ fs) := by
  rw [← valV_any]
  have : ∀ (kvs : List (Key × V)) (fs : List Str), kvs.map (·.1) = fs.map Sum.inr → (kvs.any fun kv => decide (kv.1 = Sum.inr b)) = decide (b ∈ fs) := by
    intro kvs
    induction kvs with
    | nil =>
      intro fs e
      cases fs with
      | nil => simp
      | cons _ _ => cases e
    | cons kv r ih =>
      intro fs e
      cases fs with
      | nil => cases e
      | cons f fs =>
        rw [List.map_cons, List.map_cons] at e
        injection e with e1 e2
        rw [List.any_cons, ih fs e2, e1]
        by_cases c : b = f
        · subst c; simp
        · have c2 : ¬ f = b := fun z => c z.symm
          simp [c, c2]
  exact this kvs fs e
theorem keys_put {kvs : List (Key × V)} {fs : List Str} {b : Str} {v : V} (e : kvs.map (·.1) = fs.map Sum.inr) (n : b ∉ fs) : (putK kvs (.inr b) v).map (·.1) = (fs ++ [b]).map Sum.inr := by
  have h : valV kvs (.inr b) = none := by
    have := keys_val (b := b) e
    rw [decide_eq_false n] at this
    cases q : valV kvs (.inr b) with
    | none => rfl
    | some _ => rw [q] at this; cases this
  rw [putK_new v h, List.map_append, e, List.map_append]
  rfl
theorem KeyAt.same {H H' : Hp} {d : Addr} {fs : List Str} (h : KeyAt H d fs) (s : Same H H') : KeyAt H' d fs := let ⟨kvs, e, z⟩ := h; ⟨kvs, s _ _ e, z⟩
/-- the words of a list, each once -/
def uniqS (zs : List Str) : List Str := zs.foldl (fun fs z => if z ∈ fs then fs else fs ++ [z]) []
theorem uniqS_snoc {zs : List Str} {z : Str} : uniqS (zs ++ [z]) = if z ∈ uniqS zs then uniqS zs else uniqS zs ++ [z] := by
  unfold uniqS
  rw [List.foldl_append]
  rfl
theorem uniqS_rev : ∀ rs : List Str, (uniqS rs.reverse).Nodup ∧ (uniqS rs.reverse).length ≤ rs.length ∧ ∀ z, z ∈ uniqS rs.reverse ↔ z ∈ rs := by
  intro rs
  induction rs with
  | nil => exact ⟨List.nodup_nil, Nat.le_refl _, fun z => Iff.rfl⟩
  | cons r rs ih =>
    obtain ⟨i1, i2, i3⟩ := ih
    rw [List.reverse_cons, uniqS_snoc]
    by_cases c : r ∈ uniqS rs.reverse
    · rw [if_pos c]
      refine ⟨i1, Nat.le_succ_of_le i2, fun z => ?_⟩
      rw [i3, List.mem_cons]
      exact ⟨.inr, fun h => h.elim (fun e => by rw [e]; exact (i3 r).mp c) id⟩
    · rw [if_neg c]
      refine ⟨?_, by rw [List.length_append]; exact Nat.succ_le_succ i2, fun z => ?_⟩
      · rw [List.nodup_append]
        refine ⟨i1, by simp, fun u mu v mv q => ?_⟩
        rw [List.mem_singleton.mp mv] at q
        exact c (by rw [← q]; exact mu)
      · rw [List.mem_append, i3]
        simp only [List.mem_cons, List.not_mem_nil, or_false]
        exact Or.comm
theorem uniqS_ok (zs : List Str) : (uniqS zs).Nodup ∧ (uniqS zs).length ≤ zs.length ∧ ∀ z, z ∈ uniqS zs ↔ z ∈ zs := by
  have := uniqS_rev zs.reverse
  rw [List.reverse_reverse, List.length_reverse] at this
  exact ⟨this.1, this.2.1, fun z => (this.2.2 z).trans List.mem_reverse⟩
theorem keys_uniq {kvs : List (Key × V)} {zs : List Str} {z : Str} {v : V} (e : kvs.map (·.1) = (uniqS zs).map Sum.inr) : (putK kvs (.inr z) v).map (·.1) = (uniqS (zs ++ [z])).map Sum.inr := by
  rw [uniqS_snoc]
  by_cases c : z ∈ uniqS zs
  · rw [if_pos c]
    have := keys_val (b := z) e
    rw [decide_eq_true c] at this
    unfold putK
    have h2 : (kvs.any fun kv => decide (kv.1 = (Sum.inr z : Key))) = true := by rw [valV_any]; exact this
    rw [if_pos h2, List.map_map]
    refine Eq.trans (List.map_congr_left fun kv _ => ?_) e
    show (if kv.1 = Sum.inr z then (kv.1, v) else kv).1 = kv.1
    split <;> rfl
  · rw [if_neg c]
    exact keys_put e c
theorem Wk.start {ps : Prs} {zs : List Str} : Wk ps zs (uniqS zs) (uniqS zs) :=
  let ⟨h1, _, h3⟩ := uniqS_ok zs
  ⟨h1, fun a m => (h3 a).mpr m, fun x m => ⟨x, (h3 x).mp m, .refl⟩, fun x m => m, fun x m n => absurd m n⟩
/-- comparisons as an object -/
def KnAt (ca : Nat → Addr) (H : Hp) (p : Addr) (ps : Prs) : Prop := ∃ (dx l d : Addr) (ys : List V), H p = some (.ins (ca 26) dx [("_pairs", .ref l), ("_higher", .ref d)]) ∧ H l = some (.lst ys) ∧ Paired (PrR H) ys ps ∧ HigAt H d ps
theorem KnAt.same {ca : Nat → Addr} {H H' : Hp} {p : Addr} {ps : Prs} (h : KnAt ca H p ps) (s : Same H H') : KnAt ca H' p ps :=
  let ⟨dx, l, d, ys, h1, h2, h3, h4⟩ := h
  ⟨dx, l, d, ys, s _ _ h1, s _ _ h2, Paired.mapP h3 fun _ _ r => r.same s, h4.same s⟩
theorem Rch.trans {ps : Prs} {a b c : Str} (h : Rch ps a b) (k : Rch ps b c) : Rch ps a c := by
  induction k with
  | refl => exact h
  | step _ m ih => exact .step ih m
open Classical in
/-- the groups so far, those of one name too -/
noncomputable def grps1 (ps : Prs) (zs : List Str) (ns : List Str) : List (List Str) := ns.filterMap fun n => if (grp ps zs n).head? = some n then some (grp ps zs n) else none
theorem grps_long {ps : Prs} {zs : List Str} : ∀ ns : List Str, (grps1 ps zs ns).filter (fun g => decide (1 < g.length)) = grps ps zs ns := by
  intro ns
  unfold grps1 grps
  induction ns with
  | nil => rfl
  | cons n ns ih =>
    rw [List.filterMap_cons, List.filterMap_cons]
    by_cases c : (grp ps zs n).head? = some n
    · by_cases d : 1 < (grp ps zs n).length
      · simp only [c, d, if_true, true_and, and_self]
        rw [List.filter_cons, decide_eq_true d, if_pos rfl, ih]
      · simp only [c, d, if_true, false_and, if_false]
        rw [List.filter_cons, decide_eq_false d, if_neg (by decide), ih]
    · simp only [c, if_false, and_false]
      exact ih
theorem mem_grp {ps : Prs} {zs : List Str} {n o : Str} : o ∈ grp ps zs n ↔ o ∈ zs ∧ Rch ps n o ∧ Rch ps o n := by
  unfold grp
  simp [List.mem_filter]
theorem grp_first {ps : Prs} {zs : List Str} {i : Nat} {n : Str} (nd : zs.Nodup) (h : zs[i]? = some n) : (∃ m ∈ zs.take i, Rch ps m n ∧ Rch ps n m) ↔ (grp ps zs n).head? ≠ some n := by
  have li := (List.getElem?_eq_some_iff.mp h).1
  have e : zs = zs.take i ++ n :: zs.drop (i + 1) := by
    rw [← (List.getElem?_eq_some_iff.mp h).2, ← List.drop_eq_getElem_cons li, List.take_append_drop]
  have nn : n ∉ zs.take i := fun m => by
    rw [e, List.nodup_append] at nd
    exact nd.2.2 n m n List.mem_cons_self rfl
  have eg : grp ps zs n = grp ps (zs.take i) n ++ n :: grp ps (zs.drop (i + 1)) n := by
    conv => lhs; rw [e]
    unfold grp
    rw [List.filter_append, List.filter_cons, if_pos (by simp [Rch.refl])]
  rw [eg]
  constructor
  · rintro ⟨m, mm, r1, r2⟩
    cases q : grp ps (zs.take i) n with
    | nil =>
      have : m ∈ grp ps (zs.take i) n := mem_grp.mpr ⟨mm, r2, r1⟩
      rw [q] at this
      cases this
    | cons y ys =>
      intro z
      have z : y = n := Option.some.inj z
      have : y ∈ grp ps (zs.take i) n := by rw [q]; exact List.mem_cons_self
      rw [z] at this
      exact nn (mem_grp.mp this).1
  · intro z
    cases q : grp ps (zs.take i) n with
    | nil => rw [q] at z; exact absurd rfl z
    | cons y ys =>
      have : y ∈ grp ps (zs.take i) n := by rw [q]; exact List.mem_cons_self
      obtain ⟨m1, m2, m3⟩ := mem_grp.mp this
      exact ⟨y, m1, m3, m2⟩
theorem grps1_snoc {ps : Prs} {zs ns : List Str} {n : Str} : grps1 ps zs (ns ++ [n]) = grps1 ps zs ns ++ (if (grp ps zs n).head? = some n then [grp ps zs n] else []) := by
  unfold grps1
  rw [List.filterMap_append]
  congr 1
  by_cases c : (grp ps zs n).head? = some n <;> simp [c]
theorem merge_some {k : Key} : ∀ {more kvs : List (Key × V)}, (valV (mergeK kvs more) k).isSome = true ↔ (valV kvs k).isSome = true ∨ ∃ e ∈ more, e.1 = k := by
  intro more
  induction more with
  | nil =>
    intro kvs
    exact ⟨.inl, fun h => h.elim id fun ⟨_, m, _⟩ => by cases m⟩
  | cons e more ih =>
    intro kvs
    show (valV (mergeK (putK kvs e.1 e.2) more) k).isSome = true ↔ _
    rw [ih, valV_put]
    by_cases c : k = e.1
    · rw [if_pos c]
      exact ⟨fun _ => .inr ⟨e, List.mem_cons_self, c.symm⟩, fun _ => .inl rfl⟩
    · rw [if_neg c]
      constructor
      · rintro (h | ⟨f, m, q⟩)
        · exact .inl h
        · exact .inr ⟨f, List.mem_cons_of_mem _ m, q⟩
      · rintro (h | ⟨f, m, q⟩)
        · exact .inl h
        · rcases List.mem_cons.mp m with rfl | m
          · exact absurd q.symm c
          · exact .inr ⟨f, m, q⟩
end Lo

set_option Elab.async false
set_option linter.all false
set_option maxRecDepth 100000
set_option maxHeartbeats 4000000
/-! LoB16: a chain of comparisons, and a ring. -/
namespace Lo
open PySem PySem.Spec PyProof.Rows L2
theorem Rch.mono {ps qs : Prs} {a b : Str} (h : Rch ps a b) (m : ∀ p ∈ ps, p ∈ qs) : Rch qs a b := by
  induction h with
  | refl => exact .refl
  | step _ e ih => exact .step ih (m _ e)
theorem Rch.none {qs : Prs} {a b : Str} (h : Rch qs a b) (n : ∀ y, (a, y) ∉ qs) : b = a := by
  induction h with
  | refl => rfl
  | step _ e ih => subst ih; exact absurd e (n _)
theorem no_extra {ps : Prs} (nd : (ps.map (·.1)).Nodup) (ne : ∀ p ∈ ps, p.1 ≠ p.2) (n : Nat) : extras ps n = [] := by
  refine List.filter_eq_nil_iff.mpr fun k _ => ?_
  intro h
  obtain ⟨p, hp, r⟩ : Extra ps k := by simpa using h
  have lk := (List.getElem?_eq_some_iff.mp hp).1
  have e : ps = ps.take k ++ p :: ps.drop (k + 1) := by
    rw [← (List.getElem?_eq_some_iff.mp hp).2, ← List.drop_eq_getElem_cons lk, List.take_append_drop]
  rw [e, List.map_append, List.map_cons, List.nodup_append] at nd
  obtain ⟨_, n2, n3⟩ := nd
  refine ne p (List.mem_of_getElem? hp) (r.none fun y m => ?_).symm
  unfold without at m
  rcases List.mem_append.mp m with m | m
  · exact n3 p.1 (List.mem_map.mpr ⟨_, m, rfl⟩) p.1 List.mem_cons_self rfl
  · exact (List.nodup_cons.mp n2).1 (List.mem_map.mpr ⟨_, m, rfl⟩)
/-- each told to cost at most as much as the next one -/
def chn (ls : List Str) : Prs := ls.zip ls.tail
theorem chn_len {ls : List Str} : (chn ls).length = ls.length - 1 := by
  unfold chn
  rw [List.length_zip, List.length_tail]
  omega
theorem chn_get {ls : List Str} {k : Nat} {x y : Str} : (chn ls)[k]? = some (x, y) ↔ ls[k]? = some x ∧ ls[k + 1]? = some y := by
  unfold chn
  rw [List.getElem?_zip_eq_some, List.getElem?_tail]
theorem chn_mem {ls : List Str} {x y : Str} : (x, y) ∈ chn ls ↔ ∃ k, ls[k]? = some x ∧ ls[k + 1]? = some y := by
  rw [List.mem_iff_getElem?]
  exact ⟨fun ⟨k, h⟩ => ⟨k, chn_get.mp h⟩, fun ⟨k, h⟩ => ⟨k, chn_get.mpr h⟩⟩
theorem nd_idx {ls : List Str} (nd : ls.Nodup) {i j : Nat} {x : Str} (h : ls[i]? = some x) (k : ls[j]? = some x) : i = j := by
  obtain ⟨l1, e1⟩ := List.getElem?_eq_some_iff.mp h
  obtain ⟨l2, e2⟩ := List.getElem?_eq_some_iff.mp k
  have pw := List.pairwise_iff_getElem.mp (List.nodup_iff_pairwise_ne.mp nd)
  rcases Nat.lt_trichotomy i j with c | c | c
  · exact absurd (e1.trans e2.symm) (pw i j l1 l2 c)
  · exact c
  · exact absurd (e2.trans e1.symm) (pw j i l2 l1 c)
section
variable {ls : List Str} {ps : Prs}
theorem chn_up (nd : ls.Nodup) (m : ∀ p ∈ ps, p ∈ chn ls) {i : Nat} {x b : Str} (hx : ls[i]? = some x) (r : Rch ps x b) : ∃ j, i ≤ j ∧ ls[j]? = some b := by
  induction r with
  | refl => exact ⟨i, Nat.le_refl _, hx⟩
  | step _ e ih =>
    obtain ⟨j, lj, hj⟩ := ih
    obtain ⟨k, h1, h2⟩ := chn_mem.mp (m _ e)
    have := nd_idx nd hj h1
    subst this
    exact ⟨j + 1, Nat.le_succ_of_le lj, h2⟩
theorem chn_to (m : ∀ p ∈ chn ls, p ∈ ps) {i : Nat} {x : Str} (hx : ls[i]? = some x) : ∀ (d : Nat) {y : Str}, ls[i + d]? = some y → Rch ps x y
  | 0, y, h => by
    rw [Nat.add_zero, hx] at h
    cases h
    exact .refl
  | d + 1, y, h => by
    have l := (List.getElem?_eq_some_iff.mp h).1
    have e : ls[i + d]? = some ls[i + d] := List.getElem?_eq_getElem (by omega)
    exact .step (chn_to m hx d e) (m _ (chn_mem.mpr ⟨i + d, e, h⟩))
theorem chn_firsts (nd : ls.Nodup) : ((chn ls).map (·.1)).Nodup ∧ ∀ p ∈ chn ls, p.1 ≠ p.2 := by
  constructor
  · refine List.nodup_iff_pairwise_ne.mpr (List.pairwise_iff_getElem.mpr fun i j hi hj hij e => ?_)
    rw [List.getElem_map, List.getElem_map] at e
    rw [List.length_map] at hi hj
    have h1 : (chn ls)[i]? = some (chn ls)[i] := List.getElem?_eq_getElem hi
    have h2 : (chn ls)[j]? = some (chn ls)[j] := List.getElem?_eq_getElem hj
    have q1 := (chn_get (x := (chn ls)[i].1) (y := (chn ls)[i].2)).mp h1
    have q2 := (chn_get (x := (chn ls)[j].1) (y := (chn ls)[j].2)).mp h2
    rw [← e] at q2
    have := nd_idx nd q1.1 q2.1
    omega
  · rintro ⟨x, y⟩ m e
    obtain ⟨k, h1, h2⟩ := chn_mem.mp m
    have e : x = y := e
    subst e
    have := nd_idx nd h1 h2
    omega
theorem chn_names (l2 : 2 ≤ ls.length) (z : Str) : (z ∈ (chn ls).map (·.1) ∨ z ∈ (chn ls).map (·.2)) ↔ z ∈ ls := by
  constructor
  · rintro (m | m)
    · obtain ⟨⟨x, y⟩, m2, rfl⟩ := List.mem_map.mp m
      obtain ⟨k, h1, h2⟩ := chn_mem.mp m2
      exact List.mem_of_getElem? h1
    · obtain ⟨⟨x, y⟩, m2, rfl⟩ := List.mem_map.mp m
      obtain ⟨k, h1, h2⟩ := chn_mem.mp m2
      exact List.mem_of_getElem? h2
  · intro m
    obtain ⟨k, h⟩ := List.mem_iff_getElem?.mp m
    have lk := (List.getElem?_eq_some_iff.mp h).1
    cases k with
    | zero =>
      have e : ls[1]? = some ls[1] := List.getElem?_eq_getElem (by omega)
      exact .inl (List.mem_map.mpr ⟨(z, ls[1]), chn_mem.mpr ⟨0, h, e⟩, rfl⟩)
    | succ k =>
      have e : ls[k]? = some ls[k] := List.getElem?_eq_getElem (by omega)
      exact .inr (List.mem_map.mpr ⟨(ls[k], z), chn_mem.mpr ⟨k, e, h⟩, rfl⟩)
theorem chn_groups (nd : ls.Nodup) (m : ∀ p ∈ ps, p ∈ chn ls) {zs : List Str} (nz : zs.Nodup) (hz : ∀ z ∈ zs, z ∈ ls) : grps ps zs zs = [] := by
  refine List.filterMap_eq_nil_iff.mpr fun n mn => ?_
  refine if_neg fun c => ?_
  obtain ⟨i, hi⟩ := List.mem_iff_getElem?.mp (hz n mn)
  have := nd_len (grp ps zs n) [n] (List.nodup_iff_pairwise_ne.mpr ((List.nodup_iff_pairwise_ne.mp nz).filter _)) fun o mo => by
    obtain ⟨_, r1, r2⟩ := mem_grp.mp mo
    obtain ⟨j, lj, hj⟩ := chn_up nd m hi r1
    obtain ⟨k, lk, hk⟩ := chn_up nd m hj r2
    have := nd_idx nd hi hk
    have e : j = i := by omega
    subst e
    rw [hi] at hj
    cases hj
    exact List.mem_cons_self
  have c1 := c.1
  have : (grp ps zs n).length ≤ 1 := this
  omega
theorem ring_all (m : ∀ p ∈ chn ls, p ∈ ps) {f l x y : Str} {n i j : Nat} (hl : ls.length = n + 1) (hf : ls[0]? = some f) (he : ls[n]? = some l) (hm : (l, f) ∈ ps) (hx : ls[i]? = some x) (hy : ls[j]? = some y) : Rch ps x y := by
  have li := (List.getElem?_eq_some_iff.mp hx).1
  have r1 : Rch ps x l := chn_to m hx (n - i) (by rw [show i + (n - i) = n by omega]; exact he)
  have r2 : Rch ps f y := chn_to m hf j (by rw [Nat.zero_add]; exact hy)
  exact (Rch.step r1 hm).trans r2
theorem ring_groups (nd : ls.Nodup) (l2 : 2 ≤ ls.length) (all : ∀ x ∈ ls, ∀ y ∈ ls, Rch ps x y) : grps ps ls ls = [ls] := by
  have g : ∀ n ∈ ls, grp ps ls n = ls := fun n mn => List.filter_eq_self.mpr fun o mo => by simp [all n mn o mo, all o mo n mn]
  cases ls with
  | nil => simp at l2
  | cons f r =>
    have gf := g f List.mem_cons_self
    have e : ∀ n ∈ r, (if 1 < (grp ps (f :: r) n).length ∧ (grp ps (f :: r) n).head? = some n then some (grp ps (f :: r) n) else none) = none := fun n mn => by
      refine if_neg fun c => ?_
      rw [g n (List.mem_cons_of_mem _ mn)] at c
      have q : f = n := Option.some.inj c.2
      subst q
      exact (List.nodup_cons.mp nd).1 mn
    unfold grps
    rw [List.filterMap_cons, gf, if_pos ⟨l2, rfl⟩]
    exact congrArg (List.cons (f :: r)) (List.filterMap_eq_nil_iff.mpr e)
end
section
variable {x : Str} {H0 : Hp} {Qd : Hp → Prop} {B : V → Hp → (Hp → Prop) → Prop}
theorem walkS (Pv : Nat → Hp → Prop) (h0 : Pv 0 H0) (hs : ∀ i c H, x.cps[i]? = some c → Pv i H → B (.str ⟨#[c]⟩) H (Pv (i + 1))) (hd : ∀ H, Pv x.cps.size H → Qd H) :
    ∃ W : Nat → Nat → Hp → Prop, (∃ m, W 0 m H0) ∧ ∀ i m H, W i m H → ((Its x).stop i H ∧ Qd H) ∨ ((Its x).go i H ∧ ∃ Nx : Hp → Prop, (∀ H', Nx H' → ∃ m', m' < m ∧ W (i + 1) m' H') ∧ ∀ v H', (Its x).yld i H v H' → B v H' Nx) := by
  refine ⟨fun i m H => m = x.cps.size - i ∧ i ≤ x.cps.size ∧ Pv i H, ⟨x.cps.size, by simp, Nat.zero_le _, h0⟩, fun i m H ⟨em, hi, p⟩ => ?_⟩
  by_cases c : i < x.cps.size
  · exact .inr ⟨c, Pv (i + 1), fun H' p' => ⟨x.cps.size - (i + 1), by omega, rfl, c, p'⟩, fun v H' ⟨e, y, hy, ev⟩ => by subst e; subst ev; exact hs i y _ hy p⟩
  · have e : i = x.cps.size := by omega
    subst e
    exact .inl ⟨Nat.le_refl _, hd H p⟩
end
def LT : Str := Str.ofString "abcdefghijklmnopqrst"
def LK : List Str := ["linka", "linkb", "linkc", "linkd", "linke", "linkf", "linkg", "linkh", "linki", "linkj", "linkk", "linkl", "linkm", "linkn", "linko", "linkp", "linkq", "linkr", "links", "linkt"]
theorem lt_cut : ∀ n : Fin 19, cutS LT none (some (2 + ((n.val : Nat) : Int))) = ⟨(LT.cps.toList.take (n.val + 2)).toArray⟩ := by decide +kernel
theorem lt_at : ∀ i : Fin 20, LT.cps.toList[i.val]? = some (97 + i.val) := by decide +kernel
theorem lk_at : ∀ i : Fin 20, LK[i.val]? = some (Str.ofString "link" ++ (⟨#[97 + i.val]⟩ : Str)) := by decide +kernel
theorem lk_nd : LK.Nodup := by decide +kernel
theorem lk_len : LK.length = 20 := rfl
theorem lk_ok : ∀ z ∈ LK, NameOk z := namesB_ok (by decide +kernel)
theorem lk_sorted : ∀ n : Fin 21, PyProof.Rows.sortedS (LK.take n.val) = true := by decide +kernel
/-- with what is new since H0 -/
def HigF (H0 H : Hp) (d : Addr) (ps : Prs) : Prop := ∃ kvs, H d = some (.dK kvs) ∧ kvs.length ≤ ps.length ∧ ∀ a, (valV kvs (.inr a) = none ∧ outs ps a = []) ∨ ∃ l, valV kvs (.inr a) = some (.ref l) ∧ H l = some (.lst ((outs ps a).map V.str)) ∧ H0 l = none
theorem HigN.f {H0 H : Hp} {d : Addr} {ps : Prs} (h : HigN H0 H d ps) : HigF H0 H d ps := let ⟨kvs, e, z, g, _⟩ := h; ⟨kvs, e, z, g⟩
theorem HigF.ok {H0 H : Hp} {d : Addr} {ps : Prs} (h : HigF H0 H d ps) : HigAt H d ps :=
  let ⟨kvs, e, z, g⟩ := h
  ⟨kvs, e, z, fun a => (g a).imp id fun ⟨l, x, y, _⟩ => ⟨l, x, y⟩⟩
theorem HigF.low {H0 H1 H : Hp} {d : Addr} {ps : Prs} (h : HigF H1 H d ps) (f : ∀ a, H1 a = none → H0 a = none) : HigF H0 H d ps :=
  let ⟨kvs, e, z, g⟩ := h
  ⟨kvs, e, z, fun a => (g a).imp id fun ⟨l, x, y, w⟩ => ⟨l, x, y, f _ w⟩⟩
theorem HigF.keep {H0 H H' : Hp} {d c : Addr} {ps : Prs} {u : HO} (h : HigF H0 H d ps) (hc : H0 c = some u) (dc : d ≠ c) (k : Keep c H H') : HigF H0 H' d ps :=
  let ⟨kvs, e, z, g⟩ := h
  ⟨kvs, k _ _ e dc, z, fun a => (g a).imp id fun ⟨l, x, y, w⟩ => ⟨l, x, k _ _ y (ne_of_none hc w).symm, w⟩⟩
def KnF (ca : Nat → Addr) (H0 H : Hp) (p : Addr) (ps : Prs) : Prop := ∃ (dx l d : Addr) (ys : List V), H p = some (.ins (ca 26) dx [("_pairs", .ref l), ("_higher", .ref d)]) ∧ H l = some (.lst ys) ∧ Paired (PrR H) ys ps ∧ HigF H0 H d ps ∧ H0 l = none ∧ H0 d = none
theorem KnF.ok {ca : Nat → Addr} {H0 H : Hp} {p : Addr} {ps : Prs} (h : KnF ca H0 H p ps) : KnAt ca H p ps :=
  let ⟨dx, l, d, ys, h1, h2, h3, h4, _⟩ := h
  ⟨dx, l, d, ys, h1, h2, h3, h4.ok⟩
theorem KnF.same {ca : Nat → Addr} {H0 H H' : Hp} {p : Addr} {ps : Prs} (h : KnF ca H0 H p ps) (s : Same H H') : KnF ca H0 H' p ps :=
  let ⟨dx, l, d, ys, h1, h2, h3, ⟨kvs, e, z, g⟩, h5, h6⟩ := h
  ⟨dx, l, d, ys, s _ _ h1, s _ _ h2, Paired.mapP h3 fun _ _ r => r.same s, ⟨kvs, s _ _ e, z, fun a => (g a).imp id fun ⟨l, x, y, w⟩ => ⟨l, x, s _ _ y, w⟩⟩, h5, h6⟩
theorem KnF.put {ca : Nat → Addr} {H0 H H' : Hp} {p c : Addr} {ps : Prs} {u : HO} {xs : List V} (h : KnF ca H0 H p ps) (hc : H0 c = some u) (hx : H c = some (.lst xs)) (k : Keep c H H') : KnF ca H0 H' p ps :=
  let ⟨dx, l, d, ys, h1, h2, h3, h4, h5, h6⟩ := h
  ⟨dx, l, d, ys, k _ _ h1 (ne_of h1 hx fun z => nomatch z), k _ _ h2 (ne_of_none hc h5).symm, Paired.mapP h3 fun _ _ r => r.keep hx (fun _ z => nomatch z) k, h4.keep hc (ne_of_none hc h6).symm k, h5, h6⟩
def dPr (p : Str × Str) : PyData := .tuple [.str p.1, .str p.2]
theorem prsDa {K : PySem.W.Frag} {H : Hp} : ∀ {ys : List V} {ps : Prs}, Paired (PrR H) ys ps → (∀ p ∈ ps, PyData.strOk p.1 = true ∧ PyData.strOk p.2 = true) → DaAll K H ys (ps.map dPr) 1
  | _, _, .nil, _ => .nil
  | _, _, .cons r t, ok => by
    obtain ⟨a, rfl, ha⟩ := r
    have o := ok _ List.mem_cons_self
    exact .cons (Da.tup (.cons (Da.str o.1) (.cons (Da.str o.2) .nil)) (SqT.of ha)) (prsDa t fun p m => ok p (List.mem_cons_of_mem _ m))
theorem DaAll.nats {K : PySem.W.Frag} {H : Hp} {n : Nat} : ∀ ks : List Nat, DaAll K H (ks.map fun k => V.int (k : Nat)) (ks.map fun k => PyData.int (k : Nat)) n
  | [] => .nil
  | _ :: ks => .cons Da.int (DaAll.nats ks)
theorem grpsDa {K : PySem.W.Frag} {H : Hp} : ∀ {gs : List Addr} {ys : List (List Str)}, Paired (fun g y => H g = some (.lst (y.map V.str))) gs ys → (∀ y ∈ ys, ∀ z ∈ y, PyData.strOk z = true) → DaAll K H (gs.map V.ref) (ys.map fun y => .list (y.map PyData.str)) 1
  | _, _, .nil, _ => .nil
  | _, _, .cons r t, ok => .cons (Da.lst (DaAll.strs (ok _ List.mem_cons_self)) (SqL.of r)) (grpsDa t fun y m => ok y (List.mem_cons_of_mem _ m))
theorem grps_sub {ps : Prs} {zs : List Str} {y : List Str} (h : y ∈ grps ps zs zs) : (∀ z ∈ y, z ∈ zs) ∧ y ≠ [] := by
  obtain ⟨n, _, e⟩ := List.mem_filterMap.mp h
  split at e
  · rename_i c
    cases e
    refine ⟨fun z m => (mem_grp.mp m).1, fun q => ?_⟩
    rw [q] at c
    simp at c
  · cases e
end Lo

set_option Elab.async false
set_option linter.all false
set_option maxRecDepth 100000
set_option maxHeartbeats 4000000
/-! LoB17: ratios as rational numbers; layers. -/
namespace Lo
open PySem PySem.Spec PyProof.Rows L2
theorem rat_red (q : Rat) : Red q.num (q.den : Int) := ⟨by have := q.den_pos; omega, by rw [Int.natAbs_natCast]; exact q.reduced⟩
theorem rat_den (q : Rat) : (q.den : Int) ≠ 0 := by have := q.den_pos; omega
theorem rat_of {t b : Int} (h : Red t b) : ∃ q : Rat, q.num = t ∧ (q.den : Int) = b := by
  have hp := h.pos
  refine ⟨⟨t, b.natAbs, by omega, h.cop⟩, rfl, ?_⟩
  show ((b.natAbs : Nat) : Int) = b
  omega
theorem nrm_rat {a b : Int} (h : b ≠ 0) : nrm a b = ((Rat.divInt a b).num, ((Rat.divInt a b).den : Int)) := by
  have e : Rat.divInt a b = Rat.divInt (Rat.divInt a b).num (Rat.divInt a b).den := (Rat.num_divInt_den _).symm
  have c := (Rat.divInt_eq_divInt_iff h (rat_den _)).mp e
  rw [nrm_same h (rat_den (Rat.divInt a b)) c, nrm_id (rat_red _)]
/-- a ratio as an object -/
def QAt (ca : Nat → Addr) (H : Hp) (p : Addr) (q : Rat) : Prop := RatAt ca H p q.num (q.den : Int)
/-- a ratio or an integer -/
def QV (ca : Nat → Addr) (H : Hp) (x : V) (q : Rat) : Prop := NumV ca H x q.num (q.den : Int)
section
variable {ca : Nat → Addr} {H H' : Hp} {p c : Addr} {x : V} {q a b : Rat}
theorem QAt.same (h : QAt ca H p q) (s : Same H H') : QAt ca H' p q := RatAt.same h s
theorem QV.same (h : QV ca H x q) (s : Same H H') : QV ca H' x q := NumV.same h s
theorem QAt.v (h : QAt ca H p q) : QV ca H (.ref p) q := .inr ⟨p, rfl, h⟩
theorem QV.int {i : Int} : QV ca H (.int i) (i : Rat) := by
  unfold QV
  rw [Rat.num_intCast, Rat.den_intCast]
  exact .inl ⟨rfl, rfl⟩
theorem QAt.keep {u : HO} (h : QAt ca H p q) (e : H c = some u) (n : ∀ C dx fs, u ≠ .ins C dx fs) (k : Keep c H H') : QAt ca H' p q :=
  let ⟨r, dx, e1⟩ := h
  ⟨r, dx, k _ _ e1 (ne_of e1 e fun z => n _ _ _ z.symm)⟩
theorem QV.keep {u : HO} (h : QV ca H x q) (e : H c = some u) (n : ∀ C dx fs, u ≠ .ins C dx fs) (k : Keep c H H') : QV ca H' x q :=
  h.imp id fun ⟨p, e1, r⟩ => ⟨p, e1, QAt.keep r e n k⟩
theorem QAt.r (h : QAt ca H p q) : RatQ ca H p q.num q.den := RatAt.q h
theorem QV.n (h : QV ca H x q) : NumQ ca H x q.num q.den := h.imp id fun ⟨p, e, r⟩ => ⟨p, e, RatAt.q r⟩
theorem QAt.of {m d : Int} (h : RatQ ca H p m d) (e : Rat.divInt m d = q) : QAt ca H p q := by
  have := h.at_
  rw [nrm_rat h.ne, e] at this
  exact this
theorem QAt.ins (h : QAt ca H p q) : ∃ dx, H p = some (.ins (ca 2) dx [("top", .int q.num), ("bottom", .int (q.den : Int))]) := h.2
theorem QAt.none_ne {p' : Addr} (h : QAt ca H p q) (n : H p' = none) : p ≠ p' := let ⟨dx, e⟩ := h.ins; ne_of_none e n
theorem id_add : Rat.divInt (a.num * b.den + b.num * a.den) (a.den * b.den) = a + b := by
  rw [← Rat.divInt_add_divInt _ _ (rat_den a) (rat_den b), Rat.num_divInt_den, Rat.num_divInt_den]
theorem id_sub : Rat.divInt (a.num * b.den - b.num * a.den) (a.den * b.den) = a - b := by
  rw [← Rat.divInt_sub_divInt _ _ (rat_den a) (rat_den b), Rat.num_divInt_den, Rat.num_divInt_den]
theorem id_rsub : Rat.divInt (b.num * a.den - a.num * b.den) (b.den * a.den) = b - a := id_sub
theorem id_mul : Rat.divInt (a.num * b.num) (a.den * b.den) = a * b := by
  rw [← Rat.divInt_mul_divInt, Rat.num_divInt_den, Rat.num_divInt_den]
theorem id_over : Rat.divInt (a.num * b.den) (a.den * b.num) = a / b := by
  rw [← Rat.divInt_mul_divInt, Rat.div_def, Rat.num_divInt_den]
  congr 1
  rw [← Rat.inv_divInt, Rat.num_divInt_den]
end
/-- its size -/
def Zq (n : Nat) (q : Rat) : Prop := Sz n q.num ∧ Sz n (q.den : Int)
section
variable {n m k : Nat} {a b : Rat}
theorem Zq.mono (h : Zq n a) (l : n ≤ m := by decide) : Zq m a := ⟨h.1.mono l, h.2.mono l⟩
theorem zq_of {m d : Int} {q : Rat} (hd : d ≠ 0) (e : Rat.divInt m d = q) (h1 : Sz k m) (h2 : Sz k d) : Zq k q := by
  have e1 := nrm_rat (a := m) hd
  rw [e] at e1
  have l1 := nrm_le1 (a := m) hd
  have l2 := nrm_le2 (a := m) hd
  rw [e1] at l1 l2
  exact ⟨h1.le l1, h2.le l2⟩
theorem Zq.add (h : Zq n a) (g : Zq m b) : Zq (n + m + 1) (a + b) :=
  zq_of (Int.mul_ne_zero (rat_den a) (rat_den b)) id_add (((h.1.mul g.2).add' ((g.1.mul h.2).mono (by omega))).mono (by omega)) ((h.2.mul g.2).mono (by omega))
theorem Zq.sub (h : Zq n a) (g : Zq m b) : Zq (n + m + 1) (a - b) :=
  zq_of (Int.mul_ne_zero (rat_den a) (rat_den b)) id_sub (((h.1.mul g.2).sub' ((g.1.mul h.2).mono (by omega))).mono (by omega)) ((h.2.mul g.2).mono (by omega))
theorem Zq.mul (h : Zq n a) (g : Zq m b) : Zq (n + m) (a * b) :=
  zq_of (Int.mul_ne_zero (rat_den a) (rat_den b)) id_mul (h.1.mul g.1) (h.2.mul g.2)
theorem num_ne {q : Rat} (h : q ≠ 0) : q.num ≠ 0 := fun e => h (Rat.num_eq_zero.mp e)
theorem Zq.div (h : Zq n a) (g : Zq m b) (b0 : b ≠ 0) : Zq (n + m) (a / b) :=
  zq_of (Int.mul_ne_zero (rat_den a) (num_ne b0)) id_over (h.1.mul g.2) (h.2.mul g.1)
theorem Zq.int {i : Int} (h : Sz n i) (l : 1 ≤ n := by decide) : Zq n (i : Rat) := by
  unfold Zq
  rw [Rat.num_intCast, Rat.den_intCast]
  exact ⟨h, Sz.one.mono l⟩
end
theorem rat_lt {a b : Rat} : (a.num * b.den < b.num * a.den) ↔ a < b := (Rat.lt_iff a b).symm
theorem rat_le {a b : Rat} : (a.num * b.den ≤ b.num * a.den) ↔ a ≤ b := (Rat.le_iff a b).symm
theorem rat_eq {a b : Rat} : (a.num = b.num ∧ (a.den : Int) = b.den) ↔ a = b := by
  constructor
  · rintro ⟨h1, h2⟩
    exact Rat.ext h1 (by omega)
  · rintro rfl
    exact ⟨rfl, rfl⟩
end Lo

set_option Elab.async false
set_option linter.all false
set_option maxRecDepth 100000
set_option maxHeartbeats 4000000
/-! LoB18: layers, what is taken of them. -/
namespace Lo
open PySem PySem.Spec PyProof.Rows L2
abbrev Ls := List (Str × Rat)
def tot : Ls → Rat
  | [] => 0
  | x :: r => x.2 + tot r
theorem tot_app (a b : Ls) : tot (a ++ b) = tot a + tot b := by
  induction a with
  | nil => simp only [List.nil_append, tot]; grind
  | cons x r ih => simp only [List.cons_append, tot, ih]; grind
theorem tot_one {x : Str × Rat} : tot [x] = x.2 := by simp only [tot]; grind
theorem tot_rev (a : Ls) : tot a.reverse = tot a := by
  induction a with
  | nil => rfl
  | cons x r ih => rw [List.reverse_cons, tot_app, tot_one, ih]; simp only [tot]; grind
theorem tot_nonneg {a : Ls} (h : ∀ x ∈ a, 0 ≤ x.2) : 0 ≤ tot a := by
  induction a with
  | nil => exact Rat.le_refl
  | cons x r ih =>
    have h1 := h x List.mem_cons_self
    have h2 := ih fun y m => h y (List.mem_cons_of_mem _ m)
    simp only [tot]
    grind
def fst1 : Ls → Rat → Ls × Ls
  | [], _ => ([], [])
  | x :: r, w => if x.2 ≤ w then (x :: (fst1 r (w - x.2)).1, (fst1 r (w - x.2)).2) else if w = 0 then ([], x :: r) else ([(x.1, w)], (x.1, x.2 - w) :: r)
/-- the first i of them are taken whole -/
theorem fst_step {ls : Ls} {w : Rat} {i : Nat} {x : Str × Rat} (h : fst1 ls w = (ls.take i ++ (fst1 (ls.drop i) (w - tot (ls.take i))).1, (fst1 (ls.drop i) (w - tot (ls.take i))).2)) (hx : ls[i]? = some x) (le : x.2 ≤ w - tot (ls.take i)) :
    fst1 ls w = (ls.take (i + 1) ++ (fst1 (ls.drop (i + 1)) (w - tot (ls.take (i + 1)))).1, (fst1 (ls.drop (i + 1)) (w - tot (ls.take (i + 1)))).2) := by
  have li := (List.getElem?_eq_some_iff.mp hx).1
  have ed : ls.drop i = x :: ls.drop (i + 1) := by rw [List.drop_eq_getElem_cons li, (List.getElem?_eq_some_iff.mp hx).2]
  have et : ls.take (i + 1) = ls.take i ++ [x] := by rw [List.take_add_one, hx]; rfl
  have ew : w - tot (ls.take (i + 1)) = w - tot (ls.take i) - x.2 := by rw [et, tot_app, tot_one]; grind
  have e : fst1 (x :: ls.drop (i + 1)) (w - tot (ls.take i)) = (x :: (fst1 (ls.drop (i + 1)) (w - tot (ls.take i) - x.2)).1, (fst1 (ls.drop (i + 1)) (w - tot (ls.take i) - x.2)).2) := if_pos le
  rw [h, ed, e, ew, et, List.append_assoc]
  rfl
theorem tot_split {ls : Ls} (i : Nat) : tot ls = tot (ls.take i) + tot (ls.drop i) := by
  rw [← tot_app, List.take_append_drop]
def lst1 (ls : Ls) (w : Rat) : Ls × Ls := ((fst1 ls.reverse w).1, (fst1 ls.reverse w).2.reverse)
def evn1 (ls : Ls) (w : Rat) : Ls × Ls := if tot ls = w then (ls, []) else (ls.map fun x => (x.1, x.2 * (w / tot ls)), ls.map fun x => (x.1, x.2 * (1 - w / tot ls)))
def takeR (z : Str) (ls : Ls) (w : Rat) : Ls × Ls := if z = "oldest" then fst1 ls w else if z = "newest" then lst1 ls w else evn1 ls w
/-! sizes -/
def ZL (n : Nat) (ls : Ls) : Prop := ∀ x ∈ ls, Zq n x.2
theorem zq0 {n : Nat} (l : 1 ≤ n := by decide) : Zq n 0 := ⟨show Sz n (0 : Int) from Sz.zero.mono l, show Sz n ((1 : Nat) : Int) from Sz.one.mono l⟩
theorem tot_zq {n : Nat} : ∀ {ls : Ls}, ZL n ls → Zq (1 + ls.length * (n + 1)) (tot ls)
  | [], _ => zq0 (by omega)
  | x :: r, h => by
    have h1 := h x List.mem_cons_self
    have h2 := tot_zq (ls := r) fun y m => h y (List.mem_cons_of_mem _ m)
    have := h1.add h2
    show Zq _ (x.2 + tot r)
    refine this.mono ?_
    rw [List.length_cons, Nat.succ_mul]
    omega
theorem fst_zq {n : Nat} : ∀ {ls : Ls} {m : Nat} {w : Rat}, ZL n ls → Zq m w → ZL (m + ls.length * (n + 1) + n + 1) (fst1 ls w).1 ∧ ZL (m + ls.length * (n + 1) + n + 1) (fst1 ls w).2
  | [], _, _, _, _ => ⟨fun x m => (by cases m), fun x m => (by cases m)⟩
  | x :: r, m, w, h, hw => by
    have h1 := h x List.mem_cons_self
    have hr : ZL n r := fun y m => h y (List.mem_cons_of_mem _ m)
    unfold fst1
    rw [List.length_cons, Nat.succ_mul]
    split
    · have ih := fst_zq (m := m + n + 1) (w := w - x.2) hr (hw.sub h1)
      refine ⟨fun y my => ?_, fun y my => (ih.2 y my).mono (by omega)⟩
      rcases List.mem_cons.mp my with rfl | my
      · exact h1.mono (by omega)
      · exact (ih.1 y my).mono (by omega)
    · split
      · refine ⟨fun y my => (by cases my), fun y my => ?_⟩
        exact (h y my).mono (by omega)
      · refine ⟨fun y my => ?_, fun y my => ?_⟩
        · rw [List.mem_singleton.mp my]
          exact hw.mono (by omega)
        · rcases List.mem_cons.mp my with rfl | my
          · exact (h1.sub hw).mono (by omega)
          · exact (hr y my).mono (by omega)
/-! as objects -/
def LR (ca : Nat → Addr) (H : Hp) (v : V) (x : Str × Rat) : Prop := ∃ t p, v = .ref t ∧ H t = some (.tup [.str x.1, .ref p]) ∧ QAt ca H p x.2
abbrev Lay (ca : Nat → Addr) (H : Hp) : List V → Ls → Prop := Paired (LR ca H)
section
variable {ca : Nat → Addr} {H H' : Hp} {v : V} {x : Str × Rat} {xs : List V} {ls : Ls} {c : Addr} {u : HO}
theorem LR.same (h : LR ca H v x) (s : Same H H') : LR ca H' v x := let ⟨t, p, e, a, b⟩ := h; ⟨t, p, e, s _ _ a, b.same s⟩
theorem LR.keep (h : LR ca H v x) (e : H c = some u) (n1 : ∀ xs, u ≠ .tup xs) (n2 : ∀ C dx fs, u ≠ .ins C dx fs) (k : Keep c H H') : LR ca H' v x :=
  let ⟨t, p, e1, a, b⟩ := h
  ⟨t, p, e1, k _ _ a (ne_of a e fun z => n1 _ z.symm), b.keep e n2 k⟩
theorem Lay.same (h : Lay ca H xs ls) (s : Same H H') : Lay ca H' xs ls := Paired.mapP h fun _ _ r => r.same s
theorem Lay.putL {ys : List V} (h : Lay ca H xs ls) (e : H c = some (.lst ys)) (k : Keep c H H') : Lay ca H' xs ls := Paired.mapP h fun _ _ r => r.keep e (fun _ z => nomatch z) (fun _ _ _ z => nomatch z) k
theorem Lay.rev (h : Lay ca H xs ls) : Lay ca H xs.reverse ls.reverse := by
  induction h with
  | nil => exact .nil
  | cons r t ih => rw [List.reverse_cons, List.reverse_cons]; exact Paired.snoc ih r
theorem Lay.take (h : Lay ca H xs ls) (i : Nat) : Lay ca H (xs.take i) (ls.take i) := paired_take _ h
theorem Lay.drop (h : Lay ca H xs ls) (i : Nat) : Lay ca H (xs.drop i) (ls.drop i) := paired_drop _ h
end
/-- two new lists in a tuple -/
def Two (ca : Nat → Addr) (H H' : Hp) (t : Addr) (r : Ls × Ls) : Prop := ∃ (l1 l2 : Addr) (xs1 xs2 : List V), H' t = some (.tup [.ref l1, .ref l2]) ∧ H l1 = none ∧ H l2 = none ∧ l1 ≠ l2 ∧ H' l1 = some (.lst xs1) ∧ H' l2 = some (.lst xs2) ∧ Lay ca H' xs1 r.1 ∧ Lay ca H' xs2 r.2
theorem Two.low {ca : Nat → Addr} {H H1 H' : Hp} {t : Addr} {r : Ls × Ls} (h : Two ca H1 H' t r) (s : Same H H1) : Two ca H H' t r :=
  let ⟨l1, l2, xs1, xs2, h1, h2, h3, h⟩ := h
  ⟨l1, l2, xs1, xs2, h1, s.free h2, s.free h3, h⟩
/-! sums of fractions -/
theorem sumQ_tot : ∀ {ls : Ls} {z : Int × Int}, z.2 ≠ 0 → Rat.divInt (sumQ z (ls.map fun x => (x.2.num, (x.2.den : Int)))).1 (sumQ z (ls.map fun x => (x.2.num, (x.2.den : Int)))).2 = Rat.divInt z.1 z.2 + tot ls
  | [], z, h => by
    show Rat.divInt z.1 z.2 = Rat.divInt z.1 z.2 + 0
    grind
  | x :: r, z, h => by
    have := sumQ_tot (ls := r) (z := (z.1 * (x.2.den : Int) + x.2.num * z.2, z.2 * (x.2.den : Int))) (Int.mul_ne_zero h (rat_den _))
    show Rat.divInt (sumQ (z.1 * (x.2.den : Int) + x.2.num * z.2, z.2 * (x.2.den : Int)) _).1 _ = _
    refine this.trans ?_
    rw [← Rat.divInt_add_divInt _ _ h (rat_den x.2), Rat.num_divInt_den]
    simp only [tot]
    grind
theorem sumQ_sz {n : Nat} : ∀ {ls : Ls} {k : Nat} {z : Int × Int}, ZL n ls → Sz k z.1 → Sz k z.2 → Sz (k + ls.length * (n + 1)) (sumQ z (ls.map fun x => (x.2.num, (x.2.den : Int)))).1 ∧ Sz (k + ls.length * (n + 1)) (sumQ z (ls.map fun x => (x.2.num, (x.2.den : Int)))).2
  | [], k, z, _, h1, h2 => ⟨h1.mono (by omega), h2.mono (by omega)⟩
  | x :: r, k, z, h, h1, h2 => by
    obtain ⟨x1, x2⟩ := h x List.mem_cons_self
    have g1 : Sz (k + n + 1) (z.1 * (x.2.den : Int) + x.2.num * z.2) := ((h1.mul x2).add' ((x1.mul h2).mono (by omega))).mono (by omega)
    have g2 : Sz (k + n + 1) (z.2 * (x.2.den : Int)) := (h2.mul x2).mono (by omega)
    have ih := sumQ_sz (ls := r) (k := k + n + 1) (z := (_, _)) (fun y m => h y (List.mem_cons_of_mem _ m)) g1 g2
    rw [List.length_cons, Nat.succ_mul]
    exact ⟨ih.1.mono (by omega), ih.2.mono (by omega)⟩
/-! == [] and != [] of lists of any things -/
def rEqNilL : R2 := fun x y H Q => ∃ (a b : Addr) (xs : List V), x = .ref a ∧ y = .ref b ∧ H a = some (.lst xs) ∧ H b = some (.lst []) ∧ Q (.bl xs.isEmpty) H
def rNeNilL : R2 := fun x y H Q => ∃ (a b : Addr) (xs : List V), x = .ref a ∧ y = .ref b ∧ H a = some (.lst xs) ∧ H b = some (.lst []) ∧ Q (.bl (!xs.isEmpty)) H
theorem op_eqNilL {X : Cx} (hu : X.A.units < cLine) : OpR X (compareOp .Eq) rEqNilL := by
  intro pins s σ H x y v u Q I rx ry ⟨a, b, xs, ex, ey, ha, hb, q⟩
  subst ex ey
  cases (show v = Value.ref a from rx)
  cases (show u = Value.ref b from ry)
  obtain ⟨z, its, k, r, e1⟩ := I.hok a _ ha
  obtain ⟨z2, its2, k2, r2, e2⟩ := I.hok b _ hb
  cases r2
  cases xs with
  | nil =>
    cases r
    exact SeqAt.RcAt.lists (A := X.A) (e := fun _ => true) ⟨_, e1, rfl, _, rfl⟩ ⟨_, e2, rfl, _, rfl⟩ rfl hu (fun j h1 h2 => absurd h1 (by simp)) X.prog X.w X.xe _ ⟨.bl _, H, I, rfl, q⟩
  | cons x xs =>
    cases r with
    | cons r1 r2 => exact SeqAt.RcAt.lists_lengths (A := X.A) ⟨_, e1, rfl, _, rfl⟩ ⟨_, e2, rfl, _, rfl⟩ (by simp) hu X.prog X.w X.xe _ ⟨.bl _, H, I, rfl, q⟩
theorem op_neNilL {X : Cx} (hu : X.A.units < cLine) : OpR X (compareOp .NotEq) rNeNilL := by
  intro pins s σ H x y v u Q I rx ry ⟨a, b, xs, ex, ey, ha, hb, q⟩
  subst ex ey
  cases (show v = Value.ref a from rx)
  cases (show u = Value.ref b from ry)
  obtain ⟨z, its, k, r, e1⟩ := I.hok a _ ha
  obtain ⟨z2, its2, k2, r2, e2⟩ := I.hok b _ hb
  cases r2
  cases xs with
  | nil =>
    cases r
    exact SeqAt.RcNeAt.lists (A := X.A) (e := fun _ => true) ⟨_, e1, rfl, _, rfl⟩ ⟨_, e2, rfl, _, rfl⟩ rfl hu (fun j h1 h2 => absurd h1 (by simp)) X.prog X.w X.xe _ ⟨.bl _, H, I, rfl, q⟩
  | cons x xs =>
    cases r with
    | cons r1 r2 => exact SeqAt.RcNeAt.lists_lengths (A := X.A) ⟨_, e1, rfl, _, rfl⟩ ⟨_, e2, rfl, _, rfl⟩ (by simp) hu X.prog X.w X.xe _ ⟨.bl _, H, I, rfl, q⟩
/-! neighbours are unlike -/
def NoAdj : Ls → Prop
  | [] => True
  | [_] => True
  | x :: y :: r => x.1 ≠ y.1 ∧ NoAdj (y :: r)
theorem noAdj_iff {ls : Ls} : NoAdj ls ↔ ∀ i x y, ls[i]? = some x → ls[i + 1]? = some y → x.1 ≠ y.1 := by
  induction ls with
  | nil => exact ⟨fun _ i x y h => by simp at h, fun _ => trivial⟩
  | cons a r ih =>
    cases r with
    | nil => exact ⟨fun _ i x y h k => by simp at k, fun _ => trivial⟩
    | cons b r =>
      constructor
      · rintro ⟨h1, h2⟩ i x y hx hy
        cases i with
        | zero =>
          cases hx
          cases hy
          exact h1
        | succ i => exact ih.mp h2 i x y hx hy
      · intro h
        exact ⟨h 0 a b rfl rfl, ih.mpr fun i x y hx hy => h (i + 1) x y hx hy⟩
theorem noAdj_snoc {ls : Ls} {x : Str × Rat} (h : NoAdj ls) (n : ∀ y, ls.getLast? = some y → y.1 ≠ x.1) : NoAdj (ls ++ [x]) := by
  refine noAdj_iff.mpr fun i a b ha hb => ?_
  have lb := (List.getElem?_eq_some_iff.mp hb).1
  rw [List.length_append] at lb
  have lb : i + 1 < ls.length + 1 := lb
  rw [List.getElem?_append_left (by omega)] at ha
  by_cases c : i + 1 < ls.length
  · rw [List.getElem?_append_left c] at hb
    exact noAdj_iff.mp h i a b ha hb
  · have e : i + 1 = ls.length := by omega
    rw [e, List.getElem?_concat_length] at hb
    cases hb
    refine n a ?_
    rw [List.getLast?_eq_getElem?, ← ha]
    congr 1
    omega
theorem noAdj_rev {ls : Ls} (h : NoAdj ls) : NoAdj ls.reverse := by
  refine noAdj_iff.mpr fun i a b ha hb => ?_
  have lb := (List.getElem?_eq_some_iff.mp hb).1
  rw [List.length_reverse] at lb
  rw [List.getElem?_reverse (by omega)] at ha
  rw [List.getElem?_reverse lb] at hb
  have := noAdj_iff.mp h (ls.length - 1 - (i + 1)) b a hb (by rw [← ha]; congr 1; omega)
  exact this.symm
theorem noAdj_names {ls ms : Ls} (h : NoAdj ls) (e : ms.map (·.1) = ls.map (·.1)) : NoAdj ms := by
  refine noAdj_iff.mpr fun i a b ha hb => ?_
  have g1 : (ls.map (·.1))[i]? = some a.1 := by rw [← e, List.getElem?_map, ha]; rfl
  have g2 : (ls.map (·.1))[i + 1]? = some b.1 := by rw [← e, List.getElem?_map, hb]; rfl
  rw [List.getElem?_map] at g1 g2
  obtain ⟨x, hx, ex⟩ := Option.map_eq_some_iff.mp g1
  obtain ⟨y, hy, ey⟩ := Option.map_eq_some_iff.mp g2
  rw [← ex, ← ey]
  exact noAdj_iff.mp h i x y hx hy
theorem noAdj_tail {x : Str × Rat} {ls : Ls} (h : NoAdj (x :: ls)) : NoAdj ls := noAdj_iff.mpr fun i a b ha hb => noAdj_iff.mp h (i + 1) a b ha hb
theorem fst_left {ls : Ls} : ∀ {w : Rat}, NoAdj ls → NoAdj (fst1 ls w).2 := by
  induction ls with
  | nil => exact fun _ => trivial
  | cons x r ih =>
    intro w h
    unfold fst1
    split
    · exact ih (noAdj_tail h)
    · split
      · exact h
      · exact noAdj_names h rfl
/-! the law's own going through -/
def joinS (acc : Ls) (x : Str × Rat) : Ls := match acc.getLast? with
  | some y => if y.1 = x.1 then acc.dropLast ++ [(x.1, y.2 + x.2)] else acc ++ [x]
  | none => acc ++ [x]
def joinL (ls : Ls) : Ls := ls.foldl joinS []
theorem joinL_snoc {ls : Ls} {x : Str × Rat} : joinL (ls ++ [x]) = joinS (joinL ls) x := by
  unfold joinL
  rw [List.foldl_append]
  rfl
theorem joinL_id_rev : ∀ {rs : Ls}, NoAdj rs.reverse → joinL rs.reverse = rs.reverse := by
  intro rs
  induction rs with
  | nil => exact fun _ => rfl
  | cons x r ih =>
    intro h
    rw [List.reverse_cons] at h ⊢
    have h1 : NoAdj r.reverse := noAdj_iff.mpr fun i a b ha hb => noAdj_iff.mp h i a b (by rw [List.getElem?_append_left (List.getElem?_eq_some_iff.mp ha).1]; exact ha) (by rw [List.getElem?_append_left (List.getElem?_eq_some_iff.mp hb).1]; exact hb)
    rw [joinL_snoc, ih h1]
    unfold joinS
    cases e : r.reverse.getLast? with
    | none => rfl
    | some y =>
      refine if_neg fun q => ?_
      have l0 : 0 < r.reverse.length := by
        cases hr : r.reverse with
        | nil => rw [hr] at e; cases e
        | cons _ _ => simp
      rw [List.getLast?_eq_getElem?] at e
      refine noAdj_iff.mp h (r.reverse.length - 1) y x ?_ ?_ q
      · rw [List.getElem?_append_left (by omega)]
        exact e
      · rw [show r.reverse.length - 1 + 1 = r.reverse.length by omega, List.getElem?_concat_length]
theorem joinL_id {ls : Ls} (h : NoAdj ls) : joinL ls = ls := by
  have := joinL_id_rev (rs := ls.reverse)
  rw [List.reverse_reverse] at this
  exact this h
theorem joinL_zq {n : Nat} : ∀ {rs : Ls}, ZL n rs → ZL (1 + rs.length * (n + 1)) (joinL rs.reverse) ∧ (joinL rs.reverse).length ≤ rs.length
  | [], _ => ⟨fun x m => (by cases m), Nat.le_refl _⟩
  | x :: r, h => by
    obtain ⟨h1, h2⟩ := joinL_zq (n := n) (rs := r) fun y m => h y (List.mem_cons_of_mem _ m)
    have hx := h x List.mem_cons_self
    rw [List.reverse_cons, joinL_snoc, List.length_cons, Nat.succ_mul]
    unfold joinS
    split
    · rename_i y e
      have my : y ∈ joinL r.reverse := List.mem_of_getLast? e
      split
      · refine ⟨fun z m => ?_, ?_⟩
        · rcases List.mem_append.mp m with m | m
          · exact (h1 z ((List.dropLast_sublist _).subset m)).mono (by omega)
          · rw [List.mem_singleton.mp m]
            exact ((h1 y my).add hx).mono (by omega)
        · rw [List.length_append, List.length_dropLast]
          simp only [List.length_cons, List.length_nil]
          omega
      · refine ⟨fun z m => ?_, by rw [List.length_append]; simp only [List.length_cons, List.length_nil]; omega⟩
        rcases List.mem_append.mp m with m | m
        · exact (h1 z m).mono (by omega)
        · rw [List.mem_singleton.mp m]
          exact hx.mono (by omega)
    · refine ⟨fun z m => ?_, by rw [List.length_append]; simp only [List.length_cons, List.length_nil]; omega⟩
      rcases List.mem_append.mp m with m | m
      · exact (h1 z m).mono (by omega)
      · rw [List.mem_singleton.mp m]
        exact hx.mono (by omega)
theorem joinL_sz {n : Nat} {ls : Ls} (h : ZL n ls) : ZL (1 + ls.length * (n + 1)) (joinL ls) ∧ (joinL ls).length ≤ ls.length := by
  have := joinL_zq (n := n) (rs := ls.reverse) fun x m => h x (List.mem_reverse.mp m)
  rw [List.reverse_reverse, List.length_reverse] at this
  exact this
theorem fst_snoc {x : Str × Rat} : ∀ {ls : Ls} {w : Rat}, fst1 (ls ++ [x]) w = if (fst1 ls w).2 = [] then (if x.2 ≤ w - tot ls then ((fst1 ls w).1 ++ [x], []) else if w - tot ls = 0 then ((fst1 ls w).1, [x]) else ((fst1 ls w).1 ++ [(x.1, w - tot ls)], [(x.1, x.2 - (w - tot ls))])) else ((fst1 ls w).1, (fst1 ls w).2 ++ [x])
  | [], w => by
    have e : w - tot [] = w := by simp only [tot]; grind
    rw [e]
    show fst1 [x] w = if ([] : Ls) = [] then (if x.2 ≤ w then (([] : Ls) ++ [x], []) else if w = 0 then ([], [x]) else (([] : Ls) ++ [(x.1, w)], [(x.1, x.2 - w)])) else _
    rw [if_pos rfl]
    rfl
  | y :: r, w => by
    show (if y.2 ≤ w then (y :: (fst1 (r ++ [x]) (w - y.2)).1, (fst1 (r ++ [x]) (w - y.2)).2) else if w = 0 then ([], y :: (r ++ [x])) else ([(y.1, w)], (y.1, y.2 - w) :: (r ++ [x]))) = _
    have et : w - tot (y :: r) = w - y.2 - tot r := by simp only [tot]; grind
    by_cases c : y.2 ≤ w
    · rw [if_pos c, fst_snoc (ls := r) (w := w - y.2)]
      have e : fst1 (y :: r) w = (y :: (fst1 r (w - y.2)).1, (fst1 r (w - y.2)).2) := if_pos c
      rw [e, et]
      by_cases d : (fst1 r (w - y.2)).2 = []
      · rw [if_pos d, if_pos d]
        by_cases f : x.2 ≤ w - y.2 - tot r
        · rw [if_pos f, if_pos f]; rfl
        · rw [if_neg f, if_neg f]
          by_cases g : w - y.2 - tot r = 0
          · rw [if_pos g, if_pos g]
          · rw [if_neg g, if_neg g]; rfl
      · rw [if_neg d, if_neg d]
    · rw [if_neg c]
      by_cases d : w = 0
      · have e : fst1 (y :: r) w = ([], y :: r) := (if_neg c).trans (if_pos d)
        rw [if_pos d, e, if_neg (by simp)]
        rfl
      · have e : fst1 (y :: r) w = ([(y.1, w)], (y.1, y.2 - w) :: r) := (if_neg c).trans (if_neg d)
        rw [if_neg d, e, if_neg (by simp)]
        rfl
theorem fst_nil {ls : Ls} : ∀ {w : Rat}, 0 ≤ w → (fst1 ls w).2 = [] → tot ls ≤ w := by
  induction ls with
  | nil => exact fun h _ => h
  | cons x r ih =>
    intro w h e
    unfold fst1 at e
    split at e
    · rename_i c
      have := ih (w := w - x.2) (by grind) e
      simp only [tot]
      grind
    · split at e <;> cases e
theorem rat_pos {a b : Int} (ha : 0 < a) (hb : 0 < b) : 0 < Rat.divInt a b := by
  have b0 : b ≠ 0 := by omega
  have e : Rat.divInt a b = Rat.divInt (Rat.divInt a b).num (Rat.divInt a b).den := (Rat.num_divInt_den _).symm
  have c := (Rat.divInt_eq_divInt_iff b0 (rat_den _)).mp e
  have dp : (0 : Int) < ((Rat.divInt a b).den : Int) := by have := (Rat.divInt a b).den_pos; omega
  have np : 0 < (Rat.divInt a b).num := by
    have h1 : 0 < a * ((Rat.divInt a b).den : Int) := Int.mul_pos ha dp
    rw [c] at h1
    exact Int.pos_of_mul_pos_left h1 hb
  refine (Rat.lt_iff 0 (Rat.divInt a b)).mpr ?_
  show (0 : Int) * _ < _ * ((1 : Nat) : Int)
  rw [Int.zero_mul]
  simpa using np
theorem sz20 {a : Int} (h : 0 ≤ a) (l : a ≤ 1000000) : Sz 20 a := by
  have e : (2 : Nat) ^ 20 = 1048576 := by decide
  show a.natAbs < 2 ^ 20
  omega
theorem rat_made {a b : Int} (ha : 1 ≤ a) (hb : 1 ≤ b) (la : a ≤ 1000000) (lb : b ≤ 1000000) : 0 < Rat.divInt a b ∧ Zq 20 (Rat.divInt a b) :=
  ⟨rat_pos (by omega) (by omega), zq_of (by omega) rfl (sz20 (by omega) la) (sz20 (by omega) lb)⟩
theorem fst_len (ls : Ls) : ∀ w : Rat, (fst1 ls w).1.length ≤ ls.length ∧ (fst1 ls w).2.length ≤ ls.length := by
  induction ls with
  | nil => exact fun _ => ⟨Nat.le_refl _, Nat.le_refl _⟩
  | cons x r ih =>
    intro w
    unfold fst1
    split
    · exact ⟨Nat.succ_le_succ (ih _).1, Nat.le_succ_of_le (ih _).2⟩
    · split
      · exact ⟨Nat.zero_le _, Nat.le_refl _⟩
      · exact ⟨Nat.succ_le_succ (Nat.zero_le _), Nat.le_refl _⟩
end Lo

set_option Elab.async false
set_option linter.all false
set_option maxRecDepth 100000
set_option maxHeartbeats 4000000
namespace Lo
open PySem PySem.Spec PyProof.Rows L2 L2H
/-! ### calls of own defs while an exception is handled -/
theorem hotB {CX : CXT} {P : Program} {w : World} {K : PySem.W.Frag} {mg : Str → Option Value} {base : Heap} {N : List Str} {qual : Str} {scope : Scope} {f : Addr} {cd : Value} {A : Around} {outer : List Env} {s : Shared} {H : Hp} {E : XK} {p : Addr × Obj} (h : Hot1 A p) :
    HotC (cxH CX P w K mg base N qual scope f cd A outer s H E p) := ⟨p, h, List.mem_cons_self⟩
structure OwnH (P : Program) (w : World) (K : PySem.W.Frag) (mg : Str → Option Value) (base : Heap) (k : Nat) (x : Str) (ps : List Str) (sp : Sp) : Prop where
  ex : ∃ f fd, FnH P w K mg base (L2.CX P w) k f fd ps sp ∧ mg x = some (.ref f) ∧ PySem.W.keepIn K (.ref f) = true ∧ Binds K fd ps []
structure OwnMH (P : Program) (w : World) (K : PySem.W.Frag) (mg : Str → Option Value) (base : Heap) (k : Nat) (C : Addr) (m : Str) (ps : List Str) (sp : Sp) : Prop where
  cl : Cls K C
  ex : ∃ f fd, FnH P w K mg base (L2.CX P w) k f fd ps sp ∧ Meth K C m f ∧ Binds K fd ps []
structure OwnIH (P : Program) (w : World) (K : PySem.W.Frag) (mg : Str → Option Value) (base : Heap) (k : Nat) (x : Str) (C : Addr) (ps : List Str) (dvs : List V) (sp : Sp) : Prop where
  ex : ∃ f fd ds, FnH P w K mg base (L2.CX P w) k f fd ps sp ∧ Mk K C f ∧ mg x = some (.ref C) ∧ Binds K fd ps ds ∧ Vals dvs ds
theorem pasH {X : Cx} : ∀ σ, PassesAt (L2.CX X.prog X.w) X σ ((fun _ => E0) σ) := fun σ pins H s e s' I h => by
  obtain ⟨_, _, _, _, _, _, _, _, _, _, _, _, z⟩ := h
  exact z.elim
theorem passH {X : Cx} : Passes (L2.CX X.prog X.w) X E0 := fun pins σ => pasH σ pins
theorem okH {P : Program} {w : World} {K : PySem.W.Frag} {mg : Str → Option Value} {base : Heap} {x qual : Str} {st : Stmt} {f : Addr} {fd : FuncData} {N ps : List Str} {k : Nat} {sp : Sp} (F : Fun K x qual st f fd) (sc : FnScope N ps (defScope st))
    (ln : ∀ vs H Q E, sp vs H Q E → vs.length = ps.length) (bd : ∀ (cv : Value) (A : Around) (outer : List Env) (s : Shared) (H : Hp) (vs : List V) (Q : VK) (E : XK) (p : Addr × Obj), Hot1 A p → RoomH k (A.deeper (envOfC qual (defScope st) s.heap.objs.size f cv)) → sp vs H Q E →
      ∃ t, PSs (cxH (L2.CX P w) P w K mg base N qual (defScope st) f cv A outer s H E p) (defBody st) t ∧ t { nx := fun _ H' => Q .non H', rt := Q } (L2.start N vs) H) :
    FnH P w K mg base (L2.CX P w) (k + 1) f fd ps sp := by
  have ⟨_, _, _, _, _, _, _, _, _, e, look, hcd⟩ := F.ex
  subst e
  exact fn_ofH look hcd sc ln fun A outer s H vs Q E p hot hr h => bd _ A outer s H vs Q E p hot hr h
theorem okHD {P : Program} {w : World} {K : PySem.W.Frag} {mg : Str → Option Value} {base : Heap} {x qual : Str} {params : Arguments} {body : List Stmt} {scope : Scope} {dvs : List V} {kws : List (Str × V)} {f : Addr} {fd : FuncData} {N ps : List Str} {k : Nat} {sp : Sp} (F : FunD K x qual params body scope dvs kws f fd) (sc : FnScope N ps scope)
    (ln : ∀ vs H Q E, sp vs H Q E → vs.length = ps.length) (bd : ∀ (cv : Value) (A : Around) (outer : List Env) (s : Shared) (H : Hp) (vs : List V) (Q : VK) (E : XK) (p : Addr × Obj), Hot1 A p → RoomH k (A.deeper (envOfC qual scope s.heap.objs.size f cv)) → sp vs H Q E →
      ∃ t, PSs (cxH (L2.CX P w) P w K mg base N qual scope f cv A outer s H E p) body t ∧ t { nx := fun _ H' => Q .non H', rt := Q } (L2.start N vs) H) :
    FnH P w K mg base (L2.CX P w) (k + 1) f fd ps sp := by
  have ⟨_, _, _, _, _, _, _, _, _, _, e, look, hcd, _, _⟩ := F.ex
  subst e
  exact fn_ofH look hcd sc ln fun A outer s H vs Q E p hot hr h => bd _ A outer s H vs Q E p hot hr h
section
variable {X : Cx} {k : Nat} {C : Addr} {ps : List Str} {sp : Sp} {x m : Str} {p pos apos : Pos} {e o : Expr} {es : List Expr} {ta : TE} {t : TA} {dvs : List V}
theorem pe_ownH {E : L2.St → XK} (O : OwnH X.prog X.w X.K X.mg X.base k x ps sp) (hr : RoomH k X.A) (hg : Gl X x) (hx : ∀ σ, PassesAt (L2.CX X.prog X.w) X σ (E σ)) (ha : PA X (e :: es) t) (hc : HotC X := by first | assumption | exact hotB (by assumption))
    (hdb : (x == ("__debug__" : Str)) = false := by decide) (he : starEach (e :: es) X.env = (false, eval e X.env) :: starEach es X.env := by rfl) (hpl : (backTo pos (starEach es X.env)).any (·.1) = false := by rfl) :
    PE X (.Call (.Name x p) (e :: es) [] pos) (tCallS sp E t) := by
  obtain ⟨f, fd, F, hm, hk, hb⟩ := O.ex
  exact pe_callH F hr hc hg hm hk hb hx ha hdb he hpl
theorem pe_ownmH {E : L2.St → XK} {pl : Sem Bool} (O : OwnMH X.prog X.w X.K X.mg X.base k C m ps sp) (he : PE X o ta) (hr : RoomH k X.A) (hx : ∀ σ, PassesAt (L2.CX X.prog X.w) X σ (E σ)) (ha : PA X (e :: es) t) (hc : HotC X := by first | assumption | exact hotB (by assumption))
    (hst : starEach (e :: es) X.env = (false, eval e X.env) :: starEach es X.env := by rfl) (hpl : (backTo pos (starEach es X.env)).any (·.1) = false := by rfl)
    (ht : eval (.Call (.Attribute o m apos) (e :: es) [] pos) X.env = (do
      let ov ← eval o X.env
      standAt apos.atName
      let (f, first) ← holding [ov] (getMethod ov m pl)
      callWith pos f first (backTo pos (starEach (e :: es) X.env)) (backToKw pos (keywordEach [] X.env))) := by rfl) :
    PE X (.Call (.Attribute o m apos) (e :: es) [] pos) (tMethS C m sp E ta t) := by
  obtain ⟨f, fd, F, hm, hb⟩ := O.ex
  exact pe_methH he O.cl hm F hr hc hb hx ha hst hpl ht
theorem run_makeH {E : L2.St → XK} {f : Addr} {fd : FuncData} {ds : List Value} {pins : List (Addr × Obj)} {σ : L2.St} {H : Hp} {s : Shared} {Q : VK} {us : List Value} {vs : List V} (M : Mk X.K C f) (F : FnH X.prog X.w X.K X.mg X.base (L2.CX X.prog X.w) k f fd ps sp)
    (hr : RoomH (k + 1) X.A) (hc : HotC X) (hb : Binds X.K fd ps ds) (hd : Vals dvs ds) (hx : PassesAt (L2.CX X.prog X.w) X σ (E σ)) (I : Inv X pins σ H s) (r : Vals vs us)
    (h : ∀ x dx, H x = none → H dx = none → dx ≠ x → sp (.ref x :: (vs ++ dvs)) (upd (upd H dx (.own x)) x (.ins C dx [])) (fun v H2 => v = .non ∧ Q (.ref x) H2) (E σ)) :
    wpAny (model X.prog X.w) X.A (call (.ref C) us) (EP X pins σ Q) X.xe s := by
  obtain ⟨pn, hot, hpn⟩ := hc
  have hq := h (s.heap.objs.size + 1) s.heap.objs.size (I.hok.fresh (Nat.le_succ _)) (I.hok.fresh (Nat.le_refl _)) (Nat.ne_of_lt (Nat.lt_succ_self _))
  have I2 := Inv.made (C := C) I
  have r2 : Vals (V.ref (s.heap.objs.size + 1) :: (vs ++ dvs)) (Value.ref (s.heap.objs.size + 1) :: (us ++ ds)) := .cons rfl (r.append hd)
  have hl : (Value.ref (s.heap.objs.size + 1) :: us ++ ds).length = ps.length := by
    have e := r2.length
    rw [F.len _ _ _ _ hq] at e
    exact e.symm
  obtain ⟨q1, q2, q3, q4, q5⟩ := I2.pin pn (List.mem_append_left _ hpn)
  refine wpAny_call (make_map (f := f) I.kIn M.makes M.init (beq_iff_eq.mp M.fn) (codeAny_mono (F.run _ X.stack _ _ ⟨Value.ref (s.heap.objs.size + 1) :: us, []⟩ (Value.ref (s.heap.objs.size + 1) :: (us ++ ds)) _ _ (E σ) pn (hr.make C us [])
    ⟨hot.1, hot.2⟩ ⟨q1, q2, fun m => (List.mem_cons.mp (I2.stkSub pn.1 m)).elim q3 q4, q5⟩ (I2.env0.make C us []) (hb _ (Value.ref (s.heap.objs.size + 1) :: us) I2.kIn hl) r2 hq) fun r s' hq' => ?_))
  cases r with
  | error e => exact hx pins _ _ e s' I2 hq'
  | ok fl =>
    cases fl with
    | ret u =>
      obtain ⟨v, H', I3, rv, ev, q3⟩ := I2.after hq'
      subst ev
      exact ⟨rv, ⟨V.ref (s.heap.objs.size + 1), H', I3, rfl, q3⟩⟩
    | next => exact False.elim hq'
    | brk => exact False.elim hq'
    | cont => exact False.elim hq'
theorem pe_owniH {E : L2.St → XK} (O : OwnIH X.prog X.w X.K X.mg X.base k x C ps dvs sp) (hr : RoomH (k + 1) X.A) (hg : Gl X x) (hx : ∀ σ, PassesAt (L2.CX X.prog X.w) X σ (E σ)) (ha : PA X (e :: es) t) (hc : HotC X := by first | assumption | exact hotB (by assumption))
    (hdb : (x == ("__debug__" : Str)) = false := by decide) (he : starEach (e :: es) X.env = (false, eval e X.env) :: starEach es X.env := by rfl) (hpl : (backTo pos (starEach es X.env)).any (·.1) = false := by rfl) :
    PE X (.Call (.Name x p) (e :: es) [] pos) (tMakeS C sp dvs E t) := by
  obtain ⟨f, fd, ds, F, M, hm, hb, hd⟩ := O.ex
  refine ⟨fun pins s σ H Q I h => ?_⟩
  refine wpAny_Call_Name_kw (ld_glob I hg hm ?_ hdb)
  refine PySem.W.callWith_K (h₀ := X.base) I.ok.mod.kin M.kp (thn (ha.run pos pins s σ H _ I h) fun us s1 ⟨vs, H1, I1, r, q⟩ => ⟨I1.kIn, ?_⟩) he hpl
  exact run_makeH M F hr hc hb hd (hx σ) I1 r q
end
/-! ### own operators there -/
section
open PySem.W
variable {X : Cx} {k : Nat} {C : Addr} {ps : List Str} {sp : Sp} {E : XK}
theorem op_ownH (o : AOp) (A : Arith X.K C) (O : OwnMH X.prog X.w X.K X.mg X.base k C o.m ps sp) (hr : RoomH k X.A) (hx : Passes (L2.CX X.prog X.w) X E) (hc : HotC X := by first | assumption | exact hotB (by assumption)) : OpR X (binaryOp o.op) (rOwn C sp E) := by
  intro pins s σ H x y v u Q I rx ry h
  obtain ⟨a, dx, fs, rfl, ha, hy, hsp⟩ := h
  obtain rfl : v = Value.ref a := rx
  obtain ⟨f, fd, Fo, hm, hb⟩ := O.ex
  obtain ⟨_, od, J⟩ := inst_at I ha
  have h1 : PySem.W.findIn X.K (.ref C) (PySem.dunder o.op.info.2) = some (some (.ref f)) := by rw [o.em]; exact hm.at_
  obtain ⟨rc, h2, hrc⟩ : ∃ rc, PySem.W.findIn X.K (.ref C) (dunderR o.op.info.2) = some rc ∧ refOr rc = true := by
    rw [o.er]
    obtain ⟨a, b, c, q1, q2, q3⟩ := A.refl
    cases o
    · exact ⟨_, q1⟩
    · exact ⟨_, q2⟩
    · exact ⟨_, q3⟩
  have run := run_fnH (E := fun _ => E) (us := [.ref a, u]) (vs := [.ref a, y]) Fo hr hc hb (fun pins => hx pins σ) I (.cons rfl (.cons ry .nil)) hsp
  have run2 := wpAny_mono run (fun u s' q => back_of (R := fun v s' => ∃ z, some v = some z ∧ EP X pins σ Q z s') q fun v s' q => ⟨v, rfl, q⟩) fun _ _ e => e
  rcases hy with ⟨i, rfl⟩ | ⟨b, dy, gs, rfl, hb'⟩
  · obtain ⟨t, rfl⟩ := ry
    obtain ⟨fo, ro, e1, e2⟩ : ∃ fo ro, PySem.W.findIn X.K (.type "int") (PySem.dunder o.op.info.2) = some fo ∧ PySem.W.findIn X.K (.type "int") (dunderR o.op.info.2) = some ro := by
      rw [o.em, o.er]
      obtain ⟨p1, p2, p3, p4, p5, p6, q1, q2, q3, q4, q5, q6⟩ := A.ofInt
      cases o
      · exact ⟨_, _, q1, q2⟩
      · exact ⟨_, _, q3, q4⟩
      · exact ⟨_, _, q5, q6⟩
    exact bin_of1 (bin1_int I.kIn J A.sf h1 hm.fn h2 (refOr_of hrc) e1 e2 A.s1 run2)
  · obtain rfl : u = Value.ref b := ry
    obtain ⟨_, od', J'⟩ := inst_at I hb'
    exact bin_of1 (bin1_same I.kIn J J'.type A.sf h1 hm.fn run2)
theorem op_reflH (o : AOp) (A : Arith X.K C) (R : OwnMH X.prog X.w X.K X.mg X.base k C o.r ps sp) (hr : RoomH k X.A) (hx : Passes (L2.CX X.prog X.w) X E) (hc : HotC X := by first | assumption | exact hotB (by assumption)) : OpR X (binaryOp o.op) (rRefl C sp E) := by
  intro pins s σ H x y v u Q I rx ry h
  obtain ⟨i, b, dy, gs, rfl, rfl, hb, hsp⟩ := h
  obtain ⟨t, rfl⟩ := rx
  obtain rfl : u = Value.ref b := ry
  obtain ⟨f, fd, Fo, hm, hbd⟩ := R.ex
  obtain ⟨hobj, od, J⟩ := inst_at I hb
  obtain ⟨g, h1⟩ : ∃ g : Addr, PySem.W.findIn X.K (.ref C) (PySem.dunder o.op.info.2) = some (some (.ref g)) := by
    rw [o.em]
    obtain ⟨a, b, c, q1, q2, q3⟩ := A.has
    cases o
    · exact ⟨_, q1⟩
    · exact ⟨_, q2⟩
    · exact ⟨_, q3⟩
  have h2 : PySem.W.findIn X.K (.ref C) (dunderR o.op.info.2) = some (some (.ref f)) := by rw [o.er]; exact hm.at_
  have run := run_fnH (E := fun _ => E) (us := [.ref b, .int i t]) (vs := [.ref b, .int i]) Fo hr hc hbd (fun pins => hx pins σ) I (.cons rfl (.cons ⟨t, rfl⟩ .nil)) hsp
  exact bin_of1 (bin1_refl I.kIn J A.sf h1 h2 hm.fn o.fills A.s2 (fun Q h => o.decl hobj Q h) (wpAny_mono run (fun u s' q => back_of (R := fun v s' => ∃ z, some v = some z ∧ EP X pins σ Q z s') q fun v s' q => ⟨v, rfl, q⟩) fun _ _ e => e))
/-- a number less an own one -/
theorem op_eitherR {f : Value → Value → Sem Value} {r1 r2 : V → V → Hp → VK → Prop} (h1 : OpR X f r1) (h2 : OpR X f r2) : OpR X f (fun x y H Q => r1 x y H Q ∨ r2 x y H Q) :=
  fun pins s σ H x y v u Q I rx ry h => h.elim (h1 pins s σ H x y v u Q I rx ry) (h2 pins s σ H x y v u Q I rx ry)
end
/-! ### a list walked there -/
theorem turn_listH {P : Program} {w : World} {K : PySem.W.Frag} {tg : Expr} (a it : Addr) : TurnH P w K tg (Itl K a) [it] it (fun i h => h.IsListIter it a i) := by
  have T := turn_list (P := P) (w := w) (K := K) (tg := tg) a it
  refine ⟨T.mem, T.obj, T.keep, ?_, ?_, T.self⟩
  · intro X hP hw hK _ i pins s σ H E I hf st hg
    subst hP hw hK
    obtain ⟨xs, x, hq, hx⟩ := hg
    obtain ⟨its, rv, p, _⟩ := I.list hq
    obtain ⟨u, hu, ru⟩ := rv.get hx
    obtain ⟨f0, f1, f2, f3, f4, f5⟩ := hf it (by simp)
    refine wpAny_pyNext_list_item st p.isList (x := u) (by simpa using hu) fun g st' sb => ?_
    have I1 : Inv X pins σ H { s with heap := g } := I.turned (t' := s.toks) (fun b o hb e => (sb.2 b hb).trans e) f0 f1 f3 f4 f5
    have ⟨o, e, c, d⟩ := st'
    refine ⟨u, rfl, go_of (s := { s with heap := g }) e c d (by decide) ⟨x, H, I1, ru, ⟨rfl, fun ys hy => ?_⟩, st', fun b hb => (hf b hb).1⟩⟩
    rw [I.list_inj hy hq]
    exact hx
  · intro X hP hw hK hc i pins s σ H E I hf st hg
    subst hP hw hK
    obtain ⟨xs, hq, hx⟩ := hg
    obtain ⟨its, rv, p, _⟩ := I.list hq
    have ⟨f0, f1, f2, f3, f4, f5⟩ := hf it (by simp)
    have hl := rv.length
    obtain ⟨pn, ⟨hh, vs, e1, c1⟩, hpn⟩ := hc
    have P1 := (I.pin pn (List.mem_append_left _ hpn)).1
    have ne : pn.1 ≠ it := fun z => f5 pn (List.mem_append_left _ hpn) z
    exact list_end_hot (x1 := pn.1) ⟨hh, pn.2, vs, P1, e1, c1⟩ ne st p.isList (by simp; omega) fun g eb => ⟨rfl, I.turned (t' := s.toks) (fun b o hb e => eb b o hb e) f0 f1 f3 f4 f5⟩
theorem pi_listH {X : Cx} {tg l : Expr} {tl : TE} (hl : PE X l tl) : PIH X tg l (iList X.K tl) := by
  refine ⟨fun pins s σ H R I h => ?_⟩
  refine thn (hl.run pins s σ H _ I h) fun v s1 ⟨x, H1, I1, r1, a, e, ⟨xs, hq⟩, q⟩ => ?_
  subst e
  obtain rfl : v = Value.ref a := r1
  obtain ⟨its, rv, p, _⟩ := I1.list hq
  refine wpAny_pyIter_list p.isList ⟨s1.heap.objs.size, [s1.heap.objs.size], _, _, H1, rfl, I1.kept (t' := s1.toks) fun b o e => Heap.get?_push_of_some _ e, turn_listH a _, ⟨_, Heap.get?_push_size _ rfl, rfl, rfl⟩, fun b hb => ?_, q⟩
  obtain rfl : b = s1.heap.objs.size := by simpa using hb
  exact I1.fpOk (Nat.le_refl _) (I1.hok.fresh (Nat.le_refl _))
theorem ps_forHot {X : Cx} {tg iter : Expr} {body : List Stmt} {wi : TI} {g : TG} {tb : TS} {pos : Pos} (hp : PassesOwn (model X.prog X.w) X.A X.env X.xe) (hi : PIH X tg iter wi) (hg : PG X tg g) (hb : PSs X body tb) (hc : HotC X := by first | assumption | exact hotB (by assumption))
    (hs : ∀ x, foldedSetIterable iter X.env x = pure x := by intro _; rfl) : PS X (.For tg iter body [] pos) (tFor wi g tb) := ps_forH hp hc hi hg hb hs
theorem ps_raiseHot {X : Cx} {W : WX} {e : Expr} {t : L2.St → Hp → XK → Prop} {pos : Pos} (tk : L2.Takes X W) (he : L2N.PMk X e t) (hc : HotC X := by first | assumption | exact hotB (by assumption)) : PS X (.Raise (some e) none pos) (fun _ σ H => t σ H fun cls d H' => W cls d σ H') := ps_raiseH hc tk he
/-! ### within an except suite: a tuple taken apart -/
theorem tuple_end_hot {prog : Program} {w : World} {A : Around} {E : Value → Shared → Prop} {s : Shared} {it l x1 : Addr} {i : Nat} {items : Array Value} {Q : Option Value → Shared → Prop} (hot : HotX.HotAt A x1 s.heap) (ne : x1 ≠ it)
    (hit : s.heap.IsTupleIter it l i) (hl : s.heap.IsTuple l items) (over : items[i]? = none) (q : ∀ h', Heap.ExtBut it s.heap h' → Q none { s with heap := h' }) : wpAny (model prog w) A (pyNext (.ref it)) Q E s := by
  have ⟨handled, o1, vs1, e1, d1, c1⟩ := hot
  have ⟨o, ho, _, hd⟩ := hit
  have ⟨ol, hol, _, _, hdl⟩ := hl
  unfold pyNext
  apply wpAny_bind
  apply wpAny_attempt
  apply wpAny_callSpecial?_slot (name := Str.ofString "__next__") hit.typeIs F.slot_tuple_iterator_next
  apply wpAny_call_entry F.slot_tuple_iterator_next hit.typeIs F.entry_tuple_iterator_next ?_ (F.args_tuple_iterator_next_1 _)
  show wpAny _ _ (field (.ref it) 0 >>= _) _ _ s
  apply wpAny_bind
  apply wpAny_field ho hd (x := .ref l) rfl
  show wpAny _ _ (if (Value.ref l == Value.none) = true then _ else _) _ _ s
  rw [if_neg (show ¬ ((Value.ref l == Value.none) = true) by exact Bool.false_ne_true)]
  show wpAny _ _ (field (.ref it) 1 >>= _) _ _ s
  apply wpAny_bind
  apply wpAny_field ho hd (x := .int i 0) rfl
  show wpAny _ _ (seqItems? (.ref l) >>= _) _ _ s
  apply wpAny_bind
  apply wpAny_seqItems hol hdl
  simp only [Int.toNat_natCast, over]
  apply wpAny_bind
  apply wpAny_rule
  apply wpAny_bind
  apply wpAny_setField ho hd (by simp)
  show wpAny _ _ (newExc (.type "StopIteration") [] >>= _) _ _ _
  apply wpAny_bind
  simp only [newExc, newTuple]
  apply wpAny_bind
  refine wpAny_newObj_type ?_ (by size_fits)
  refine wpAny_bind (m := firstArgMember _ _) (wpAny_of_eq (a := Value.none) (by first | rfl | (simp only [firstArgMember]; rfl)) ?_)
  refine wpAny_newObj_type ?_ (by size_fits)
  have e2 := (Heap.get?_update_other s.heap (Obj.mapFields (·.setIfInBounds 0 Value.none)) (Ne.symm ne)).trans e1
  refine HotX.raiseNew_hot ⟨handled, o1, vs1, Heap.get?_push_of_some _ (Heap.get?_push_of_some _ e2), d1, c1⟩ (Nat.ne_of_lt (Heap.lt_size (Heap.get?_push_of_some _ e2))) (Heap.get?_push_size _ rfl) rfl (by first | (simp; done) | (simp; omega) | (simp only [Array.size_append]; simp; omega)) ?_
  refine wpAny_bind (wpAny_isInstance (T := "StopIteration") (b := true) ⟨_, Heap.get?_update_self _ (Heap.get?_push_size _ rfl) rfl, rfl⟩ isSubtype_stop ?_)
  refine wpAny_pure (q _ fun b o2 nb eb => ?_)
  have e3 := (Heap.get?_update_other s.heap (Obj.mapFields (·.setIfInBounds 0 Value.none)) (Ne.symm nb)).trans eb
  rw [Heap.get?_update_other _ _ (Nat.ne_of_gt (Heap.lt_size (Heap.get?_push_of_some _ e3)))]
  exact Heap.get?_push_of_some _ (Heap.get?_push_of_some _ e3)
theorem unpack_hot {prog : Program} {w : World} {A : Around} {E : Value → Shared → Prop} {s : Shared} {t x1 : Addr} {items : Array Value} {Q : List Value → Shared → Prop} (hot : HotX.HotAt A x1 s.heap) (ht : s.heap.IsTuple t items)
    (q : ∀ h', Heap.ExtBut s.heap.objs.size s.heap h' → Q items.toList { s with heap := h' }) : wpAny (model prog w) A (unpackItems (.ref t) items.size none) Q E s := by
  have tne : t ≠ s.heap.objs.size := by
    obtain ⟨_, e, _⟩ := ht
    exact Nat.ne_of_lt (Heap.lt_size e)
  obtain ⟨handled, o1, vs1, e1, d1, c1⟩ := hot
  have xne : x1 ≠ s.heap.objs.size := Nat.ne_of_lt (Heap.lt_size e1)
  unfold unpackItems
  apply wpAny_bind
  unfold notIterableAtAll
  apply wpAny_bind
  apply wpAny_specialOf ht.typeIs F.slot_tuple_iter.lookup
  apply wpAny_pure
  simp only [Bool.false_eq_true, if_false]
  apply wpAny_bind
  apply wpAny_holding
  apply wpAny_pyIter_tuple ht
  apply wpAny_bind
  apply wpAny_holding
  refine wpAny_draw_tuple tne items.size 0 _ _ ⟨_, Heap.get?_push_size _ rfl, rfl, rfl⟩ (ht.push _) (by omega) fun g1 i1 b1 => ?_
  have all : List.take items.size (List.drop 0 items.toList) = items.toList := List.take_of_length_le (by simp)
  rw [all, if_neg (by simp)]
  apply wpAny_bind
  apply wpAny_holding
  refine tuple_end_hot (x1 := x1) ⟨handled, o1, vs1, b1.extBut x1 o1 xne (Heap.get?_push_of_some _ e1), d1, c1⟩ xne i1 ((ht.push _).extBut b1.extBut tne) (by simp) fun g2 b2 => ?_
  simp only [Option.isSome_none, Bool.false_eq_true, if_false]
  exact wpAny_pure (q g2 fun b o nb e => b2 b o nb (b1.extBut b o nb (Heap.get?_push_of_some _ e)))
theorem pg_tupH {X : Cx} {pos : Pos} {es : List Expr} {k : Nat} {t : TGs} {n : Nat} (h : PGs X es t) (hc : HotC X := by first | assumption | exact hotB (by assumption))
    (hn : (assignEach es X.env).length = n := by rfl) (hst : (assignEach es X.env).findIdx? (·.1) = none := by rfl) : PG X (.Tuple es k pos) (gTup X.K n t) := by
  refine ⟨fun pins s σ H v u Q I r ⟨a, xs, ev, hq, hl, hw⟩ => ?_⟩
  subst ev
  obtain rfl : u = Value.ref a := r
  obtain ⟨its, rv, ht, _⟩ := I.tuple hq
  obtain ⟨x1, hot⟩ := hc.at I
  have hn2 : (assignEach es X.env).length = its.toArray.size := by rw [hn, ← hl, rv.length, List.size_toArray]
  rw [PyProof.Rows.assign_Tuple]
  apply wpAny_bind
  apply wpAny_standAt
  unfold unpack
  rw [hn2, hst]
  apply wpAny_bind
  apply wpAny_holding
  refine unpack_hot hot ht fun g b => ?_
  exact h.run pins _ σ H xs _ Q (I.kept (t' := s.toks) fun b2 o e => b b2 o (Nat.ne_of_lt (Heap.lt_size e)) e) (by simpa using rv) hw
end Lo

set_option Elab.async false
set_option linter.all false
set_option maxRecDepth 100000
set_option maxHeartbeats 4000000
namespace Lo
open PySem PySem.Spec PyProof.Rows L2 L2H
/-- an own object called as a function -/
structure OwnO (P : Program) (w : World) (K : PySem.W.Frag) (mg : Str → Option Value) (base : Heap) (k : Nat) (C : Addr) (ps : List Str) (sp : Sp) : Prop where
  ex : ∃ f fd, FnOk P w K mg base (L2N.CX P w) k f fd ps sp ∧ Meth K C "__call__" f ∧ PySem.W.fnIn K f = true ∧ Binds K fd ps []
def tObj (i : Nat) (C : Addr) (sp : Sp) (E : L2.St → XK) (t : TA) : TE := fun σ H Q => ∃ (a dx : Addr) (fs : List (Str × V)), σ[i]? = some (some (.ref a)) ∧ H a = some (.ins C dx fs) ∧ t σ H fun vs H2 => (∃ dx2 fs2, H2 a = some (.ins C dx2 fs2)) ∧ sp (.ref a :: vs) H2 Q (E σ)
theorem pe_ownO {X : Cx} {k i : Nat} {C : Addr} {y : Str} {ps : List Str} {sp : Sp} {E : L2.St → XK} {p pos : Pos} {e : Expr} {es : List Expr} {t : TA} (O : OwnO X.prog X.w X.K X.mg X.base k C ps sp) (hr : Room k X.A) (hN : X.N[i]? = some y) (hv : Vis X.env.scope y) (hx : ∀ σ, PassesAt (L2N.CX X.prog X.w) X σ (E σ)) (ha : PA X (e :: es) t)
    (hdb : (y == ("__debug__" : Str)) = false := by decide) (hcd : (y == ("__classdict__" : Str)) = false := by decide)
    (he : starEach (e :: es) X.env = (false, eval e X.env) :: starEach es X.env := by rfl) (hpl : (backTo pos (starEach es X.env)).any (·.1) = false := by rfl) :
    PE X (.Call (.Name y p) (e :: es) [] pos) (tObj i C sp E t) := by
  obtain ⟨f, fd, F, hm, hfn, hb⟩ := O.ex
  refine ⟨fun pins s σ H Q I ⟨a, dx, fs, hs, ha1, ht⟩ => ?_⟩
  refine wpAny_Call_Name_kw (thn ((pe_var (pos := p) hN hv hdb hcd).run pins s σ H (fun v H1 => v = .ref a ∧ H1 = H) I ⟨.ref a, hs, rfl, rfl⟩) fun u s1 ⟨v, H1, I1, r1, q1⟩ => ?_)
  obtain ⟨rfl, rfl⟩ := q1
  cases r1
  have go := ha.run pos pins s1 σ _ _ I1 ht
  rw [he] at go ⊢
  unfold callWith
  refine wpAny_bind (wpAny_holding (Calls.evalArgs_plain (thn go fun us s2 ⟨vs, H2, I2, r, ⟨dx2, fs2, ea2⟩, q⟩ => ?_)))
  obtain ⟨eo, od2, J2⟩ := inst_at I2 ea2
  have L := PySem.W.kco_keeper (M := model X.prog X.w) J2 rfl
  refine wpAny_bind (wpAny_standAt ?_)
  have st : ((backTo pos ((false, eval e X.env) :: starEach es X.env)).any (·.1) || (backToKw pos (keywordEach [] X.env)).any (·.1.isNone)) = false := by
    show ((false || (backTo pos (starEach es X.env)).any (·.1)) || false) = false
    rw [hpl]
    rfl
  simp only [st]
  refine wpAny_bind (L.here ?_)
  have r2 : Vals (V.ref a :: vs) (Value.ref a :: us) := .cons rfl r
  have hl : (Value.ref a :: us).length = ps.length := r2.length.symm.trans (F.len _ _ _ _ q)
  have b := hb s2 (.ref a :: us) I2.kIn (by rw [List.append_nil]; exact hl)
  rw [List.append_nil] at b
  have run : wpAny (model X.prog X.w) X.A (call (.ref a) us) (EP X pins σ Q) X.xe s2 := by
    refine wpAny_call (PySem.W.kco_code I2.kIn J2 rfl hm.at_ hm.fn hfn (codeAny_mono (F.run X.A X.stack s2 _ ⟨.ref a :: us, []⟩ (.ref a :: us) (.ref a :: vs) Q (E σ) hr I2.env0 b r2 q) fun r s' hq => ?_))
    cases r with
    | error e => exact hx _ pins _ s2 e s' I2 hq
    | ok fl =>
      cases fl with
      | ret u => exact I2.after hq
      | next => exact False.elim hq
      | brk => exact False.elim hq
      | cont => exact False.elim hq
  exact wpAny_bind (PySem.wpAny_operateT (wpAny_mono run (fun u s' hu => wpAny_bind (wpAny_holding (wpAny_point (wpAny_pure hu)))) fun _ _ x => x))
/-! ### two lists of the same objects -/
theorem vals_refs : ∀ {xs : List V} {a b : List Value}, Vals xs a → Vals xs b → (∀ v ∈ xs, ∃ c : Addr, v = .ref c) → a = b
  | [], _, _, .nil, .nil, _ => rfl
  | x :: xs, _, _, .cons r1 t1, .cons r2 t2, h => by
    obtain ⟨c, rfl⟩ := h x List.mem_cons_self
    cases (show _ = Value.ref c from r1)
    cases (show _ = Value.ref c from r2)
    rw [vals_refs t1 t2 fun v m => h v (List.mem_cons_of_mem _ m)]
def rNeSame : R2 := fun x y H Q => ∃ (a b : Addr) (xs : List V), x = .ref a ∧ y = .ref b ∧ H a = some (.lst xs) ∧ H b = some (.lst xs) ∧ (∀ v ∈ xs, ∃ c : Addr, v = .ref c) ∧ Q (.bl false) H
theorem op_neSame {X : Cx} (hu : X.A.units < cLine) : OpR X (compareOp .NotEq) rNeSame := by
  intro pins s σ H x y v u Q I rx ry ⟨a, b, xs, ex, ey, ha, hb, rf, q⟩
  subst ex ey
  cases (show v = Value.ref a from rx)
  cases (show u = Value.ref b from ry)
  obtain ⟨z, its, k, r, e1⟩ := I.hok a _ ha
  obtain ⟨z2, its2, k2, r2, e2⟩ := I.hok b _ hb
  obtain rfl := vals_refs r r2 rf
  have all : (List.range its.toArray.size).all (fun _ => true) = true := by rw [List.all_eq_true]; exact fun _ _ => rfl
  have go := SeqAt.RcNeAt.lists (A := X.A) (s := s) (e := fun _ => true) ⟨_, e1, rfl, _, rfl⟩ ⟨_, e2, rfl, _, rfl⟩ rfl hu (fun j h1 h2 => SeqAt.EqAt.same _) X.prog X.w X.xe (fun u s' => EP X pins σ Q u s')
  rw [all] at go
  exact go ⟨.bl _, H, I, rfl, q⟩
def RuleAt (ca : Nat → Addr) (H : Hp) (p : Addr) (a b : Str) (c : Int) : Prop := ∃ dx, H p = some (.ins (ca 24) dx [("take", .str a), ("place", .str b), ("period", .int c)])
/-! ### what a taking comes to -/
theorem fst_sum : ∀ (ls : Ls) (w : Rat), tot (fst1 ls w).1 + tot (fst1 ls w).2 = tot ls
  | [], w => by simp only [fst1, tot]; grind
  | x :: r, w => by
    have ih := fst_sum r (w - x.2)
    unfold fst1
    split
    · simp only [tot]
      grind
    · split
      · simp only [tot]
        grind
      · simp only [tot]
        grind
theorem fst_tot : ∀ (ls : Ls) (w : Rat), 0 ≤ w → w ≤ tot ls → tot (fst1 ls w).1 = w
  | [], w, h0, h1 => by simp only [tot] at h1; simp only [fst1, tot]; grind
  | x :: r, w, h0, h1 => by
    simp only [tot] at h1
    unfold fst1
    split
    · have ih := fst_tot r (w - x.2) (by grind) (by grind)
      simp only [tot]
      grind
    · split
      · simp only [tot]
        grind
      · simp only [tot]
        grind
def NIn (a b : Ls) : Prop := ∀ y ∈ a, ∃ x ∈ b, x.1 = y.1
theorem NIn.refl (a : Ls) : NIn a a := fun y m => ⟨y, m, rfl⟩
theorem NIn.nil (a : Ls) : NIn [] a := fun _ m => nomatch m
theorem NIn.map (a : Ls) (f : Rat → Rat) : NIn (a.map fun x => (x.1, f x.2)) a := fun y m => by
  obtain ⟨x, mx, rfl⟩ := List.mem_map.mp m
  exact ⟨x, mx, rfl⟩
theorem fst_names : ∀ (ls : Ls) (w : Rat), NIn (fst1 ls w).1 ls ∧ NIn (fst1 ls w).2 ls
  | [], w => ⟨.nil _, .nil _⟩
  | x :: r, w => by
    have ⟨i1, i2⟩ := fst_names r (w - x.2)
    have up : ∀ {a : Ls}, NIn a r → NIn a (x :: r) := fun h y m => let ⟨z, mz, e⟩ := h y m; ⟨z, List.mem_cons_of_mem _ mz, e⟩
    have hd : ∀ {a : Ls} {q : Rat}, NIn a (x :: r) → NIn ((x.1, q) :: a) (x :: r) := fun h y m => by
      rcases List.mem_cons.mp m with rfl | m
      · exact ⟨x, List.mem_cons_self, rfl⟩
      · exact h y m
    unfold fst1
    split
    · exact ⟨hd (q := x.2) (up i1), up i2⟩
    · split
      · exact ⟨.nil _, .refl _⟩
      · exact ⟨hd (.nil _), hd (up (.refl _))⟩
theorem tot_times (c : Rat) (ls : Ls) : tot (ls.map fun x => (x.1, x.2 * c)) = tot ls * c := by
  induction ls with
  | nil => simp only [List.map_nil, tot]; grind
  | cons x r ih => simp only [List.map_cons, tot, ih]; grind
theorem NIn.rev {a b : Ls} (h : NIn a b.reverse) : NIn a b := fun y m => let ⟨x, mx, e⟩ := h y m; ⟨x, List.mem_reverse.mp mx, e⟩
structure TkOk (ls : Ls) (v : Rat) (r : Ls × Ls) : Prop where
  l1 : r.1.length ≤ ls.length
  l2 : r.2.length ≤ ls.length
  z1 : ZL 380 r.1
  z2 : ZL 380 r.2
  t1 : tot r.1 = v
  t2 : tot r.2 = tot ls - v
  n1 : NIn r.1 ls
  n2 : NIn r.2 ls
theorem take_ok {z : Str} {ls : Ls} {v : Rat} (v0 : 0 < v) (vt : v ≤ tot ls) (zl : ZL 20 ls) (zv : Zq 160 v) (ll : ls.length ≤ 8) : TkOk ls v (takeR z ls v) := by
  have v0' : 0 ≤ v := by grind
  have up : ∀ {n : Nat} {a : Ls}, n ≤ 380 → ZL n a → ZL 380 a := fun l h x m => (h x m).mono l
  have lm := Nat.mul_le_mul_right 21 ll
  unfold takeR
  split
  · have ⟨q1, q2⟩ := fst_zq zl zv
    have s := fst_sum ls v
    have t := fst_tot ls v v0' vt
    exact ⟨(fst_len ls v).1, (fst_len ls v).2, up (by omega) q1, up (by omega) q2, t, by grind, (fst_names ls v).1, (fst_names ls v).2⟩
  · split
    · have zr : ZL 20 ls.reverse := fun x m => zl x (List.mem_reverse.mp m)
      have ⟨q1, q2⟩ := fst_zq zr zv
      have s := fst_sum ls.reverse v
      have t := fst_tot ls.reverse v v0' (by rw [tot_rev]; exact vt)
      have lr : ls.reverse.length = ls.length := List.length_reverse
      rw [tot_rev] at s
      rw [lr] at q1 q2
      have ⟨b1, b2⟩ := fst_len ls.reverse v
      have ⟨c1, c2⟩ := fst_names ls.reverse v
      unfold lst1
      refine ⟨by show (fst1 ls.reverse v).1.length ≤ _; omega, by show (fst1 ls.reverse v).2.reverse.length ≤ _; rw [List.length_reverse]; omega, up (by omega) q1, fun x m => up (by omega) q2 x (List.mem_reverse.mp m), t, ?_, c1.rev, fun y m => c2.rev y (List.mem_reverse.mp m)⟩
      show tot (fst1 ls.reverse v).2.reverse = _
      rw [tot_rev]
      grind
    · unfold evn1
      split
      · next e => exact ⟨Nat.le_refl _, Nat.zero_le _, fun x m => (zl x m).mono (by decide), fun x m => (nomatch m), e, by simp only [tot]; grind, .refl _, .nil _⟩
      · next e =>
        have tn : tot ls ≠ 0 := by grind
        have tz : Zq 169 (tot ls) := (tot_zq zl).mono (by omega)
        have zc := zv.div tz tn
        have z1 : Zq 1 ((1 : Int) : Rat) := Zq.int (show (1 : Int).natAbs < 2 ^ 1 by decide)
        have zd : Zq _ (1 - v / tot ls) := z1.sub zc
        have inv : tot ls * (v / tot ls) = v := by rw [Rat.mul_comm]; exact Rat.div_mul_cancel tn
        refine ⟨by rw [List.length_map]; exact Nat.le_refl _, by rw [List.length_map]; exact Nat.le_refl _, fun y m => ?_, fun y m => ?_, ?_, ?_, .map ls fun q => q * (v / tot ls), .map ls fun q => q * (1 - v / tot ls)⟩
        · obtain ⟨x, mx, rfl⟩ := List.mem_map.mp m
          exact ((zl x mx).mul zc).mono (by omega)
        · obtain ⟨x, mx, rfl⟩ := List.mem_map.mp m
          exact ((zl x mx).mul zd).mono (by omega)
        · rw [tot_times, inv]
        · rw [tot_times]
          grind
end Lo
set_option Elab.async false
set_option linter.all false
set_option maxRecDepth 100000
set_option maxHeartbeats 4000000
local macro_rules | `(tactic| fail "lo_ne") => `(tactic| first
  | assumption
  | exact Ne.symm (by assumption))
local macro_rules | `(tactic| fail "lo_hq") => `(tactic| ((with_reducible show @Eq (Option L2.HO) _ _); first
  | (with_reducible exact L2.upd_same)
  | (with_reducible assumption)
  | exact Lo.sget (by with_reducible assumption) (by fail "lo_hq")
  | exact Lo.kget (by with_reducible assumption) (by fail "lo_ne") (by fail "lo_hq")
  | ((with_reducible show L2.upd _ _ _ _ = _); exact Lo.une (by fail "lo_ne") (by fail "lo_hq"))
  | assumption))
local macro_rules | `(tactic| fail "lo_R") => `(tactic| first
  | (with_reducible assumption)
  | exact Lo.rsame (by with_reducible assumption) (by fail "lo_R"))
local macro_rules | `(tactic| fail "lo_F") => `(tactic| first
  | (with_reducible assumption)
  | exact Lo.fsame (by with_reducible assumption) (by fail "lo_F")
  | exact Lo.tsame (by with_reducible assumption) (by fail "lo_F"))
local macro_rules | `(tactic| fail "lo_S") => `(tactic| first
  | (with_reducible assumption)
  | exact Lo.strans (by with_reducible assumption) (by fail "lo_S")
  | exact L2.Same.refl _)
local macro_rules | `(tactic| fail "lo_hp") => `(tactic| first
  | ((with_reducible show L2.SqT _ _ _ _); first | exact L2.SqT.of (by fail "lo_hq") | assumption)
  | ((with_reducible show L2.SqL _ _ _ _); first | exact L2.SqL.of (by fail "lo_hq") | assumption | exact L2.Same.seq (by assumption) (by fail "lo_hp")))
local macro_rules | `(tactic| fail "lo_mok") => `(tactic| first
  | exact Lo.mok_r (by decide)
  | exact Lo.mok_l (by decide)
  | exact Lo.mok_r (by omega)
  | exact Lo.mok_l (by omega)
  | assumption)
local macro_rules | `(tactic| fail "lo_cond") => `(tactic| first
  | (show PySem.IntMulOk _ _; fail "lo_mok")
  | (show (0 : Int) < _; first | decide | omega | assumption)
  | (show L2.CPow _ _; exact ⟨by decide, by decide, by first | decide | omega⟩)
  | (show Lo.CDivA _ _; exact ⟨by first | assumption | omega, by assumption⟩)
  | (show L2.CDivW _ _; exact ⟨by first | decide | omega, by first | decide | assumption⟩))
local macro_rules | `(tactic| fail "lo_lk") => `(tactic| ((with_reducible show @Eq (Option L2.V) _ _); first
  | exact Lo.lk0
  | exact Lo.lkn
  | exact Lo.lk1 (by decide +kernel) (by fail "lo_lk")))
/- one step of a reading that has one way only -/
local macro_rules | `(tactic| fail "lo_rd1") => `(tactic| first
  | (refine ⟨_, rfl, ?_⟩)
  | (refine ⟨_, _, rfl, rfl, (by fail "lo_cond"), ?_⟩)
  | (refine ⟨_, _, rfl, rfl, ?_⟩)
  | (refine ⟨_, _, _, _, rfl, rfl, (by fail "lo_hp"), Lo.ix_c (by rfl), ?_⟩)
  | (refine ⟨_, _, _, _, rfl, rfl, (by fail "lo_hq"), (by rfl), ?_⟩)
  | (refine ⟨_, _, _, _, _, rfl, (by fail "lo_hq"), (by fail "lo_cl"), (by fail "lo_na"), (by fail "lo_lk"), ?_⟩)
  | (refine ⟨_, _, _, _, rfl, (by fail "lo_hq"), (by fail "lo_cl"), (by fail "lo_na"), Nat.le_of_ble_eq_true rfl, ?_⟩)
  | (refine ⟨_, _, _, rfl, (by fail "lo_hq"), (by fail "lo_lk"), ?_⟩)
  | ((with_reducible show L2.rEqD _ (L2.V.ref _) (L2.V.ref _) _ _); refine Lo.eqT (by fail "lo_hq") (by fail "lo_hq") ?_)
  | ((with_reducible show L2.rNeD _ (L2.V.ref _) (L2.V.ref _) _ _); refine Lo.neT (by fail "lo_hq") (by fail "lo_hq") ?_)
  | (refine ⟨Or.inl ⟨rfl, _, (by fail "lo_hp")⟩, ?_⟩)
  | (refine Or.inl ⟨_, rfl, ?_⟩)
  | (refine Or.inr ⟨_, rfl, ?_⟩)
  | (refine ⟨rfl, ?_⟩)
  | (refine ⟨_, _, rfl, Or.inl (by fail "lo_hp"), ?_⟩)
  | (refine ⟨_, _, rfl, (by fail "lo_hp"), rfl, ?_⟩)
  | (refine ⟨_, _, rfl, ?_⟩)
  | (refine ⟨⟨_, (by fail "lo_hp")⟩, ?_⟩)
  | (refine ⟨Lo.line_le (Nat.le_of_ble_eq_true rfl), ?_⟩)
  | (refine ⟨⟨_, rfl⟩, _, rfl, rfl, True.intro, ?_⟩)
  | (with_reducible show L2.tNil _ _ _; dsimp only [L2.tNil]))
/- as many such steps as there are -/
local macro_rules | `(tactic| fail "rd") => `(tactic| repeat fail "lo_rd1")

namespace Lo
open PySem PySem.Spec PyProof.Rows L2
def top (i : Nat) : Stmt := PySem.Challenge.pw_lotcosts_k41_units_taken.main.body.getD i (.Pass ⟨0, 0, 0, 0⟩)
structure Txt (K : PySem.W.Frag) (mg : Str → Option Value) (ca : Nat → Addr) : Prop where
  b_abs : mg "abs" = none
  b_all : mg "all" = none
  b_bool : mg "bool" = none
  b_int : mg "int" = none
  b_isinstance : mg "isinstance" = none
  b_len : mg "len" = none
  b_list : mg "list" = none
  b_range : mg "range" = none
  b_tuple : mg "tuple" = none
  gcd : mg "gcd" = some (.builtin "math.gcd")
  c__MOST : ∃ t, mg "_MOST" = some (.int 1000000 t)
  g_CostError : mg "CostError" = some (.ref (ca 0))
  g_NoRatio : mg "NoRatio" = some (.ref (ca 1))
  kp_NoRatio : PySem.W.keepIn K (.ref (ca 1)) = true
  ex_NoRatio : PySem.W.excIn K (ca 1) [.type "ValueError", .type "Exception", .type "BaseException", .type "object"] "ValueError.__new__" = true
  sb_NoRatio : PySem.W.subIn K (.ref (ca 1)) (.type "BaseException") = some true
  ty_NoRatio : PySem.W.typeIn K (.ref (ca 1)) = some (.type "type")
  ox_BadRule : L2.OexC K (ca 9)
  nf_BadRule_word : PySem.W.findIn K (.ref (ca 9)) "word" = some none
  g_Short : mg "Short" = some (.ref (ca 10))
  te_Short : PySem.W.exmOne K (.ref (ca 10)) (.ref (ca 10)) = some true
  ec_Short : L2.ExcC K (ca 10)
  ox_Short : L2.OexC K (ca 10)
  xf_Short : L2.XfC K (ca 10)
  nf_Short_missing : PySem.W.findIn K (.ref (ca 10)) "missing" = some none
  g_Ratio : mg "Ratio" = some (.ref (ca 2))
  cl_Ratio : Cls K (ca 2)
  na_Ratio_top : NoAttr K (ca 2) "top"
  na_Ratio_bottom : NoAttr K (ca 2) "bottom"
  ic_Ratio : PySem.W.findIn K (.ref (ca 2)) "__class__" = some (some (.builtin "object.__class__"))
  in_Ratio : PySem.W.specialIn K (.builtin "object.__class__") "__get__" = some (some (.builtin "getset_descriptor.__get__"))
  it_Ratio : PySem.W.takesIn K (.builtin "object.__class__") = some true
  im_Ratio : PySem.W.mroIn K (ca 2) (.type "object") = some true
  ar_Ratio : Arith K (ca 2)
  cl_Rule : Cls K (ca 24)
  na_Rule_take : NoAttr K (ca 24) "take"
  na_Rule_place : NoAttr K (ca 24) "place"
  na_Rule_period : NoAttr K (ca 24) "period"
  ki_Short_CostError : PySem.W.kitOne K (.ref (ca 10)) (.ref (ca 0)) = some true
  ki_int_Ratio : PySem.W.kitOne K (.type "int") (.ref (ca 2)) = some false
local macro_rules | `(tactic| fail "lo_cl") => `(tactic| ((with_reducible show L2.Cls _ _); first
  | exact (show Txt _ _ _ by assumption).cl_Ratio
  | exact (show Txt _ _ _ by assumption).cl_Rule))
local macro_rules | `(tactic| fail "lo_na") => `(tactic| ((with_reducible show L2.NoAttr _ _ _); first
  | exact (show Txt _ _ _ by assumption).na_Ratio_top
  | exact (show Txt _ _ _ by assumption).na_Ratio_bottom
  | exact (show Txt _ _ _ by assumption).na_Rule_take
  | exact (show Txt _ _ _ by assumption).na_Rule_place
  | exact (show Txt _ _ _ by assumption).na_Rule_period))
section
variable {P : Program} {w : World} {K : PySem.W.Frag} {mg : Str → Option Value} {base : Heap} {ca : Nat → Addr}
abbrev s_l_bag : Stmt := top 22
theorem sc_l_bag : FnScope ["_law_script"] ["_law_script"] (defScope s_l_bag) := ⟨rfl, rfl, rfl, by decide +kernel, rfl, by decide +kernel, by decide +kernel⟩
def sp_l_bag (K : PySem.W.Frag) (_ : Nat → Addr) : Sp := fun vs H Q _ => ∃ (a : Addr) (ns : List Int), vs = [.ref a] ∧ SqL K H a (ns.map V.int) ∧ ∀ (L b : Addr) (H' : Hp), H b = none → H L = none → Same H H' → Bag H' L b → Q (.ref b) H'
theorem ok_l_bag {f : Addr} {fd : FuncData} (F : Fun K "_law_bag" "_law_bag" s_l_bag f fd) (T : Txt K mg ca)  : FnOk P w K mg base (L2N.CX P w) 1 f fd ["_law_script"] (sp_l_bag K ca) := by
  refine okN F sc_l_bag (fun vs H Q E h => ?_) (fun cdv A outer s H vs Q E hr h => ?_)
  · obtain ⟨_, _, rfl, _⟩ := h
    rfl
  · obtain ⟨a, ns, rfl, hs, k⟩ := h
    refine ⟨_, pss_one (ps_ret (pe_lst (pa_cons (pe_callTy call_list_of (by rfl) T.b_list (by decide +kernel) (pa_cons (pv 0) pa_nil)) (pa_cons pe_int (pa_cons pe_int (pa_cons pe_int (pa_cons pe_int pa_nil))))))), ?_⟩
    fail "rd"
    intro L n_L
    generalize g_H1 : upd _ L _ = H1
    obtain ⟨s_H1, e_L⟩ := gen_new n_L g_H1
    clear g_H1
    fail "rd"
    intro b n_b
    generalize g_H2 : upd _ b _ = H2
    obtain ⟨s_H2, e_b⟩ := gen_new n_b g_H2
    clear g_H2
    exact k L b H2 (s_H1.free n_b) n_L (s_H1.trans s_H2) (Bag.mk (i := 0) e_b (s_H2 _ _ e_L) (ne_of_none e_L n_b))

abbrev s_l_draw : Stmt := top 23
theorem sc_l_draw : FnScope ["_law_bag_here", "_law_size", "_law_cell", "_law_digit", "_law_mixed"] ["_law_bag_here", "_law_size"] (defScope s_l_draw) := ⟨rfl, rfl, rfl, by decide +kernel, rfl, by decide +kernel, by decide +kernel⟩
def sp_l_draw (_ : PySem.W.Frag) (_ : Nat → Addr) : Sp := fun vs H Q _ => ∃ (b : Addr) (n : Int), vs = [.ref b, .int n] ∧ ∃ L : Addr, Bag H L b ∧ 0 < n ∧ n.natAbs.log2 < 9000 ∧ ∀ (d : Int) (H' : Hp), 0 ≤ d → d < n → Keep b H H' → Bag H' L b → Q (.int d) H'
theorem ok_l_draw {f : Addr} {fd : FuncData} (F : Fun K "_law_draw" "_law_draw" s_l_draw f fd) (T : Txt K mg ca)  : FnOk P w K mg base (L2N.CX P w) 1 f fd ["_law_bag_here", "_law_size"] (sp_l_draw K ca) := by
  refine okN F sc_l_draw (fun vs H Q E h => ?_) (fun cdv A outer s H vs Q E hr h => ?_)
  · obtain ⟨_, _, rfl, _⟩ := h
    rfl
  · obtain ⟨b, n, rfl, L, hB, h0, hn, k⟩ := h
    refine ⟨_, pss_cons (ps_asg (pe_op op_add (pe_ix ix_list (pv 0) pe_int (fun _ _ => rfl)) pe_int) (pg_sub (pv 0) pe_int set_list)) (Evl.pss_cut (ps_if (PW.pt (pw_and (pt_cmpR op_eq (pe_ix ix_list (pv 0) pe_int (fun _ _ => rfl)) pe_int (nomark _)) (pw_and1 (pt_cmpR op_lt (pe_ix ix_list (pv 0) pe_int (fun _ _ => rfl)) (pe_callB call_len_seq (by rfl) T.b_len (by decide +kernel) (pa_cons (pe_ix ix_list (pv 0) pe_int (fun _ _ => rfl)) pa_nil)) (nomark _))))) (pss_cons (ps_set (i := 2) sc_l_draw.nd rfl (Or.inl rfl) (pe_ix ix_list (pe_ix ix_list (pv 0) pe_int (fun _ _ => rfl)) (pe_ix ix_list (pv 0) pe_int (fun _ _ => rfl)) (fun _ _ => rfl))) (pss_cons (ps_asg (pe_op op_add (pe_ix ix_list (pv 0) pe_int (fun _ _ => rfl)) pe_int) (pg_sub (pv 0) pe_int set_list)) (pss_cons (ps_asg (pe_op op_mulI (pe_op op_add (pe_op op_mulI pe_int (pe_callB call_abs (by rfl) T.b_abs (by decide +kernel) (pa_cons (pv 2) pa_nil))) (pe_callTy call_int1 (by rfl) T.b_int (by decide +kernel) (pa_cons (pe_cmpR op_lt (pv 2) pe_int (nomark _)) pa_nil))) (pe_callTy call_int1 (by rfl) T.b_int (by decide +kernel) (pa_cons (pe_cmpR op_ge (pe_callB call_abs (by rfl) T.b_abs (by decide +kernel) (pa_cons (pv 2) pa_nil)) (pe_op op_pow pe_int pe_int) (nomark _)) pa_nil))) (pg_sub (pv 0) pe_int set_list)) (pss_one (ps_asg (pe_op op_mod (pe_callTy call_int1 (by rfl) T.b_int (by decide +kernel) (pa_cons (pe_op op_add (pe_op op_add (pe_op op_mulI (pe_ix ix_list (pv 0) pe_int (fun _ _ => rfl)) pe_int) (pe_op op_mulI (pv 2) pe_int)) pe_int) pa_nil)) pe_int) (pg_sub (pv 0) pe_int set_list)))))) pss_nil) (pss_cons (ps_set (i := 3) sc_l_draw.nd rfl (Or.inl rfl) (pe_op op_mod (pe_callTy call_int1 (by rfl) T.b_int (by decide +kernel) (pa_cons (pe_ix ix_list (pv 0) pe_int (fun _ _ => rfl)) pa_nil)) (pv 1))) (pss_cons (ps_if (pt_cmpR op_gt (pe_ix ix_list (pv 0) pe_int (fun _ _ => rfl)) pe_int (nomark _)) (pss_cons (ps_asg (pe_op op_fdivW (pe_ix ix_list (pv 0) pe_int (fun _ _ => rfl)) (pv 1)) (pg_sub (pv 0) pe_int set_list)) (pss_one (ps_ret (pv 3)))) pss_nil) (pss_cons (ps_set (i := 4) sc_l_draw.nd rfl (Or.inl rfl) (pe_op op_mod (pe_callTy call_int1 (by rfl) T.b_int (by decide +kernel) (pa_cons (pe_op op_add (pe_ix ix_list (pv 0) pe_int (fun _ _ => rfl)) (pe_op op_mulI (pe_ix ix_list (pv 0) pe_int (fun _ _ => rfl)) pe_int)) pa_nil)) pe_int)) (pss_cons (ps_set (i := 4) sc_l_draw.nd rfl (Or.inl rfl) (pe_op op_mod (pe_callTy call_int1 (by rfl) T.b_int (by decide +kernel) (pa_cons (pe_op op_add (pe_op op_add (pe_op op_pow (pv 4) pe_int) (pe_op op_mulI (pe_ix ix_list (pv 0) pe_int (fun _ _ => rfl)) pe_int)) pe_int) pa_nil)) pe_int)) (pss_one (ps_ret (pe_op op_mod (pe_op op_fdivW (pe_op op_mod (pe_callTy call_int1 (by rfl) T.b_int (by decide +kernel) (pa_cons (pe_op op_pow (pv 4) pe_int) pa_nil)) pe_int) pe_int) (pv 1))))))))), ?_⟩
    obtain ⟨ns, i, big, mix, cnt, hb, hL, hne⟩ := hB
    iterate 5 fail "lo_rd1"
    generalize g_H1 : upd _ b _ = H1
    obtain ⟨k_H1, e_H1⟩ := gen_put g_H1
    clear g_H1
    refine ⟨fun σ' H' => ∃ (v : Option V) (i : Nat) (big mix cnt : Int), σ' = [some (.ref b), some (.int n), v, none, none] ∧ Keep b H H' ∧ H' b = some (.lst [.ref L, .int i, .int big, .int mix, .int cnt]), ?_, ?_⟩
    · fail "rd"
      refine iteI (fun z1 => ?_) (fun z1 => ?_)
      · fail "rd"
        refine iteD (fun z2 => ?_) (fun z2 => ?_)
        · fail "rd"
          have hi : i < ns.length := by
            have z3 : (i : Int) < ((ns.map V.int).length : Nat) := z2
            rw [List.length_map] at z3
            omega
          refine ⟨_, _, _, _, rfl, rfl, (by fail "lo_hp"), atI_nat (v := .int ns[i]) (by simp [hi]), ?_⟩
          fail "rd"
          exact ⟨_, i + 1, _, _, _, rfl, ((k_H1.trans keep_upd).trans keep_upd).trans keep_upd, upd_same⟩
        · exact ⟨_, _, _, _, _, rfl, k_H1, e_H1⟩
      · exact ⟨_, _, _, _, _, rfl, k_H1, e_H1⟩
    · rintro σ' H' ⟨v, i, big, mix, cnt, rfl, kp, hb'⟩
      have hL' : H' L = some (.lst (ns.map V.int)) := kp _ _ hL hne
      fail "rd"
      refine iteD (fun z3 => ?_) (fun z3 => ?_)
      · fail "rd"
        exact k _ _ (Int.emod_nonneg _ (by omega)) (Int.emod_lt_of_pos _ h0) (kp.trans keep_upd) (Bag.mk upd_same (une hne hL') hne)
      · fail "rd"
        exact k _ _ (Int.emod_nonneg _ (by omega)) (Int.emod_lt_of_pos _ h0) kp (Bag.mk hb' hL' hne)

abbrev s_l_rule : Stmt := top 26
theorem sc_l_rule : FnScope ["_law_bag_here", "_law_take", "_law_laid", "_law_span"] ["_law_bag_here"] (defScope s_l_rule) := ⟨rfl, rfl, rfl, by decide +kernel, rfl, by decide +kernel, by decide +kernel⟩
def sp_l_rule (_ : PySem.W.Frag) (_ : Nat → Addr) : Sp := fun vs H Q _ => ∃ b : Addr, vs = [.ref b] ∧ ∃ L : Addr, Bag H L b ∧
  ∀ (t : Addr) (z1 z2 : Str) (c : Int) (H' : Hp), Keep b H H' → Bag H' L b → H' t = some (.tup [.str z1, .str z2, .int c]) → z1 ∈ (["oldest", "newest", "even"] : List Str) → z2 ∈ (["own", "top", "bottom"] : List Str) → 0 ≤ c → c ≤ 1000000 → Q (.ref t) H'
theorem ok_l_rule {f : Addr} {fd : FuncData} (F : Fun K "_law_rule" "_law_rule" s_l_rule f fd) (T : Txt K mg ca) (O__law_draw : Own P w K mg base 1 "_law_draw" ["_law_bag_here", "_law_size"] (sp_l_draw K ca)) : FnOk P w K mg base (L2N.CX P w) 2 f fd ["_law_bag_here"] (sp_l_rule K ca) := by
  refine okN F sc_l_rule (fun vs H Q E h => ?_) (fun cdv A outer s H vs Q E hr h => ?_)
  · obtain ⟨_, rfl, _⟩ := h
    rfl
  · obtain ⟨b, rfl, L, hB, k⟩ := h
    refine ⟨_, pss_cons (ps_set (i := 1) sc_l_rule.nd rfl (Or.inl rfl) (pe_ix ix_list (pe_lst (pa_cons pe_str (pa_cons pe_str (pa_cons pe_str pa_nil)))) (pe_own O__law_draw (hr.mono (by decide)) rfl pas0 (pa_cons (pv 0) (pa_cons pe_int pa_nil))) (fun _ _ => rfl))) (pss_cons (ps_set (i := 2) sc_l_rule.nd rfl (Or.inl rfl) (pe_ix ix_list (pe_lst (pa_cons pe_str (pa_cons pe_str (pa_cons pe_str pa_nil)))) (pe_own O__law_draw (hr.mono (by decide)) rfl pas0 (pa_cons (pv 0) (pa_cons pe_int pa_nil))) (fun _ _ => rfl))) (pss_cons (ps_set (i := 3) sc_l_rule.nd rfl (Or.inl rfl) (pe_ix ix_list (pe_lst (pa_cons pe_int (pa_cons pe_int (pa_cons pe_int (pa_cons pe_int (pa_cons pe_int (pa_cons (pe_op op_add pe_int (pe_own O__law_draw (hr.mono (by decide)) rfl pas0 (pa_cons (pv 0) (pa_cons pe_int pa_nil)))) pa_nil))))))) (pe_own O__law_draw (hr.mono (by decide)) rfl pas0 (pa_cons (pv 0) (pa_cons pe_int pa_nil))) (fun _ _ => rfl))) (pss_one (ps_ret (pe_tup (pa_cons (pv 1) (pa_cons (pv 2) (pa_cons (pv 3) pa_nil)))))))), ?_⟩
    fail "rd"
    intro l1 n_l1
    generalize g_H1 : upd _ l1 _ = H1
    obtain ⟨s_H1, e_l1⟩ := gen_new n_l1 g_H1
    clear g_H1
    have B1 := hB.same s_H1
    fail "rd"
    refine ⟨L, B1, by decide, by decide, fun d H2 d0 d1 k2 B2 => ?_⟩
    have e1 := k2 _ _ e_l1 (hB.ne n_l1)
    obtain ⟨z1, h1, m1⟩ : ∃ z : Str, atI [V.str "oldest", .str "newest", .str "even"] d = some (.str z) ∧ z ∈ (["oldest", "newest", "even"] : List Str) := by
      have hd : d = 0 ∨ d = 1 ∨ d = 2 := by omega
      rcases hd with rfl | rfl | rfl
      · exact ⟨"oldest", ix_c rfl, by simp⟩
      · exact ⟨"newest", ix_c rfl, by simp⟩
      · exact ⟨"even", ix_c rfl, by simp⟩
    refine ⟨_, _, _, _, rfl, rfl, SqL.of e1, h1, ?_⟩
    fail "rd"
    intro l2 n_l2
    generalize g_H3 : upd _ l2 _ = H3
    obtain ⟨s_H3, e_l2⟩ := gen_new n_l2 g_H3
    clear g_H3
    have B3 := B2.same s_H3
    fail "rd"
    refine ⟨L, B3, by decide, by decide, fun d2 H4 d20 d21 k4 B4 => ?_⟩
    have e2 := k4 _ _ e_l2 (B2.ne n_l2)
    obtain ⟨z2, h2, m2⟩ : ∃ z : Str, atI [V.str "own", .str "top", .str "bottom"] d2 = some (.str z) ∧ z ∈ (["own", "top", "bottom"] : List Str) := by
      have hd : d2 = 0 ∨ d2 = 1 ∨ d2 = 2 := by omega
      rcases hd with rfl | rfl | rfl
      · exact ⟨"own", ix_c rfl, by simp⟩
      · exact ⟨"top", ix_c rfl, by simp⟩
      · exact ⟨"bottom", ix_c rfl, by simp⟩
    refine ⟨_, _, _, _, rfl, rfl, SqL.of e2, h2, ?_⟩
    fail "rd"
    refine ⟨L, B4, by decide, by decide, fun d3 H5 d30 d31 k5 B5 => ?_⟩
    fail "rd"
    intro l3 n_l3
    generalize g_H6 : upd _ l3 _ = H6
    obtain ⟨s_H6, e_l3⟩ := gen_new n_l3 g_H6
    clear g_H6
    have B6 := B5.same s_H6
    fail "rd"
    refine ⟨L, B6, by decide, by decide, fun d4 H7 d40 d41 k7 B7 => ?_⟩
    have e3 := k7 _ _ e_l3 (B5.ne n_l3)
    obtain ⟨c, h3, c0, c1⟩ : ∃ c : Int, atI [V.int 0, .int 0, .int 1, .int 2, .int 7, .int (1 + d3)] d4 = some (.int c) ∧ 0 ≤ c ∧ c ≤ 1000000 := by
      have hd : d4 = 0 ∨ d4 = 1 ∨ d4 = 2 ∨ d4 = 3 ∨ d4 = 4 ∨ d4 = 5 := by omega
      rcases hd with rfl | rfl | rfl | rfl | rfl | rfl
      · exact ⟨0, ix_c rfl, by decide, by decide⟩
      · exact ⟨0, ix_c rfl, by decide, by decide⟩
      · exact ⟨1, ix_c rfl, by decide, by decide⟩
      · exact ⟨2, ix_c rfl, by decide, by decide⟩
      · exact ⟨7, ix_c rfl, by decide, by decide⟩
      · exact ⟨1 + d3, ix_c rfl, by omega, by omega⟩
    refine ⟨_, _, _, _, rfl, rfl, SqL.of e3, h3, ?_⟩
    fail "rd"
    intro t n_t
    generalize g_H8 : upd _ t _ = H8
    obtain ⟨s_H8, e_t⟩ := gen_new n_t g_H8
    clear g_H8
    refine k t z1 z2 c H8 (((((((Keep.of s_H1).trans k2).trans (Keep.of s_H3)).trans k4).trans k5).trans (Keep.of s_H6)).trans k7 |>.trans (Keep.of s_H8)) (B7.same s_H8) e_t m1 m2 c0 c1

abbrev s_l_names : Stmt := top 24
theorem sc_l_names : FnScope ["_law_bag_here", "_law_count", "_law_words", "_law_letters", "_law_size", "_law_k", "_law_stem", "_law_where", "_law_shift", "_law_longer", "_law_names_here", "_law_name", "_law_spot", "_law_word"] ["_law_bag_here", "_law_count", "_law_words"] (defScope s_l_names) := ⟨rfl, rfl, rfl, by decide +kernel, rfl, by decide +kernel, by decide +kernel⟩
def sp_l_names (_ : PySem.W.Frag) (_ : Nat → Addr) : Sp := fun vs H Q _ => ∃ (b lw : Addr) (n : Nat) (ws : List Str), vs = [.ref b, .int n, .ref lw] ∧ ∃ L : Addr, Bag H L b ∧ H lw = some (.lst (ws.map V.str)) ∧ lw ≠ b ∧ (∀ z ∈ ws, NameOk z ∧ z.length ≠ 10) ∧ ws ≠ [] ∧ ws.length < 1000 ∧ 1 ≤ n ∧ n ≤ 60 ∧
  ∀ (N : List Str) (p : Addr) (H' : Hp), N.length = n → (∀ z ∈ N, NameOk z ∧ z.length ≠ 10) → H p = none → Keep b H H' → Bag H' L b → H' p = some (.lst (N.map V.str)) → Q (.ref p) H'
theorem ok_l_names {f : Addr} {fd : FuncData} (F : Fun K "_law_names" "_law_names" s_l_names f fd) (T : Txt K mg ca) (O__law_draw : Own P w K mg base 1 "_law_draw" ["_law_bag_here", "_law_size"] (sp_l_draw K ca)) : FnOk P w K mg base (L2N.CX P w) 2 f fd ["_law_bag_here", "_law_count", "_law_words"] (sp_l_names K ca) := by
  refine okN F sc_l_names (fun vs H Q E h => ?_) (fun cdv A outer s H vs Q E hr h => ?_)
  · obtain ⟨_, _, _, _, rfl, _⟩ := h
    rfl
  · obtain ⟨b, lw, n, ws, rfl, L, hB, hw, nw, okw, w0, w1, n1, n60, k⟩ := h
    refine ⟨_, pss_cons (ps_set (i := 3) sc_l_names.nd rfl (Or.inr rfl) pe_str) (pss_cons (ps_set (i := 4) sc_l_names.nd rfl (Or.inl rfl) (pe_ix ix_list (pe_lst (pa_cons pe_int (pa_cons pe_int (pa_cons pe_int (pa_cons pe_int (pa_cons pe_int pa_nil)))))) (pe_own O__law_draw (hr.mono (by decide)) rfl pas0 (pa_cons (pv 0) (pa_cons pe_int pa_nil))) (fun _ _ => rfl))) (pss_cons (ps_set (i := 6) sc_l_names.nd rfl (Or.inl rfl) (pe_join pe_str (pe_lc (own := [("_law_k", 5)]) (g := gName 5) (tt := tYes) rfl sc_l_names.nd (pi_range1 rfl T.b_range (pa_cons (pv 4) pa_nil)) (blkOk_by (N := ["_law_bag_here", "_law_count", "_law_words", "_law_letters", "_law_size", "_law_k", "_law_stem", "_law_where", "_law_shift", "_law_longer", "_law_names_here", "_law_name", "_law_spot", "_law_word"]) (sc := defScope s_l_names) (by decide +kernel)) (fun _ _ _ _ _ => pg_name (i := 5) sc_l_names.nd rfl (by first | exact Or.inl rfl | exact Or.inr rfl)) (fun _ _ _ _ _ => pts_nil) (fun _ _ _ _ _ => pe_ix ix_str (pv 3) (pe_own O__law_draw (hr.mono (by decide)) rfl pas0 (pa_cons (pv 0) (pa_cons pe_int pa_nil))) (fun _ _ => rfl))))) (pss_cons (ps_set (i := 7) sc_l_names.nd rfl (Or.inl rfl) (pe_own O__law_draw (hr.mono (by decide)) rfl pas0 (pa_cons (pv 0) (pa_cons (pe_op op_add (pv 4) pe_int) pa_nil)))) (pss_cons (ps_set (i := 8) sc_l_names.nd rfl (Or.inl rfl) (pe_own O__law_draw (hr.mono (by decide)) rfl pas0 (pa_cons (pv 0) (pa_cons pe_int pa_nil)))) (pss_cons (ps_set (i := 9) sc_l_names.nd rfl (Or.inl rfl) (pe_own O__law_draw (hr.mono (by decide)) rfl pas0 (pa_cons (pv 0) (pa_cons pe_int pa_nil)))) (pss_cons (ps_set (i := 10) sc_l_names.nd rfl (Or.inl rfl) (pe_lst pa_nil)) (pss_cons (ps_for (passes_of rfl) rfl (pi_range1 rfl T.b_range (pa_cons (pv 1) pa_nil)) (pg_name (i := 5) sc_l_names.nd rfl (Or.inl rfl)) (pss_cons (ps_set (i := 11) sc_l_names.nd rfl (Or.inl rfl) (pe_op op_add_str (pe_op op_add_str (pe_slice sl_str (pv 6) po_none (po_some (pv 7))) (pe_ix ix_str (pv 3) (pe_op op_mod (pe_callTy call_int1 (by rfl) T.b_int (by decide +kernel) (pa_cons (pe_op op_add (pv 8) (pe_op op_mulI pe_int (pv 5))) pa_nil)) pe_int) (fun _ _ => rfl))) (pe_slice sl_str (pv 6) (po_some (pv 7)) po_none))) (pss_one (ps_expr (pe_bm PySem.F.plainAttrs_list PySem.F.slot_list_append PySem.F.type_list_append mt_append (pv 10) (pa_cons (pe_op op_add_str (pv 11) (pe_op op_mulS1 (pe_ix ix_str (pv 3) (pv 8) (fun _ _ => rfl)) (pe_callTy call_int1 (by rfl) T.b_int (by decide +kernel) (pa_cons (pe_cmpR op_eq (pe_op op_mod (pe_callTy call_int1 (by rfl) T.b_int (by decide +kernel) (pa_cons (pv 5) pa_nil)) pe_int) (pv 9) (nomark _)) pa_nil)))) pa_nil)))))) (Evl.pss_cut (ps_if (PW.pt (pw_and (pt_cmpR op_gt (pv 1) pe_int (nomark _)) (pw_and (pt_cmpR op_lt (pv 4) pe_int (nomark _)) (pw_and1 (pt_cmpR op_eq (pv 9) pe_int (nomark _)))))) (pss_one (ps_asg (pe_op op_add_str (pe_ix ix_list (pv 10) pe_int (fun _ _ => rfl)) (pe_ix ix_str (pv 3) (pe_own O__law_draw (hr.mono (by decide)) rfl pas0 (pa_cons (pv 0) (pa_cons pe_int pa_nil))) (fun _ _ => rfl))) (pg_sub (pv 10) pe_int set_list))) pss_nil) (pss_cons (ps_set (i := 12) sc_l_names.nd rfl (Or.inl rfl) (pe_own O__law_draw (hr.mono (by decide)) rfl pas0 (pa_cons (pv 0) (pa_cons (pe_op op_mulI pe_int (pv 1)) pa_nil)))) (pss_cons (ps_set (i := 13) sc_l_names.nd rfl (Or.inl rfl) (pe_ix ix_list (pv 2) (pe_own O__law_draw (hr.mono (by decide)) rfl pas0 (pa_cons (pv 0) (pa_cons (pe_callB call_len_seq (by rfl) T.b_len (by decide +kernel) (pa_cons (pv 2) pa_nil)) pa_nil))) (fun _ _ => rfl))) (pss_cons (ps_if (PW.pt (pw_and (pt_cmpR op_lt (pv 12) (pv 1) (nomark _)) (pw_and1 (pt_cmpR op_notIn_seq (pv 13) (pv 10) (by with_unfolding_all rfl))))) (pss_one (ps_asg (pv 13) (pg_sub (pv 10) (pv 12) set_list))) pss_nil) (pss_one (ps_ret (pv 10)))))))))))))), ?_⟩
    fail "rd"
    intro l n_l
    generalize g_H1 : upd _ l _ = H1
    obtain ⟨s_H1, e_l⟩ := gen_new n_l g_H1
    clear g_H1
    have B1 := hB.same s_H1
    have lb := hB.ne n_l
    fail "rd"
    refine ⟨L, B1, by decide, by decide, fun c H2 c0 c1 k2 B2 => ?_⟩
    have e_l : H2 l = some (.lst [.int 0, .int 1, .int 2, .int 3, .int 10]) := k2 _ _ e_l lb
    obtain ⟨size, hs, s0⟩ : ∃ m : Nat, atI [V.int 0, .int 1, .int 2, .int 3, .int 10] c = some (.int m) ∧ (m ≤ 3 ∨ m = 10) := by
      have hc : c = 0 ∨ c = 1 ∨ c = 2 ∨ c = 3 ∨ c = 4 := by omega
      rcases hc with rfl | rfl | rfl | rfl | rfl
      · exact ⟨0, ix_c rfl, by decide⟩
      · exact ⟨1, ix_c rfl, by decide⟩
      · exact ⟨2, ix_c rfl, by decide⟩
      · exact ⟨3, ix_c rfl, by decide⟩
      · exact ⟨10, ix_c rfl, by decide⟩
    refine ⟨_, _, _, _, rfl, rfl, SqL.of e_l, hs, ?_⟩
    refine ⟨⟨_, rfl⟩, ?_⟩
    fail "rd"
    have e62 : (2 : Int) ^ 62 = 4611686018427387904 := by decide
    refine ⟨by omega, by omega, fun D nD => lc_range (lo := 0) (n := size) (fun i H' => ∃ acc : List Str, H' D = some (.lst (acc.map V.str)) ∧ acc.length = i ∧ (∀ z ∈ acc, Sign z) ∧ Keep b H2 H' ∧ Bag H' L b)
      ⟨[], upd_same, rfl, fun _ m => (nomatch m), .of (same_upd nD), B2.same (same_upd nD)⟩ ?_ ?_⟩
    · rintro i H3 hi ⟨acc, hD, hl, hs, k3, B3⟩
      have nDb : D ≠ b := B2.ne nD
      have nDL : D ≠ L := B2.neL nD
      fail "rd"
      refine ⟨L, B3, by decide, by decide, fun d H4 d0 d1 k4 B4 => ?_⟩
      fail "rd"
      refine rIxS_abc d0 d1 ?_
      have hD4 := k4 _ _ hD nDb
      refine ⟨_, hD4, by rw [List.length_map]; exact size_line (by omega), acc ++ [⟨#[97 + d.toNat]⟩], by rw [strs_snoc]; exact upd_same, by rw [List.length_append, hl]; rfl, fun z m => ?_, ?_, ?_⟩
      · rcases List.mem_append.mp m with m | m
        · exact hs z m
        · cases List.mem_singleton.mp m
          exact sign_abc d1
      · exact keep_new (k3.trans k4) nD
      · exact B4.keep keep_upd nDb nDL
    · rintro H3 ⟨acc, hD, hl, hs, k3, B3⟩
      obtain ⟨stem, hst⟩ : ∃ z, Txt.join Str.empty acc = z := ⟨_, rfl⟩
      obtain ⟨j1, j2⟩ := join_signs hs
      rw [hst] at j1 j2
      refine ⟨_, D, acc, rfl, rfl, .inl (SqL.of hD), ?_, ?_⟩
      · have e : acc.map (·.length) = acc.map fun _ => 1 := List.map_congr_left fun z m => (hs z m).len
        have e2 : (Str.ofString "").length = 0 := by decide +kernel
        rw [e, e2, List.map_const', List.sum_replicate_nat]
        omega
      have e3 : Txt.join (Str.ofString "") acc = stem := by
        rw [← hst]
        congr 1
      rw [e3]
      clear e3 hst hs hD nD
      fail "rd"
      have z64 : ∀ x : Int, 0 ≤ x → x ≤ 1000 → x.natAbs.log2 < 9000 := fun x h0 h1 => lg164 (Nat.lt_of_le_of_lt (show x.natAbs ≤ 1000 by omega) (by decide))
      refine ⟨L, B3, by omega, z64 _ (by omega) (by omega), fun wh H4 _ _ k4 B4 => ?_⟩
      fail "rd"
      refine ⟨L, B4, by decide, by decide, fun sh H5 sh0 sh1 k5 B5 => ?_⟩
      fail "rd"
      refine ⟨L, B5, by decide, by decide, fun lo H6 _ _ k6 B6 => ?_⟩
      fail "rd"
      intro p n_p
      generalize g_H7 : upd _ p _ = H7
      obtain ⟨s_H7, e_p⟩ := gen_new n_p g_H7
      clear g_H7
      have B7 := B6.same s_H7
      have pb := B6.ne n_p
      have pL := B6.neL n_p
      have k06 : Keep b H H6 := (((Keep.of s_H1).trans k2).trans k3).trans ((k4.trans k5).trans k6)
      have hp0 : H p = none := keep_free k06 n_p pb
      have kA : Keep b H H7 := k06.trans (.of s_H7)
      clear k06 k6 k5 k4 k3 k2 B6 B5 B4 B3 B2 B1 s_H7 n_p e_l n_l lb
      fail "rd"
      refine ⟨by omega, by omega, for_range (n := n) (fun i σ' H' => ∃ (N : List Str) (v1 v2 : Option V), σ' = [some (.ref b), some (.int n), some (.ref lw), some (.str (Str.ofString "abcdefghijklmnopqrstuvwxyz")), some (.int size), v1, some (.str stem), some (.int wh), some (.int sh), some (.int lo), some (.ref p), v2, none, none] ∧
          H' p = some (.lst (N.map V.str)) ∧ N.length = i ∧ (∀ z ∈ N, Lets z ∧ size + 1 ≤ z.length ∧ z.length ≤ size + 2) ∧ Keep b H H' ∧ Bag H' L b) ⟨[], _, _, rfl, e_p, rfl, fun _ m => (nomatch m), kA, B7⟩ ?_ ?_⟩
      · rintro i σ' H' hi ⟨N, v1, v2, rfl, hp, hN, hz, kp, B⟩
        fail "rd"
        refine ⟨size_le (by omega), ?_⟩
        fail "rd"
        obtain ⟨ch, hch⟩ : ∃ c : Int, (sh + 7 * (0 + (i : Int))) % 26 = c := ⟨_, rfl⟩
        have ch0 : 0 ≤ ch := by rw [← hch]; exact Int.emod_nonneg _ (by decide)
        have ch1 : ch < 26 := by rw [← hch]; exact Int.emod_lt_of_pos _ (by decide)
        dsimp only
        rw [hch]
        refine rIxS_abc ch0 ch1 ?_
        have q1 := cutS_length stem none (some wh)
        have q2 := cutS_length stem (some wh) none
        have q3 := len_cuts (z := stem) (w := wh)
        have q4 : (⟨#[97 + ch.toNat]⟩ : Str).length = 1 := rfl
        refine ⟨_, _, rfl, rfl, size_le (by rw [q4]; omega), ?_⟩
        fail "rd"
        refine ⟨size_le (by omega), ?_⟩
        refine ⟨_, _, rfl, rfl, size_le (by rw [len_app, q4]; omega), ?_⟩
        fail "rd"
        refine rIxS_abc sh0 sh1 ?_
        fail "rd"
        refine ⟨by split <;> simp, fun w hw => ?_⟩
        obtain ⟨base, hbase⟩ : ∃ z, cutS stem none (some wh) ++ (⟨#[97 + ch.toNat]⟩ : Str) ++ cutS stem (some wh) none = z := ⟨_, rfl⟩
        have b1 : base.length = size + 1 := by rw [← hbase, len_app, len_app, q4]; omega
        have b2 : Lets base := by rw [← hbase]; exact lets_app (lets_app (lets_cut j1) (sign_abc ch1).lets) (lets_cut j1)
        have w1 : w.length ≤ 1 ∧ Lets w := by
          rcases hw with rfl | rfl
          · exact ⟨by decide, lets_nil⟩
          · exact ⟨Nat.le_refl _, (sign_abc sh1).lets⟩
        rw [hbase]
        refine ⟨_, _, rfl, rfl, size_le (by omega), ?_⟩
        fail "rd"
        have hle : N.length < 100 := by omega
        refine ⟨p, _, _, rfl, rfl, hp, by rw [List.length_map]; exact size_line (by omega), ?_⟩
        generalize g_H8 : upd _ p _ = H8
        obtain ⟨k_H8, e_H8⟩ := gen_put g_H8
        clear g_H8
        rw [strs_snoc] at e_H8
        refine ⟨N ++ [base ++ w], _, _, rfl, e_H8, by rw [List.length_append, hN]; rfl, fun z m => ?_, keep_put kp k_H8 hp0, B.keep k_H8 pb pL⟩
        rcases List.mem_append.mp m with m | m
        · exact hz z m
        · cases List.mem_singleton.mp m
          exact ⟨lets_app b2 w1.2, by rw [len_app]; omega, by rw [len_app]; omega⟩
      · rintro σ' H' ⟨N, v1, v2, rfl, hp, hN, hz, kp, B⟩
        refine ⟨fun σ' H' => ∃ (N : List Str) (v1 v2 : Option V), σ' = [some (.ref b), some (.int n), some (.ref lw), some (.str (Str.ofString "abcdefghijklmnopqrstuvwxyz")), some (.int size), v1, some (.str stem), some (.int wh), some (.int sh), some (.int lo), some (.ref p), v2, none, none] ∧
          H' p = some (.lst (N.map V.str)) ∧ N.length = n ∧ (∀ z ∈ N, NameOk z ∧ z.length ≠ 10) ∧ Keep b H H' ∧ Bag H' L b, ?_, ?_⟩
        · have easy : ∃ (N : List Str) (u1 u2 : Option V), [some (.ref b), some (.int n), some (.ref lw), some (.str (Str.ofString "abcdefghijklmnopqrstuvwxyz")), some (.int size), v1, some (.str stem), some (.int wh), some (.int sh), some (.int lo), some (.ref p), v2, none, none] = [some (.ref b), some (.int n), some (.ref lw), some (.str (Str.ofString "abcdefghijklmnopqrstuvwxyz")), some (.int size), u1, some (.str stem), some (.int wh), some (.int sh), some (.int lo), some (.ref p), u2, none, none] ∧
              H' p = some (.lst (N.map V.str)) ∧ N.length = n ∧ (∀ z ∈ N, NameOk z ∧ z.length ≠ 10) ∧ Keep b H H' ∧ Bag H' L b := ⟨N, v1, v2, rfl, hp, hN, fun z m => ⟨⟨by have := (hz z m).2.2; omega, by have := (hz z m).2.1; omega, (hz z m).1⟩, by have := (hz z m).2; omega⟩, kp, B⟩
          fail "rd"
          refine iteD (fun y1 => ?_) (fun _ => easy)
          fail "rd"
          refine iteD (fun y2 => ?_) (fun _ => easy)
          fail "rd"
          refine iteI (fun y3 => ?_) (fun _ => easy)
          fail "rd"
          obtain ⟨z0, hz0⟩ : ∃ z0, N[0]? = some z0 := ⟨N[0]'(by omega), List.getElem?_eq_getElem (by omega)⟩
          have hz0' := hz z0 (List.mem_of_getElem? hz0)
          refine ⟨_, _, _, _, rfl, rfl, SqL.of hp, ix_c (v := .str z0) (by show (N.map V.str)[0]? = _; rw [List.getElem?_map, hz0]; rfl), ?_⟩
          fail "rd"
          refine ⟨L, B, by decide, by decide, fun d H8 d0 d1 k8 B8 => ?_⟩
          fail "rd"
          refine rIxS_abc d0 d1 ?_
          have q4 : (⟨#[97 + d.toNat]⟩ : Str).length = 1 := rfl
          refine ⟨_, _, rfl, rfl, size_le (by rw [q4]; omega), ?_⟩
          have hp8 := k8 _ _ hp pb
          fail "rd"
          refine ⟨p, _, 1, 1, rfl, rfl, hp8, by unfold ixN; rw [if_pos (by decide), if_pos (by rw [List.length_map]; omega)]; rfl, ?_⟩
          generalize g_H9 : upd _ p _ = H9
          obtain ⟨k_H9, e_H9⟩ := gen_put g_H9
          clear g_H9
          rw [← List.map_set] at e_H9
          refine ⟨N.set 1 (z0 ++ ⟨#[97 + d.toNat]⟩), _, _, rfl, e_H9, by rw [List.length_set, hN], fun z m => ?_, keep_put (kp.trans k8) k_H9 hp0, B8.keep k_H9 pb pL⟩
          rcases List.mem_or_eq_of_mem_set m with m | rfl
          · exact ⟨⟨by have := (hz z m).2.2; omega, by have := (hz z m).2.1; omega, (hz z m).1⟩, by have := (hz z m).2; omega⟩
          · exact ⟨⟨by rw [len_app, q4]; omega, by rw [len_app, q4]; omega, lets_app hz0'.1 (sign_abc d1).lets⟩, by rw [len_app, q4]; omega⟩
        · rintro σ' H' ⟨N, v1, v2, rfl, hp, hN, hz, kp, B⟩
          fail "rd"
          refine ⟨L, B, by omega, z64 _ (by omega) (by omega), fun spot H8 sp0 sp1 k8 B8 => ?_⟩
          have hw8 := k8 _ _ (kp _ _ hw nw) nw
          fail "rd"
          have hwl : (0 : Int) < (ws.length : Nat) := by have := List.length_pos_iff.mpr w0; omega
          have hwl2 : ((ws.map V.str).length : Int) = (ws.length : Nat) := by rw [List.length_map]
          refine ⟨L, B8, by rw [hwl2]; exact hwl, by rw [hwl2]; exact z64 _ (by omega) (by omega), fun d H9 d0 d1 k9 B9 => ?_⟩
          rw [hwl2] at d1
          have hw9 := k9 _ _ hw8 nw
          have hp9 := k9 _ _ (k8 _ _ hp pb) pb
          obtain ⟨m, rfl⟩ := Int.eq_ofNat_of_zero_le d0
          obtain ⟨wd, hwd⟩ : ∃ z, ws[m]? = some z := ⟨ws[m]'(by omega), List.getElem?_eq_getElem (by omega)⟩
          refine ⟨_, _, _, _, rfl, rfl, SqL.of hw9, atI_nat (v := .str wd) (by rw [List.getElem?_map, hwd]; rfl), ?_⟩
          have fin := k N p H9 hN hz hp0 ((kp.trans k8).trans k9) B9 hp9
          fail "rd"
          refine iteD (fun y1 => ?_) (fun _ => ?_)
          · fail "rd"
            refine ⟨List.all_eq_true.mpr fun x hx => by obtain ⟨z, _, rfl⟩ := List.mem_map.mp hx; rfl, ?_⟩
            rw [if_pos rfl]
            cases inV (.str wd) (N.map V.str) with
            | true =>
              fail "rd"
              exact fin
            | false =>
              fail "rd"
              obtain ⟨j, rfl⟩ := Int.eq_ofNat_of_zero_le sp0
              have hj : j < N.length := by omega
              refine ⟨p, _, j, j, rfl, rfl, hp9, by unfold ixN; rw [if_pos (by omega), if_pos (by rw [List.length_map]; omega)]; rfl, ?_⟩
              generalize g_H10 : upd _ p _ = H10
              obtain ⟨k_H10, e_H10⟩ := gen_put g_H10
              clear g_H10
              rw [← List.map_set] at e_H10
              fail "rd"
              refine k (N.set j wd) p H10 (by rw [List.length_set, hN]) (fun z m => ?_) hp0 (keep_put ((kp.trans k8).trans k9) k_H10 hp0) (B9.keep k_H10 pb pL) e_H10
              rcases List.mem_or_eq_of_mem_set m with m | rfl
              · exact hz z m
              · exact okw _ (List.mem_of_getElem? hwd)
          · fail "rd"
            exact fin

abbrev s_l_pick : Stmt := top 25
theorem sc_l_pick : FnScope ["_law_bag_here", "_law_items"] ["_law_bag_here", "_law_items"] (defScope s_l_pick) := ⟨rfl, rfl, rfl, by decide +kernel, rfl, by decide +kernel, by decide +kernel⟩
def sp_l_pick (_ : PySem.W.Frag) (_ : Nat → Addr) : Sp := fun vs H Q _ => ∃ (b a : Addr) (xs : List V), vs = [.ref b, .ref a] ∧ ∃ L : Addr, Bag H L b ∧ H a = some (.lst xs) ∧ a ≠ b ∧ xs ≠ [] ∧ xs.length < 1000 ∧
  ∀ (i : Nat) (x : V) (H' : Hp), xs[i]? = some x → Keep b H H' → Bag H' L b → Q x H'
theorem ok_l_pick {f : Addr} {fd : FuncData} (F : Fun K "_law_pick" "_law_pick" s_l_pick f fd) (T : Txt K mg ca) (O__law_draw : Own P w K mg base 1 "_law_draw" ["_law_bag_here", "_law_size"] (sp_l_draw K ca)) : FnOk P w K mg base (L2N.CX P w) 2 f fd ["_law_bag_here", "_law_items"] (sp_l_pick K ca) := by
  refine okN F sc_l_pick (fun vs H Q E h => ?_) (fun cdv A outer s H vs Q E hr h => ?_)
  · obtain ⟨_, _, _, rfl, _⟩ := h
    rfl
  · obtain ⟨b, a, xs, rfl, L, hB, ha, hne, h0, h1, k⟩ := h
    refine ⟨_, pss_one (ps_ret (pe_ix ix_list (pv 1) (pe_own O__law_draw (hr.mono (by decide)) rfl pas0 (pa_cons (pv 0) (pa_cons (pe_callB call_len_seq (by rfl) T.b_len (by decide +kernel) (pa_cons (pv 1) pa_nil)) pa_nil))) (fun _ _ => rfl))), ?_⟩
    have hu : (0 : Int) < (xs.length : Nat) := by have := List.length_pos_iff.mpr h0; omega
    have h64 : (xs.length : Int).natAbs < 2 ^ 164 := Nat.lt_of_le_of_lt (show (xs.length : Int).natAbs ≤ 1000 by omega) (by decide)
    fail "rd"
    refine ⟨L, hB, hu, lg164 h64, fun d H1 d0 d1 k1 B1 => ?_⟩
    have ha := k1 _ _ ha hne
    obtain ⟨D, rfl⟩ := Int.eq_ofNat_of_zero_le d0
    have hD : D < xs.length := by omega
    refine ⟨a, xs, _, xs[D], rfl, rfl, SqL.of ha, atI_nat (by simp [hD]), ?_⟩
    exact k D _ H1 (by simp [hD]) k1 B1

abbrev s_Ratio_init : Stmt := inClass (top 9) 0
theorem sc_Ratio_init : FnScope ["self", "top", "bottom", "common"] ["self", "top", "bottom"] (defScope s_Ratio_init) := ⟨rfl, rfl, rfl, by decide +kernel, rfl, by decide +kernel, by decide +kernel⟩
def sp_Ratio_init (_ : PySem.W.Frag) (ca : Nat → Addr) : Sp := fun vs H Q E => ∃ (p dx : Addr) (a b : Int), vs = [.ref p, .int a, .int b] ∧ H p = some (.ins (ca 2) dx []) ∧ b.natAbs.log2 < 9000 ∧ (b = 0 → E (.ref (ca 1)) none H) ∧
  (b ≠ 0 → ∀ H' : Hp, Keep p H H' → H' p = some (.ins (ca 2) dx [("top", .int (nrm a b).1), ("bottom", .int (nrm a b).2)]) → Q .non H')
theorem q_make {K : PySem.W.Frag} {ca : Nat → Addr} {H : Hp} {p dx : Addr} {a b : Int} {Q : VK} {E : XK} (np : H p = none) (nd : H dx = none) (ne : dx ≠ p) (b0 : b ≠ 0) (lg : b.natAbs.log2 < 9000) (c : ∀ H' : Hp, Same H H' → QAt ca H' p (Rat.divInt a b) → Q .non H') : sp_Ratio_init K ca [.ref p, .int a, .int b] (upd (upd H dx (.own p)) p (.ins (ca 2) dx [])) Q E :=
  ⟨p, dx, a, b, rfl, upd_same, lg, fun z => absurd z b0, fun _ H2 k2 e2 => c H2 (same_made np nd ne k2) (.of ⟨b0, .of b0 e2⟩ rfl)⟩
theorem ok_Ratio_init {f : Addr} {fd : FuncData} (F : FunD K "__init__" "Ratio.__init__" (defArgs s_Ratio_init) (defBody s_Ratio_init) (defScope s_Ratio_init) [.int 1] [] f fd) (T : Txt K mg ca)  : FnOk P w K mg base (L2N.CX P w) 1 f fd ["self", "top", "bottom"] (sp_Ratio_init K ca) := by
  refine F.ok sc_Ratio_init (fun vs H Q E h => ?_) (fun cdv A outer s H vs Q E hr h => ?_)
  · obtain ⟨_, _, _, _, rfl, _⟩ := h
    rfl
  · obtain ⟨p, dx, a, b, rfl, hp, hs, h0, h1⟩ := h
    refine ⟨_, pss_cons (ps_if (pt_cmpR op_eq (pv 2) pe_int (nomark _)) (pss_one (L2N.ps_raise rfl (L2N.takes_of rfl rfl rfl rfl) (pmk_own0 PySem.F.excBase_ValueError T.ex_NoRatio T.g_NoRatio T.kp_NoRatio (raises_own T.sb_NoRatio T.ty_NoRatio) rfl))) pss_nil) (pss_cons (ps_set (i := 3) sc_Ratio_init.nd rfl (Or.inl rfl) (pe_callBfun cr_gcd rfl T.gcd (pa_cons (pv 1) (pa_cons (pv 2) pa_nil)))) (pss_cons (ps_if (pt_cmpR op_lt (pv 2) pe_int (nomark _)) (pss_one (ps_set (i := 3) sc_Ratio_init.nd rfl (Or.inl rfl) (pe_un un_neg (pv 3)))) pss_nil) (pss_cons (ps_fld (pv 0) (pe_op op_fdivA (pv 1) (pv 3)) rfl) (pss_one (ps_fld (pv 0) (pe_op op_fdivA (pv 2) (pv 3)) rfl))))), ?_⟩
    fail "rd"
    refine iteI (fun z => ?_) (fun z => ?_)
    · exact h0 z
    · have c1 := nrmC_ne (a := a) z
      have c2 := nrmC_log (a := a) z hs
      have fin : ∀ H' : Hp, H' = upd (upd H p (.ins (ca 2) dx (putF "top" (.int (nrm a b).1) []))) p (.ins (ca 2) dx (putF "bottom" (.int (nrm a b).2) (putF "top" (.int (nrm a b).1) []))) → Q .non H' := fun H' e => by
        subst e
        refine h1 z _ (keep_upd.trans keep_upd) ?_
        rw [upd_same, put_rat]
      unfold nrm nrmC at fin
      unfold nrmC at c1 c2
      fail "rd"
      refine iteD (fun y => ?_) (fun y => ?_)
      · rw [if_pos y] at fin c1 c2
        fail "rd"
        exact fin _ rfl
      · rw [if_neg y] at fin c1 c2
        fail "rd"
        exact fin _ rfl

theorem hot_Ratio_init {f : Addr} {fd : FuncData} (F : FunD K "__init__" "Ratio.__init__" (defArgs s_Ratio_init) (defBody s_Ratio_init) (defScope s_Ratio_init) [.int 1] [] f fd) (T : Txt K mg ca)  : L2H.FnH P w K mg base (L2.CX P w) 1 f fd ["self", "top", "bottom"] (sp_Ratio_init K ca) := by
  refine okHD F sc_Ratio_init (fun vs H Q E h => ?_) (fun cdv A outer s H vs Q E pn hot hr h => ?_)
  · obtain ⟨_, _, _, _, rfl, _⟩ := h
    rfl
  · obtain ⟨p, dx, a, b, rfl, hp, hs, h0, h1⟩ := h
    refine ⟨_, pss_cons (ps_if (pt_cmpR op_eq (pv 2) pe_int (nomark _)) (pss_one (ps_raiseHot (L2.takes_of rfl rfl rfl rfl) (pmk_own0 PySem.F.excBase_ValueError T.ex_NoRatio T.g_NoRatio T.kp_NoRatio (raises_own T.sb_NoRatio T.ty_NoRatio) rfl))) pss_nil) (pss_cons (ps_set (i := 3) sc_Ratio_init.nd rfl (Or.inl rfl) (pe_callBfun cr_gcd rfl T.gcd (pa_cons (pv 1) (pa_cons (pv 2) pa_nil)))) (pss_cons (ps_if (pt_cmpR op_lt (pv 2) pe_int (nomark _)) (pss_one (ps_set (i := 3) sc_Ratio_init.nd rfl (Or.inl rfl) (pe_un un_neg (pv 3)))) pss_nil) (pss_cons (ps_fld (pv 0) (pe_op op_fdivA (pv 1) (pv 3)) rfl) (pss_one (ps_fld (pv 0) (pe_op op_fdivA (pv 2) (pv 3)) rfl))))), ?_⟩
    fail "rd"
    refine iteI (fun z => ?_) (fun z => ?_)
    · exact h0 z
    · have c1 := nrmC_ne (a := a) z
      have c2 := nrmC_log (a := a) z hs
      have fin : ∀ H' : Hp, H' = upd (upd H p (.ins (ca 2) dx (putF "top" (.int (nrm a b).1) []))) p (.ins (ca 2) dx (putF "bottom" (.int (nrm a b).2) (putF "top" (.int (nrm a b).1) []))) → Q .non H' := fun H' e => by
        subst e
        refine h1 z _ (keep_upd.trans keep_upd) ?_
        rw [upd_same, put_rat]
      unfold nrm nrmC at fin
      unfold nrmC at c1 c2
      fail "rd"
      refine iteD (fun y => ?_) (fun y => ?_)
      · rw [if_pos y] at fin c1 c2
        fail "rd"
        exact fin _ rfl
      · rw [if_neg y] at fin c1 c2
        fail "rd"
        exact fin _ rfl

abbrev s_l_amount : Stmt := top 34
theorem sc_l_amount : FnScope ["_law_bag_here", "_law_choice"] ["_law_bag_here"] (defScope s_l_amount) := ⟨rfl, rfl, rfl, by decide +kernel, rfl, by decide +kernel, by decide +kernel⟩
def sp_l_amount (_ : PySem.W.Frag) (ca : Nat → Addr) : Sp := fun vs H Q _ => ∃ b : Addr, vs = [.ref b] ∧ ∃ L : Addr, Bag H L b ∧ ∀ (p : Addr) (q : Rat) (H' : Hp), Keep b H H' → Bag H' L b → QAt ca H' p q → 0 < q → Zq 20 q → Q (.ref p) H'
theorem ok_l_amount {f : Addr} {fd : FuncData} (F : Fun K "_law_amount" "_law_amount" s_l_amount f fd) (T : Txt K mg ca) (O__law_draw : Own P w K mg base 1 "_law_draw" ["_law_bag_here", "_law_size"] (sp_l_draw K ca)) (O_Ratio_2 : OwnI P w K mg base 1 "Ratio" (ca 2) ["self", "top", "bottom"] [] (sp_Ratio_init K ca)) (O_Ratio_1 : OwnI P w K mg base 1 "Ratio" (ca 2) ["self", "top", "bottom"] [.int 1] (sp_Ratio_init K ca)) : FnOk P w K mg base (L2N.CX P w) 3 f fd ["_law_bag_here"] (sp_l_amount K ca) := by
  refine okN F sc_l_amount (fun vs H Q E h => ?_) (fun cdv A outer s H vs Q E hr h => ?_)
  · obtain ⟨_, rfl, _⟩ := h
    rfl
  · obtain ⟨b, rfl, L, hB, k⟩ := h
    refine ⟨_, pss_cons (ps_set (i := 1) sc_l_amount.nd rfl (Or.inl rfl) (pe_own O__law_draw (hr.mono (by decide)) rfl pas0 (pa_cons (pv 0) (pa_cons pe_int pa_nil)))) (pss_cons (ps_if (pt_cmpR op_eq (pv 1) pe_int (nomark _)) (pss_one (ps_ret (pe_owni O_Ratio_2 (hr.mono (by decide)) rfl pas0 (pa_cons (pe_op op_add pe_int (pe_own O__law_draw (hr.mono (by decide)) rfl pas0 (pa_cons (pv 0) (pa_cons pe_int pa_nil)))) (pa_cons (pe_op op_add pe_int (pe_own O__law_draw (hr.mono (by decide)) rfl pas0 (pa_cons (pv 0) (pa_cons pe_int pa_nil)))) pa_nil))))) pss_nil) (pss_one (ps_ret (pe_owni O_Ratio_1 (hr.mono (by decide)) rfl pas0 (pa_cons (pe_op op_add pe_int (pe_own O__law_draw (hr.mono (by decide)) rfl pas0 (pa_cons (pv 0) (pa_cons (pe_ix ix_list (pe_lst (pa_cons pe_int (pa_cons pe_int (pa_cons pe_int pa_nil)))) (pe_op op_sub (pv 1) pe_int) (fun _ _ => rfl)) pa_nil)))) pa_nil))))), ?_⟩
    fail "rd"
    refine ⟨L, hB, by decide, by decide, fun d H1 d0 d1 k1 B1 => ?_⟩
    fail "rd"
    refine iteI (fun z => ?_) (fun z => ?_)
    · fail "rd"
      refine ⟨L, B1, by decide, by decide, fun x H2 x0 x1 k2 B2 => ?_⟩
      fail "rd"
      refine ⟨L, B2, by decide, by decide, fun y H3 y0 y1 k3 B3 => ?_⟩
      fail "rd"
      intro p dx np nd ne
      obtain ⟨g1, g2⟩ := rat_made (a := 1 + x) (b := 1 + y) (by omega) (by omega) (by omega) (by omega)
      refine q_make np nd ne (by omega) (sz20 (by omega) (by omega)).lg fun H4 s4 h4 => ⟨rfl, ?_⟩
      exact k p _ H4 (((k1.trans k2).trans k3).trans (Keep.of s4)) (B3.same s4) h4 g1 g2
    · fail "rd"
      intro l1 n_l1
      generalize g_H2 : upd _ l1 _ = H2
      obtain ⟨s_H2, e_l1⟩ := gen_new n_l1 g_H2
      clear g_H2
      have B2 := B1.same s_H2
      obtain ⟨m, hm, m1, m2⟩ : ∃ m : Int, atI [V.int 5, .int 3, .int 1000000] (d - 1) = some (.int m) ∧ 1 ≤ m ∧ m ≤ 1000000 := by
        have hd : d = 1 ∨ d = 2 ∨ d = 3 := by omega
        rcases hd with rfl | rfl | rfl
        · exact ⟨5, ix_c rfl, by decide, by decide⟩
        · exact ⟨3, ix_c rfl, by decide, by decide⟩
        · exact ⟨1000000, ix_c rfl, by decide, by decide⟩
      fail "rd"
      refine ⟨_, _, _, _, rfl, rfl, SqL.of e_l1, hm, ?_⟩
      fail "rd"
      refine ⟨L, B2, by omega, (sz20 (by omega) m2).lg, fun x H3 x0 x1 k3 B3 => ?_⟩
      fail "rd"
      intro p dx np nd ne
      obtain ⟨g1, g2⟩ := rat_made (a := 1 + x) (b := 1) (by omega) (by omega) (by omega) (by omega)
      refine q_make np nd ne (by decide) (by decide) fun H4 s4 h4 => ⟨rfl, ?_⟩
      exact k p _ H4 (((k1.trans (Keep.of s_H2)).trans k3).trans (Keep.of s4)) (B3.same s4) h4 g1 g2

abbrev s_l_layers : Stmt := top 35
theorem sc_l_layers : FnScope ["_law_bag_here", "_law_lots", "_law_most", "_law_found", "_law_k", "_law_lot"] ["_law_bag_here", "_law_lots", "_law_most"] (defScope s_l_layers) := ⟨rfl, rfl, rfl, by decide +kernel, rfl, by decide +kernel, by decide +kernel⟩
def sp_l_layers (_ : PySem.W.Frag) (ca : Nat → Addr) : Sp := fun vs H Q _ => ∃ (b ln : Addr) (zs : List Str) (n : Nat), vs = [.ref b, .ref ln, .int (n : Nat)] ∧ ∃ L : Addr, Bag H L b ∧ H ln = some (.lst (zs.map V.str)) ∧ ln ≠ b ∧ zs ≠ [] ∧ zs.length ≤ 100 ∧ n ≤ 20 ∧
  ∀ (l : Addr) (xs : List V) (ls : Ls) (H' : Hp), H l = none → Keep b H H' → Bag H' L b → H' l = some (.lst xs) → Lay ca H' xs ls → NoAdj ls → (∀ x ∈ ls, x.1 ∈ zs ∧ 0 < x.2 ∧ Zq 20 x.2) → ls.length ≤ n → Q (.ref l) H'
theorem ok_l_layers {f : Addr} {fd : FuncData} (F : Fun K "_law_layers" "_law_layers" s_l_layers f fd) (T : Txt K mg ca) (O__law_draw : Own P w K mg base 1 "_law_draw" ["_law_bag_here", "_law_size"] (sp_l_draw K ca)) (O__law_pick : Own P w K mg base 2 "_law_pick" ["_law_bag_here", "_law_items"] (sp_l_pick K ca)) (O__law_amount : Own P w K mg base 3 "_law_amount" ["_law_bag_here"] (sp_l_amount K ca)) : FnOk P w K mg base (L2N.CX P w) 4 f fd ["_law_bag_here", "_law_lots", "_law_most"] (sp_l_layers K ca) := by
  refine okN F sc_l_layers (fun vs H Q E h => ?_) (fun cdv A outer s H vs Q E hr h => ?_)
  · obtain ⟨_, _, _, _, rfl, _⟩ := h
    rfl
  · obtain ⟨b, ln, zs, n, rfl, L, hB, hn, nlb, z0, zl, n20, k⟩ := h
    refine ⟨_, pss_cons (ps_set (i := 3) sc_l_layers.nd rfl (Or.inl rfl) (pe_lst pa_nil)) (pss_cons (ps_for (passes_of rfl) rfl (pi_range1 rfl T.b_range (pa_cons (pe_own O__law_draw (hr.mono (by decide)) rfl pas0 (pa_cons (pv 0) (pa_cons (pe_op op_add (pv 2) pe_int) pa_nil))) pa_nil)) (pg_name (i := 4) sc_l_layers.nd rfl (Or.inl rfl)) (pss_cons (ps_set (i := 5) sc_l_layers.nd rfl (Or.inl rfl) (pe_own O__law_pick (hr.mono (by decide)) rfl pas0 (pa_cons (pv 0) (pa_cons (pv 1) pa_nil)))) (pss_one (ps_if (pt_mid (PW.pt (pw_or (pt_cmpR (op_eqNilL (Room.units0 (hr.mono (Nat.zero_le _)))) (pv 3) (pe_lst pa_nil) (nomark _)) (pw_or1 (pt_cmpR op_ne (pe_ix ix_tup (pe_ix ix_list (pv 3) (pe_un un_neg pe_int) (fun _ _ => rfl)) pe_int (fun _ _ => rfl)) (pv 5) (nomark _)))))) (pss_one (ps_expr (pe_bm PySem.F.plainAttrs_list PySem.F.slot_list_append PySem.F.type_list_append mt_append (pv 3) (pa_cons (pe_tup (pa_cons (pv 5) (pa_cons (pe_own O__law_amount (hr.mono (by decide)) rfl pas0 (pa_cons (pv 0) pa_nil)) pa_nil))) pa_nil)))) pss_nil)))) (pss_one (ps_ret (pv 3)))), ?_⟩
    have e62 : (2 : Int) ^ 62 = 4611686018427387904 := by decide
    fail "rd"
    intro F n_F
    generalize g_H1 : upd _ F _ = H1
    obtain ⟨s_H1, e_F⟩ := gen_new n_F g_H1
    clear g_H1
    have B1 := hB.same s_H1
    have nFb := hB.ne n_F
    have nFL := hB.neL n_F
    have hn1 := s_H1 _ _ hn
    have nlF : ln ≠ F := ne_of_none hn n_F
    fail "rd"
    refine ⟨L, B1, by omega, (sz20 (by omega) (by omega)).lg, fun d H2 d0 d1 k2 B2 => ?_⟩
    obtain ⟨N, rfl⟩ := Int.eq_ofNat_of_zero_le d0
    fail "rd"
    refine ⟨by omega, by omega, for_range (n := N) (fun i σ' H' => ∃ (v4 v5 : Option V) (xs : List V) (ls : Ls), σ' = [some (.ref b), some (.ref ln), some (.int (n : Nat)), some (.ref F), v4, v5] ∧ Keep b H H' ∧ Bag H' L b ∧ H' ln = some (.lst (zs.map V.str)) ∧ H' F = some (.lst xs) ∧ Lay ca H' xs ls ∧ NoAdj ls ∧ (∀ x ∈ ls, x.1 ∈ zs ∧ 0 < x.2 ∧ Zq 20 x.2) ∧ ls.length ≤ i) ⟨_, _, [], [], rfl, (Keep.of s_H1).trans k2, B2, k2 _ _ hn1 nlb, k2 _ _ e_F nFb, .nil, trivial, (fun x m => by cases m), Nat.le_refl _⟩ ?_ ?_⟩
    · rintro i σ' H3 hi ⟨v4, v5, xs, ls, rfl, k3, B3, hn3, hF3, hx3, na, hz, li⟩
      fail "rd"
      refine ⟨b, ln, _, rfl, L, B3, hn3, nlb, by simpa using z0, by rw [List.length_map]; omega, fun j x H4 hj k4 B4 => ?_⟩
      obtain ⟨z, hz1, rfl⟩ : ∃ u, zs[j]? = some u ∧ V.str u = x := by
        rw [List.getElem?_map] at hj
        exact Option.map_eq_some_iff.mp hj
      obtain ⟨xb, hxb⟩ := B3.lst
      have hF4 := k4 _ _ hF3 nFb
      have hn4 := k4 _ _ hn3 nlb
      have hx4 := hx3.putL hxb k4
      have lx := hx4.length
      have z2 : zs ≠ [] := z0
      fail "rd"
      refine ⟨fun c H' => Same H4 H' ∧ (c = true → ∀ y, ls.getLast? = some y → y.1 ≠ z), ?_, ?_⟩
      · fail "rd"
        intro e n_e
        generalize g_H5 : upd _ e _ = H5
        obtain ⟨s_H5, e_e⟩ := gen_new n_e g_H5
        clear g_H5
        have hF5 := s_H5 _ _ hF4
        refine ⟨F, e, xs, rfl, rfl, hF5, e_e, ?_⟩
        rcases List.eq_nil_or_concat ls with rfl | ⟨ls0, y, rfl⟩
        · cases hx4
          fail "rd"
          exact ⟨s_H5, fun _ y h => by cases h⟩
        · rw [List.concat_eq_append] at hx4 lx ⊢
          have gl : (ls0 ++ [y])[ls0.length]? = some y := by simp
          have ci : ls0.length < xs.length := by rw [lx, List.length_append]; simp
          have gx : xs[ls0.length]? = some xs[ls0.length] := List.getElem?_eq_getElem ci
          obtain ⟨ta, pa, et, hta, hpa⟩ := paired_get hx4 gx gl
          have exs : xs = xs.dropLast ++ [V.ref ta] := by
            have l1 : xs.length - 1 = ls0.length := by rw [lx, List.length_append]; simp
            have h0 : xs ≠ [] := fun q => by rw [q] at ci; simp at ci
            have := List.dropLast_concat_getLast h0
            rw [List.getLast_eq_getElem] at this
            rw [← et]
            simp only [l1] at this
            exact this.symm
          have al : atI xs (-1) = some (.ref ta) := by rw [exs]; exact atI_last _ _
          have ne : xs.isEmpty = false := by rw [exs]; simp
          rw [ne]
          have hta5 := s_H5 _ _ hta
          fail "rd"
          refine ⟨_, _, _, _, rfl, rfl, SqL.of hF5, al, ?_⟩
          fail "rd"
          refine ⟨s_H5, fun c y2 h => ?_⟩
          obtain rfl : y = y2 := by simpa using h
          intro e
          rw [e] at c
          simp at c
      · rintro c H5 ⟨s5, hc⟩
        cases c with
        | false =>
          fail "rd"
          exact ⟨_, _, xs, ls, rfl, (k3.trans k4).trans (Keep.of s5), B4.same s5, s5 _ _ hn4, s5 _ _ hF4, hx4.same s5, na, hz, by omega⟩
        | true =>
          have hF5 := s5 _ _ hF4
          fail "rd"
          refine ⟨L, B4.same s5, fun p q H6 k6 B6 hp q0 zq => ?_⟩
          obtain ⟨xb5, hxb5⟩ := (B4.same s5).lst
          have hF6 := k6 _ _ hF5 nFb
          have hx6 := (hx4.same s5).putL hxb5 k6
          have hn6 := k6 _ _ (s5 _ _ hn4) nlb
          fail "rd"
          intro t n_t
          generalize g_H7 : upd _ t _ = H7
          obtain ⟨s_H7, e_t⟩ := gen_new n_t g_H7
          clear g_H7
          have hF7 := s_H7 _ _ hF6
          refine ⟨F, xs, _, rfl, rfl, hF7, Nat.lt_of_lt_of_le (show xs.length < 5000 by omega) (line_le (by decide)), ?_⟩
          refine ⟨_, _, xs ++ [V.ref t], ls ++ [(z, q)], rfl, keep_new ((k3.trans k4).trans ((Keep.of s5).trans (k6.trans (Keep.of s_H7)))) n_F, (B6.same s_H7).keep keep_upd nFb nFL, une nlF (s_H7 _ _ hn6), upd_same, Paired.snoc ((hx6.same s_H7).putL hF7 keep_upd) (LR.keep ⟨t, p, rfl, e_t, hp.same s_H7⟩ hF7 (fun _ z => nomatch z) (fun _ _ _ z => nomatch z) keep_upd), noAdj_snoc na (hc rfl), fun x m => ?_, by rw [List.length_append]; simp only [List.length_cons, List.length_nil]; omega⟩
          rcases List.mem_append.mp m with m | m
          · exact hz x m
          · rw [List.mem_singleton.mp m]
            exact ⟨List.mem_of_getElem? hz1, q0, zq⟩
    · rintro σ' H3 ⟨v4, v5, xs, ls, rfl, k3, B3, hn3, hF3, hx3, na, hz, li⟩
      fail "rd"
      exact k F xs ls H3 n_F k3 B3 hF3 hx3 na hz (by omega)

abbrev s_as_ratio : Stmt := top 8
theorem sc_as_ratio : FnScope ["number"] ["number"] (defScope s_as_ratio) := ⟨rfl, rfl, rfl, by decide +kernel, rfl, by decide +kernel, by decide +kernel⟩
def sp_as_ratio (_ : PySem.W.Frag) (ca : Nat → Addr) : Sp := fun vs H Q _ => ∃ (x : V) (t b : Int), vs = [x] ∧ NumV ca H x t b ∧ ∀ (p : Addr) (H' : Hp), Same H H' → RatAt ca H' p t b → Q (.ref p) H'
theorem ok_as_ratio {f : Addr} {fd : FuncData} (F : Fun K "as_ratio" "as_ratio" s_as_ratio f fd) (T : Txt K mg ca) (O_Ratio_2 : OwnI P w K mg base 1 "Ratio" (ca 2) ["self", "top", "bottom"] [] (sp_Ratio_init K ca)) (O_Ratio_1 : OwnI P w K mg base 1 "Ratio" (ca 2) ["self", "top", "bottom"] [.int 1] (sp_Ratio_init K ca)) : FnOk P w K mg base (L2N.CX P w) 3 f fd ["number"] (sp_as_ratio K ca) := by
  refine okN F sc_as_ratio (fun vs H Q E h => ?_) (fun cdv A outer s H vs Q E hr h => ?_)
  · obtain ⟨_, _, _, rfl, _⟩ := h
    rfl
  · obtain ⟨x, t, b, rfl, hn, k⟩ := h
    refine ⟨_, pss_cons (ps_if (pt_val (pe_callB call_isi (by rfl) T.b_isinstance (by decide +kernel) (pa_cons (pv 0) (pa_cons (pe_glob (v := .ref (ca 2)) (by rfl) T.g_Ratio rfl) pa_nil)))) (pss_one (ps_ret (pv 0))) pss_nil) (pss_one (ps_ret (pe_owni O_Ratio_1 (hr.mono (by decide)) rfl pas0 (pa_cons (pv 0) pa_nil)))), ?_⟩
    rcases hn with ⟨rfl, rfl⟩ | ⟨p, rfl, hR⟩
    · fail "rd"
      refine ⟨_, _, _, _, _, rfl, .own _, .base (.int _), T.ki_int_Ratio, ?_⟩
      fail "rd"
      intro p dx np nd ne
      refine ⟨p, dx, t, 1, rfl, upd_same, by decide, fun z => absurd z (by decide), fun _ H2 k2 e2 => ⟨rfl, ?_⟩⟩
      refine k p H2 (same_made np nd ne k2) ⟨red_one, dx, ?_⟩
      rw [e2, nrm_one]
    · obtain ⟨hr1, dx, hp⟩ := id hR
      fail "rd"
      refine ⟨_, _, _, _, _, rfl, .own _, .base (.ins hp T.cl_Ratio T.ic_Ratio T.in_Ratio T.it_Ratio T.im_Ratio), kit_self, ?_⟩
      fail "rd"
      exact k p H (Same.refl H) hR

theorem hot_as_ratio {f : Addr} {fd : FuncData} (F : Fun K "as_ratio" "as_ratio" s_as_ratio f fd) (T : Txt K mg ca) (O_Ratio_2 : OwnIH P w K mg base 1 "Ratio" (ca 2) ["self", "top", "bottom"] [] (sp_Ratio_init K ca)) (O_Ratio_1 : OwnIH P w K mg base 1 "Ratio" (ca 2) ["self", "top", "bottom"] [.int 1] (sp_Ratio_init K ca)) : L2H.FnH P w K mg base (L2.CX P w) 3 f fd ["number"] (sp_as_ratio K ca) := by
  refine okH F sc_as_ratio (fun vs H Q E h => ?_) (fun cdv A outer s H vs Q E pn hot hr h => ?_)
  · obtain ⟨_, _, _, rfl, _⟩ := h
    rfl
  · obtain ⟨x, t, b, rfl, hn, k⟩ := h
    refine ⟨_, pss_cons (ps_if (pt_val (pe_callB call_isi (by rfl) T.b_isinstance (by decide +kernel) (pa_cons (pv 0) (pa_cons (pe_glob (v := .ref (ca 2)) (by rfl) T.g_Ratio rfl) pa_nil)))) (pss_one (ps_ret (pv 0))) pss_nil) (pss_one (ps_ret (pe_owniH O_Ratio_1 (hr.mono (by decide)) rfl pasH (pa_cons (pv 0) pa_nil)))), ?_⟩
    rcases hn with ⟨rfl, rfl⟩ | ⟨p, rfl, hR⟩
    · fail "rd"
      refine ⟨_, _, _, _, _, rfl, .own _, .base (.int _), T.ki_int_Ratio, ?_⟩
      fail "rd"
      intro p dx np nd ne
      refine ⟨p, dx, t, 1, rfl, upd_same, by decide, fun z => absurd z (by decide), fun _ H2 k2 e2 => ⟨rfl, ?_⟩⟩
      refine k p H2 (same_made np nd ne k2) ⟨red_one, dx, ?_⟩
      rw [e2, nrm_one]
    · obtain ⟨hr1, dx, hp⟩ := id hR
      fail "rd"
      refine ⟨_, _, _, _, _, rfl, .own _, .base (.ins hp T.cl_Ratio T.ic_Ratio T.in_Ratio T.it_Ratio T.im_Ratio), kit_self, ?_⟩
      fail "rd"
      exact k p H (Same.refl H) hR

abbrev s_Ratio_add : Stmt := inClass (top 9) 1
theorem sc_Ratio_add : FnScope ["self", "other", "number"] ["self", "other"] (defScope s_Ratio_add) := ⟨rfl, rfl, rfl, by decide +kernel, rfl, by decide +kernel, by decide +kernel⟩
def sp_Ratio_add (_ : PySem.W.Frag) (ca : Nat → Addr) : Sp := fun vs H Q _ => ∃ (p : Addr) (x : V) (a b a' b' : Int), vs = [.ref p, x] ∧ RatQ ca H p a b ∧ NumQ ca H x a' b' ∧ Sz 4000 a ∧ Sz 4000 b ∧ Sz 4000 a' ∧ Sz 4000 b' ∧
  ∀ (q : Addr) (H' : Hp), H q = none → Same H H' → RatQ ca H' q (a * b' + a' * b) (b * b') → Q (.ref q) H'
theorem q_add {K : PySem.W.Frag} {ca : Nat → Addr} {H : Hp} {p : Addr} {x : V} {a b : Rat} {Q : VK} {E : XK} (h : QAt ca H p a) (k : QV ca H x b) (sa : Zq 4000 a) (sb : Zq 4000 b) (c : ∀ (q : Addr) (H' : Hp), H q = none → Same H H' → QAt ca H' q (a + b) → Q (.ref q) H') : sp_Ratio_add K ca [.ref p, x] H Q E :=
  ⟨p, x, _, _, _, _, rfl, h.r, k.n, sa.1, sa.2, sb.1, sb.2, fun q H' n s r => c q H' n s (.of r id_add)⟩
theorem o_add {K : PySem.W.Frag} {ca : Nat → Addr} {H : Hp} {p : Addr} {x : V} {a b : Rat} {Q : VK} {E : XK} (h : QAt ca H p a) (k : QV ca H x b) (sa : Zq 4000 a) (sb : Zq 4000 b) (c : ∀ (q : Addr) (H' : Hp), H q = none → Same H H' → QAt ca H' q (a + b) → Q (.ref q) H') : rOwn (ca 2) (sp_Ratio_add K ca) E (.ref p) x H Q :=
  rOwn_of h.r k.n (q_add h k sa sb c)
theorem ok_Ratio_add {f : Addr} {fd : FuncData} (F : Fun K "__add__" "Ratio.__add__" s_Ratio_add f fd) (T : Txt K mg ca) (O_as_ratio : Own P w K mg base 3 "as_ratio" ["number"] (sp_as_ratio K ca)) (O_Ratio_2 : OwnI P w K mg base 1 "Ratio" (ca 2) ["self", "top", "bottom"] [] (sp_Ratio_init K ca)) (O_Ratio_1 : OwnI P w K mg base 1 "Ratio" (ca 2) ["self", "top", "bottom"] [.int 1] (sp_Ratio_init K ca)) : FnOk P w K mg base (L2N.CX P w) 4 f fd ["self", "other"] (sp_Ratio_add K ca) := by
  refine okN F sc_Ratio_add (fun vs H Q E h => ?_) (fun cdv A outer s H vs Q E hr h => ?_)
  · obtain ⟨_, _, _, _, _, _, rfl, _⟩ := h
    rfl
  · obtain ⟨p, x, a, b, a', b', rfl, hR, hn, s1, s2, s3, s4, k⟩ := h
    refine ⟨_, pss_cons (ps_set (i := 2) sc_Ratio_add.nd rfl (Or.inl rfl) (pe_own O_as_ratio (hr.mono (by decide)) rfl pas0 (pa_cons (pv 1) pa_nil))) (pss_one (ps_ret (pe_owni O_Ratio_2 (hr.mono (by decide)) rfl pas0 (pa_cons (pe_op op_add (pe_op op_mulI (pe_fld (pv 0) rfl) (pe_fld (pv 2) rfl)) (pe_op op_mulI (pe_fld (pv 2) rfl) (pe_fld (pv 0) rfl))) (pa_cons (pe_op op_mulI (pe_fld (pv 0) rfl) (pe_fld (pv 2) rfl)) pa_nil))))), ?_⟩
    fail "rd"
    refine ⟨x, _, _, rfl, hn.num, fun q H1 sm hq => ?_⟩
    obtain ⟨dx, hp⟩ := (hR.same sm).ins
    obtain ⟨_, dy, hq⟩ := hq
    have t1 := s1.le (nrm_le1 (a := a) hR.ne)
    have t2 := s2.le (nrm_le2 (a := a) hR.ne)
    have t3 := s3.le (nrm_le1 (a := a') hn.ne)
    have t4 := s4.le (nrm_le2 (a := a') hn.ne)
    have m1 : IntMulOk (nrm a b).1 (nrm a' b').2 := t1.mok t4
    have m2 : IntMulOk (nrm a' b').1 (nrm a b).2 := t3.mok t2
    have m3 : IntMulOk (nrm a b).2 (nrm a' b').2 := t2.mok t4
    have m4 : IntMulOk (nrm a b).1 (nrm a' b').1 := t1.mok t3
    have n0 : (nrm a b).2 * (nrm a' b').2 ≠ 0 := Int.mul_ne_zero (nrm_ne hR.ne) (nrm_ne hn.ne)
    fail "rd"
    intro r d_r n_r nd_r ne_r
    refine ⟨r, d_r, _, _, rfl, upd_same, ((t2.mul t4).lg), fun z => absurd z n0, fun _ H2 k_r e_r => ⟨rfl, ?_⟩⟩
    have s_H2 := same_made n_r nd_r ne_r k_r
    exact k r H2 (sm.free n_r) (sm.trans s_H2) (.of (Int.mul_ne_zero hR.ne hn.ne) e_r (nrm_add hR.ne hn.ne))

theorem hot_Ratio_add {f : Addr} {fd : FuncData} (F : Fun K "__add__" "Ratio.__add__" s_Ratio_add f fd) (T : Txt K mg ca) (O_as_ratio : OwnH P w K mg base 3 "as_ratio" ["number"] (sp_as_ratio K ca)) (O_Ratio_2 : OwnIH P w K mg base 1 "Ratio" (ca 2) ["self", "top", "bottom"] [] (sp_Ratio_init K ca)) (O_Ratio_1 : OwnIH P w K mg base 1 "Ratio" (ca 2) ["self", "top", "bottom"] [.int 1] (sp_Ratio_init K ca)) : L2H.FnH P w K mg base (L2.CX P w) 4 f fd ["self", "other"] (sp_Ratio_add K ca) := by
  refine okH F sc_Ratio_add (fun vs H Q E h => ?_) (fun cdv A outer s H vs Q E pn hot hr h => ?_)
  · obtain ⟨_, _, _, _, _, _, rfl, _⟩ := h
    rfl
  · obtain ⟨p, x, a, b, a', b', rfl, hR, hn, s1, s2, s3, s4, k⟩ := h
    refine ⟨_, pss_cons (ps_set (i := 2) sc_Ratio_add.nd rfl (Or.inl rfl) (pe_ownH O_as_ratio (hr.mono (by decide)) rfl pasH (pa_cons (pv 1) pa_nil))) (pss_one (ps_ret (pe_owniH O_Ratio_2 (hr.mono (by decide)) rfl pasH (pa_cons (pe_op op_add (pe_op op_mulI (pe_fld (pv 0) rfl) (pe_fld (pv 2) rfl)) (pe_op op_mulI (pe_fld (pv 2) rfl) (pe_fld (pv 0) rfl))) (pa_cons (pe_op op_mulI (pe_fld (pv 0) rfl) (pe_fld (pv 2) rfl)) pa_nil))))), ?_⟩
    fail "rd"
    refine ⟨x, _, _, rfl, hn.num, fun q H1 sm hq => ?_⟩
    obtain ⟨dx, hp⟩ := (hR.same sm).ins
    obtain ⟨_, dy, hq⟩ := hq
    have t1 := s1.le (nrm_le1 (a := a) hR.ne)
    have t2 := s2.le (nrm_le2 (a := a) hR.ne)
    have t3 := s3.le (nrm_le1 (a := a') hn.ne)
    have t4 := s4.le (nrm_le2 (a := a') hn.ne)
    have m1 : IntMulOk (nrm a b).1 (nrm a' b').2 := t1.mok t4
    have m2 : IntMulOk (nrm a' b').1 (nrm a b).2 := t3.mok t2
    have m3 : IntMulOk (nrm a b).2 (nrm a' b').2 := t2.mok t4
    have m4 : IntMulOk (nrm a b).1 (nrm a' b').1 := t1.mok t3
    have n0 : (nrm a b).2 * (nrm a' b').2 ≠ 0 := Int.mul_ne_zero (nrm_ne hR.ne) (nrm_ne hn.ne)
    fail "rd"
    intro r d_r n_r nd_r ne_r
    refine ⟨r, d_r, _, _, rfl, upd_same, ((t2.mul t4).lg), fun z => absurd z n0, fun _ H2 k_r e_r => ⟨rfl, ?_⟩⟩
    have s_H2 := same_made n_r nd_r ne_r k_r
    exact k r H2 (sm.free n_r) (sm.trans s_H2) (.of (Int.mul_ne_zero hR.ne hn.ne) e_r (nrm_add hR.ne hn.ne))

abbrev s_l_total : Stmt := top 28
theorem sc_l_total : FnScope ["_law_parts", "_law_total_here", "_law_lot", "_law_amount_here"] ["_law_parts"] (defScope s_l_total) := ⟨rfl, rfl, rfl, by decide +kernel, rfl, by decide +kernel, by decide +kernel⟩
def sp_l_total (_ : PySem.W.Frag) (ca : Nat → Addr) : Sp := fun vs H Q _ => ∃ (l : Addr) (xs : List V) (ls : Ls) (n : Nat), vs = [.ref l] ∧ H l = some (.lst xs) ∧ Lay ca H xs ls ∧ ZL n ls ∧ ls.length * (n + 1) + 2 ≤ 4000 ∧ n ≤ 3999 ∧
  ∀ (p : Addr) (H' : Hp), Same H H' → QAt ca H' p (tot ls) → Q (.ref p) H'
theorem ok_l_total {f : Addr} {fd : FuncData} (F : Fun K "_law_total" "_law_total" s_l_total f fd) (T : Txt K mg ca) (O_Ratio_2 : OwnI P w K mg base 1 "Ratio" (ca 2) ["self", "top", "bottom"] [] (sp_Ratio_init K ca)) (O_Ratio_1 : OwnI P w K mg base 1 "Ratio" (ca 2) ["self", "top", "bottom"] [.int 1] (sp_Ratio_init K ca)) (O_Ratio___add__ : OwnM P w K mg base 4 (ca 2) "__add__" ["self", "other"] (sp_Ratio_add K ca)) : FnOk P w K mg base (L2N.CX P w) 5 f fd ["_law_parts"] (sp_l_total K ca) := by
  refine okN F sc_l_total (fun vs H Q E h => ?_) (fun cdv A outer s H vs Q E hr h => ?_)
  · obtain ⟨_, _, _, _, rfl, _⟩ := h
    rfl
  · obtain ⟨l, xs, ls, n, rfl, hl, hx, zl, sz, n39, k⟩ := h
    refine ⟨_, pss_cons (ps_set (i := 1) sc_l_total.nd rfl (Or.inl rfl) (pe_owni O_Ratio_1 (hr.mono (by decide)) rfl pas0 (pa_cons pe_int pa_nil))) (pss_cons (ps_for (passes_of rfl) rfl (pi_list (pv 0)) (pg_tup rfl (pgs_cons (pg_name (i := 2) sc_l_total.nd rfl (Or.inl rfl)) (pgs_cons (pg_name (i := 3) sc_l_total.nd rfl (Or.inl rfl)) pgs_nil))) (pss_one (ps_set (i := 1) sc_l_total.nd rfl (Or.inl rfl) (pe_op (op_own .add T.ar_Ratio O_Ratio___add__ (hr.mono (by decide)) passN) (pv 1) (pv 3))))) (pss_one (ps_ret (pv 1)))), ?_⟩
    have lx := hx.length
    have lm : ls.length ≤ 4000 := by
      have := Nat.le_mul_of_pos_right ls.length (show 0 < n + 1 by omega)
      omega
    fail "rd"
    intro r dx nr nd ne
    refine q_make nr nd ne (by decide) (by decide) fun H1 s1 hr1 => ⟨rfl, ?_⟩
    have e0 : Rat.divInt 0 1 = 0 := Rat.zero_divInt 1
    rw [e0] at hr1
    fail "rd"
    refine for_list (K := K) (D := ⟨_, _, fun _ _ => True, fun _ _ => True⟩) (a := l) (xs := xs) (fun i σ' H' => ∃ (r : Addr) (v2 v3 : Option V), σ' = [some (.ref l), some (.ref r), v2, v3] ∧ Same H H' ∧ QAt ca H' r (tot (ls.take i))) ⟨r, _, _, rfl, s1, hr1⟩ (fun i σ' H' _ ⟨_, _, _, _, s, _⟩ => SqL.of (s _ _ hl)) ?_ ?_
    · rintro i v σ' H2 hi ⟨r, v2, v3, rfl, s2, hr2⟩
      have ci : i < ls.length := by rw [← lx]; exact (List.getElem?_eq_some_iff.mp hi).1
      have gl : ls[i]? = some ls[i] := List.getElem?_eq_getElem ci
      have tk : tot (ls.take (i + 1)) = tot (ls.take i) + ls[i].2 := by rw [List.take_add_one, gl, tot_app]; exact congrArg _ tot_one
      obtain ⟨ta, pa, rfl, hta, hpa⟩ := paired_get hx hi gl
      have zx : Zq 4000 ls[i].2 := (zl _ (List.getElem_mem ci)).mono (by omega)
      have zt : Zq 4000 (tot (ls.take i)) := by
        have z := tot_zq (n := n) (ls := ls.take i) fun x mx => zl x (List.mem_of_mem_take mx)
        have : (ls.take i).length * (n + 1) ≤ ls.length * (n + 1) := Nat.mul_le_mul_right _ (by rw [List.length_take]; omega)
        exact z.mono (by omega)
      rw [tk]
      generalize ls[i] = x at hta hpa zx ⊢
      have hta2 := s2 _ _ hta
      fail "rd"
      refine o_add hr2 (hpa.same s2).v zt zx fun q H3 nq s3 hq => ?_
      exact ⟨q, _, _, rfl, s2.trans s3, hq⟩
    · rintro σ' H2 ⟨r, v2, v3, rfl, s2, hr2⟩
      rw [lx, List.take_length] at hr2
      fail "rd"
      exact k r H2 s2 hr2

theorem hot_l_total {f : Addr} {fd : FuncData} (F : Fun K "_law_total" "_law_total" s_l_total f fd) (T : Txt K mg ca) (O_Ratio_2 : OwnIH P w K mg base 1 "Ratio" (ca 2) ["self", "top", "bottom"] [] (sp_Ratio_init K ca)) (O_Ratio_1 : OwnIH P w K mg base 1 "Ratio" (ca 2) ["self", "top", "bottom"] [.int 1] (sp_Ratio_init K ca)) (O_Ratio___add__ : OwnMH P w K mg base 4 (ca 2) "__add__" ["self", "other"] (sp_Ratio_add K ca)) : L2H.FnH P w K mg base (L2.CX P w) 5 f fd ["_law_parts"] (sp_l_total K ca) := by
  refine okH F sc_l_total (fun vs H Q E h => ?_) (fun cdv A outer s H vs Q E pn hot hr h => ?_)
  · obtain ⟨_, _, _, _, rfl, _⟩ := h
    rfl
  · obtain ⟨l, xs, ls, n, rfl, hl, hx, zl, sz, n39, k⟩ := h
    refine ⟨_, pss_cons (ps_set (i := 1) sc_l_total.nd rfl (Or.inl rfl) (pe_owniH O_Ratio_1 (hr.mono (by decide)) rfl pasH (pa_cons pe_int pa_nil))) (pss_cons (ps_forHot (passes_of rfl) (pi_listH (pv 0)) (pg_tupH (pgs_cons (pg_name (i := 2) sc_l_total.nd rfl (Or.inl rfl)) (pgs_cons (pg_name (i := 3) sc_l_total.nd rfl (Or.inl rfl)) pgs_nil))) (pss_one (ps_set (i := 1) sc_l_total.nd rfl (Or.inl rfl) (pe_op (op_ownH .add T.ar_Ratio O_Ratio___add__ (hr.mono (by decide)) passH) (pv 1) (pv 3))))) (pss_one (ps_ret (pv 1)))), ?_⟩
    have lx := hx.length
    have lm : ls.length ≤ 4000 := by
      have := Nat.le_mul_of_pos_right ls.length (show 0 < n + 1 by omega)
      omega
    fail "rd"
    intro r dx nr nd ne
    refine q_make nr nd ne (by decide) (by decide) fun H1 s1 hr1 => ⟨rfl, ?_⟩
    have e0 : Rat.divInt 0 1 = 0 := Rat.zero_divInt 1
    rw [e0] at hr1
    fail "rd"
    refine for_list (K := K) (D := ⟨_, _, fun _ _ => True, fun _ _ => True⟩) (a := l) (xs := xs) (fun i σ' H' => ∃ (r : Addr) (v2 v3 : Option V), σ' = [some (.ref l), some (.ref r), v2, v3] ∧ Same H H' ∧ QAt ca H' r (tot (ls.take i))) ⟨r, _, _, rfl, s1, hr1⟩ (fun i σ' H' _ ⟨_, _, _, _, s, _⟩ => SqL.of (s _ _ hl)) ?_ ?_
    · rintro i v σ' H2 hi ⟨r, v2, v3, rfl, s2, hr2⟩
      have ci : i < ls.length := by rw [← lx]; exact (List.getElem?_eq_some_iff.mp hi).1
      have gl : ls[i]? = some ls[i] := List.getElem?_eq_getElem ci
      have tk : tot (ls.take (i + 1)) = tot (ls.take i) + ls[i].2 := by rw [List.take_add_one, gl, tot_app]; exact congrArg _ tot_one
      obtain ⟨ta, pa, rfl, hta, hpa⟩ := paired_get hx hi gl
      have zx : Zq 4000 ls[i].2 := (zl _ (List.getElem_mem ci)).mono (by omega)
      have zt : Zq 4000 (tot (ls.take i)) := by
        have z := tot_zq (n := n) (ls := ls.take i) fun x mx => zl x (List.mem_of_mem_take mx)
        have : (ls.take i).length * (n + 1) ≤ ls.length * (n + 1) := Nat.mul_le_mul_right _ (by rw [List.length_take]; omega)
        exact z.mono (by omega)
      rw [tk]
      generalize ls[i] = x at hta hpa zx ⊢
      have hta2 := s2 _ _ hta
      fail "rd"
      refine o_add hr2 (hpa.same s2).v zt zx fun q H3 nq s3 hq => ?_
      exact ⟨q, _, _, rfl, s2.trans s3, hq⟩
    · rintro σ' H2 ⟨r, v2, v3, rfl, s2, hr2⟩
      rw [lx, List.take_length] at hr2
      fail "rd"
      exact k r H2 s2 hr2

abbrev s_Ratio_over : Stmt := inClass (top 9) 9
theorem sc_Ratio_over : FnScope ["self", "other", "number"] ["self", "other"] (defScope s_Ratio_over) := ⟨rfl, rfl, rfl, by decide +kernel, rfl, by decide +kernel, by decide +kernel⟩
def sp_Ratio_over (_ : PySem.W.Frag) (ca : Nat → Addr) : Sp := fun vs H Q E => ∃ (p : Addr) (x : V) (t b t' b' : Int), vs = [.ref p, x] ∧ RatAt ca H p t b ∧ NumV ca H x t' b' ∧ IntMulOk t b' ∧ IntMulOk b t' ∧ (b * t').natAbs.log2 < 9000 ∧
  (t' = 0 → ∀ H' : Hp, Same H H' → E (.ref (ca 1)) none H') ∧ (t' ≠ 0 → ∀ (q : Addr) (H' : Hp), H q = none → Same H H' → RatAt ca H' q (nrm (t * b') (b * t')).1 (nrm (t * b') (b * t')).2 → Q (.ref q) H')
theorem over_of {K : PySem.W.Frag} {ca : Nat → Addr} {H : Hp} {p : Addr} {x : V} {a b a' b' : Int} {Q : VK} {E : XK} (hR : RatQ ca H p a b) (hn : NumQ ca H x a' b') (s1 : Sz 4000 a) (s2 : Sz 4000 b) (s3 : Sz 4000 a') (s4 : Sz 4000 b') (h0 : a' ≠ 0)
    (k : ∀ (q : Addr) (H' : Hp), H q = none → Same H H' → RatQ ca H' q (a * b') (b * a') → Q (.ref q) H') : sp_Ratio_over K ca [.ref p, x] H Q E := by
  have t1 := s1.le (nrm_le1 (a := a) hR.ne)
  have t2 := s2.le (nrm_le2 (a := a) hR.ne)
  have t3 := s3.le (nrm_le1 (a := a') hn.ne)
  have t4 := s4.le (nrm_le2 (a := a') hn.ne)
  refine ⟨p, x, _, _, _, _, rfl, hR.at_, hn.num, t1.mok t4, t2.mok t3, (t2.mul t3).lg, fun z => absurd ((nrm_zero hn.ne).mp z) h0, fun _ q H' nq sm hq => k q H' nq sm ⟨Int.mul_ne_zero hR.ne h0, ?_⟩⟩
  rw [nrm_over hR.ne hn.ne h0] at hq
  exact hq
theorem over_gen {K : PySem.W.Frag} {ca : Nat → Addr} {H : Hp} {p : Addr} {x : V} {a b a' b' : Int} {Q : VK} {E : XK} (hR : RatQ ca H p a b) (hn : NumQ ca H x a' b') (s1 : Sz 4000 a) (s2 : Sz 4000 b) (s3 : Sz 4000 a') (s4 : Sz 4000 b')
    (kE : a' = 0 → ∀ H' : Hp, Same H H' → E (.ref (ca 1)) none H') (k : a' ≠ 0 → ∀ (q : Addr) (H' : Hp), H q = none → Same H H' → RatQ ca H' q (a * b') (b * a') → Q (.ref q) H') : sp_Ratio_over K ca [.ref p, x] H Q E := by
  have t1 := s1.le (nrm_le1 (a := a) hR.ne)
  have t2 := s2.le (nrm_le2 (a := a) hR.ne)
  have t3 := s3.le (nrm_le1 (a := a') hn.ne)
  have t4 := s4.le (nrm_le2 (a := a') hn.ne)
  refine ⟨p, x, _, _, _, _, rfl, hR.at_, hn.num, t1.mok t4, t2.mok t3, (t2.mul t3).lg, fun z => kE ((nrm_zero hn.ne).mp z), fun z q H' nq sm hq => ?_⟩
  have h0 : a' ≠ 0 := fun e => z ((nrm_zero hn.ne).mpr e)
  refine k h0 q H' nq sm ⟨Int.mul_ne_zero hR.ne h0, ?_⟩
  rw [nrm_over hR.ne hn.ne h0] at hq
  exact hq
theorem q_over {K : PySem.W.Frag} {ca : Nat → Addr} {H : Hp} {p : Addr} {x : V} {a b : Rat} {Q : VK} {E : XK} (h : QAt ca H p a) (k : QV ca H x b) (sa : Zq 4000 a) (sb : Zq 4000 b) (b0 : b ≠ 0) (c : ∀ (q : Addr) (H' : Hp), H q = none → Same H H' → QAt ca H' q (a / b) → Q (.ref q) H') : sp_Ratio_over K ca [.ref p, x] H Q E :=
  over_of h.r k.n sa.1 sa.2 sb.1 sb.2 (num_ne b0) fun q H' n s r => c q H' n s (.of r id_over)
theorem ok_Ratio_over {f : Addr} {fd : FuncData} (F : Fun K "over" "Ratio.over" s_Ratio_over f fd) (T : Txt K mg ca) (O_as_ratio : Own P w K mg base 3 "as_ratio" ["number"] (sp_as_ratio K ca)) (O_Ratio_2 : OwnI P w K mg base 1 "Ratio" (ca 2) ["self", "top", "bottom"] [] (sp_Ratio_init K ca)) (O_Ratio_1 : OwnI P w K mg base 1 "Ratio" (ca 2) ["self", "top", "bottom"] [.int 1] (sp_Ratio_init K ca)) : FnOk P w K mg base (L2N.CX P w) 4 f fd ["self", "other"] (sp_Ratio_over K ca) := by
  refine okN F sc_Ratio_over (fun vs H Q E h => ?_) (fun cdv A outer s H vs Q E hr h => ?_)
  · obtain ⟨_, _, _, _, _, _, rfl, _⟩ := h
    rfl
  · obtain ⟨p, x, t, b, t', b', rfl, hR, hn, m1, m2, hs, k0, k1⟩ := h
    refine ⟨_, pss_cons (ps_set (i := 2) sc_Ratio_over.nd rfl (Or.inl rfl) (pe_own O_as_ratio (hr.mono (by decide)) rfl (pasE (L2N.takes_of rfl rfl rfl rfl)) (pa_cons (pv 1) pa_nil))) (pss_one (ps_ret (pe_owni O_Ratio_2 (hr.mono (by decide)) rfl (pasE (L2N.takes_of rfl rfl rfl rfl)) (pa_cons (pe_op op_mulI (pe_fld (pv 0) rfl) (pe_fld (pv 2) rfl)) (pa_cons (pe_op op_mulI (pe_fld (pv 0) rfl) (pe_fld (pv 2) rfl)) pa_nil))))), ?_⟩
    fail "rd"
    refine ⟨x, t', b', rfl, hn, fun q H1 s1 hq => ?_⟩
    have hb := hR.1.pos
    obtain ⟨_, dx, hp⟩ := hR.same s1
    obtain ⟨_, dy, hq⟩ := hq
    fail "rd"
    intro r d_r n_r nd_r ne_r
    refine ⟨r, d_r, _, _, rfl, upd_same, hs, fun z => ?_, fun z H2 k_r e_r => ⟨rfl, ?_⟩⟩
    · have z' : b * t' = 0 := z
      have z2 : t' = 0 := by
        rcases Int.mul_eq_zero.mp z' with u | u
        · omega
        · exact u
      refine k0 z2 _ (s1.trans fun a o e => ?_)
      rw [upd_ne (ne_of_none e n_r), upd_ne (ne_of_none e nd_r)]
      exact e
    · have s2 := same_made n_r nd_r ne_r k_r
      have z2 : t' ≠ 0 := fun u => z (by rw [u]; exact Int.mul_zero _)
      exact k1 z2 r H2 (s1.free n_r) (s1.trans s2) (RatAt.of z e_r)

abbrev s_Ratio_floor : Stmt := inClass (top 9) 13
theorem sc_Ratio_floor : FnScope ["self"] ["self"] (defScope s_Ratio_floor) := ⟨rfl, rfl, rfl, by decide +kernel, rfl, by decide +kernel, by decide +kernel⟩
def sp_Ratio_floor (_ : PySem.W.Frag) (ca : Nat → Addr) : Sp := fun vs H Q _ => ∃ (p : Addr) (t b : Int), vs = [.ref p] ∧ RatAt ca H p t b ∧ b.natAbs.log2 < 9000 ∧ Q (.int (t / b)) H
theorem q_floor {K : PySem.W.Frag} {ca : Nat → Addr} {H : Hp} {p : Addr} {a : Rat} {Q : VK} {E : XK} (h : QAt ca H p a) (sa : Zq 4000 a) (c : Q (.int a.floor) H) : sp_Ratio_floor K ca [.ref p] H Q E :=
  ⟨p, _, _, rfl, h, sa.2.lg, by rw [← Rat.floor_def]; exact c⟩
theorem ok_Ratio_floor {f : Addr} {fd : FuncData} (F : Fun K "floor" "Ratio.floor" s_Ratio_floor f fd) (T : Txt K mg ca)  : FnOk P w K mg base (L2N.CX P w) 1 f fd ["self"] (sp_Ratio_floor K ca) := by
  refine okN F sc_Ratio_floor (fun vs H Q E h => ?_) (fun cdv A outer s H vs Q E hr h => ?_)
  · obtain ⟨_, _, _, rfl, _⟩ := h
    rfl
  · obtain ⟨p, t, b, rfl, hR, hs, k⟩ := h
    obtain ⟨hr, dx, hp⟩ := hR
    have hb := hr.pos
    refine ⟨_, pss_one (ps_ret (pe_op op_fdivW (pe_fld (pv 0) rfl) (pe_fld (pv 0) rfl))), ?_⟩
    fail "rd"
    exact k

abbrev s_l_wanted : Stmt := top 36
theorem sc_l_wanted : FnScope ["_law_bag_here", "_law_layers_here", "_law_choice", "_law_whole"] ["_law_bag_here", "_law_layers_here"] (defScope s_l_wanted) := ⟨rfl, rfl, rfl, by decide +kernel, rfl, by decide +kernel, by decide +kernel⟩
def sp_l_wanted (_ : PySem.W.Frag) (ca : Nat → Addr) : Sp := fun vs H Q _ => ∃ (b l : Addr) (xs : List V) (ls : Ls), vs = [.ref b, .ref l] ∧ ∃ L : Addr, Bag H L b ∧ l ≠ b ∧ H l = some (.lst xs) ∧ Lay ca H xs ls ∧ (∀ x ∈ ls, 0 < x.2) ∧ ZL 20 ls ∧ ls.length ≤ 7 ∧
  ∀ (x : V) (w : Rat) (H' : Hp), Keep b H H' → Bag H' L b → QV ca H' x w → 0 < w → Zq 160 w → Q x H'
theorem ok_l_wanted {f : Addr} {fd : FuncData} (F : Fun K "_law_wanted" "_law_wanted" s_l_wanted f fd) (T : Txt K mg ca) (O__law_draw : Own P w K mg base 1 "_law_draw" ["_law_bag_here", "_law_size"] (sp_l_draw K ca)) (O__law_total : Own P w K mg base 5 "_law_total" ["_law_parts"] (sp_l_total K ca)) (O_Ratio_2 : OwnI P w K mg base 1 "Ratio" (ca 2) ["self", "top", "bottom"] [] (sp_Ratio_init K ca)) (O_Ratio_1 : OwnI P w K mg base 1 "Ratio" (ca 2) ["self", "top", "bottom"] [.int 1] (sp_Ratio_init K ca)) (O_Ratio_over : OwnM P w K mg base 4 (ca 2) "over" ["self", "other"] (sp_Ratio_over K ca)) (O_Ratio_floor : OwnM P w K mg base 1 (ca 2) "floor" ["self"] (sp_Ratio_floor K ca)) (O_Ratio___add__ : OwnM P w K mg base 4 (ca 2) "__add__" ["self", "other"] (sp_Ratio_add K ca)) : FnOk P w K mg base (L2N.CX P w) 6 f fd ["_law_bag_here", "_law_layers_here"] (sp_l_wanted K ca) := by
  refine okN F sc_l_wanted (fun vs H Q E h => ?_) (fun cdv A outer s H vs Q E hr h => ?_)
  · obtain ⟨_, _, _, _, rfl, _⟩ := h
    rfl
  · obtain ⟨b, l, xs, ls, rfl, L, hB, nlb, hl, hx, pos, zl, ll, k⟩ := h
    refine ⟨_, pss_cons (ps_set (i := 2) sc_l_wanted.nd rfl (Or.inl rfl) (pe_own O__law_draw (hr.mono (by decide)) rfl pas0 (pa_cons (pv 0) (pa_cons pe_int pa_nil)))) (pss_cons (ps_set (i := 3) sc_l_wanted.nd rfl (Or.inl rfl) (pe_own O__law_total (hr.mono (by decide)) rfl pas0 (pa_cons (pv 1) pa_nil))) (Evl.pss_cut (ps_if (PW.pt (pw_and (pt_cmpR op_eq (pv 2) pe_int (nomark _)) (pw_and1 (pt_cmpR (op_neNilL (Room.units0 (hr.mono (Nat.zero_le _)))) (pv 1) (pe_lst pa_nil) (nomark _))))) (pss_one (ps_ret (pv 3))) pss_nil) (Evl.pss_cut (ps_if (PW.pt (pw_and (pt_cmpR op_eq (pv 2) pe_int (nomark _)) (pw_and1 (pt_cmpR (op_neNilL (Room.units0 (hr.mono (Nat.zero_le _)))) (pv 1) (pe_lst pa_nil) (nomark _))))) (pss_one (ps_ret (pe_ownm O_Ratio_over (pv 3) (hr.mono (by decide)) pas0 (pa_cons pe_int pa_nil)))) pss_nil) (Evl.pss_cut (ps_if (PW.pt (pw_and (pt_cmpR op_eq (pv 2) pe_int (nomark _)) (pw_and1 (pt_cmpR (op_neNilL (Room.units0 (hr.mono (Nat.zero_le _)))) (pv 1) (pe_lst pa_nil) (nomark _))))) (pss_one (ps_ret (pe_own O__law_total (hr.mono (by decide)) rfl pas0 (pa_cons (pe_slice sl_list (pv 1) po_none (po_some (pe_op op_add pe_int (pe_own O__law_draw (hr.mono (by decide)) rfl pas0 (pa_cons (pv 0) (pa_cons (pe_callB call_len_seq (by rfl) T.b_len (by decide +kernel) (pa_cons (pv 1) pa_nil)) pa_nil)))))) pa_nil)))) pss_nil) (pss_cons (ps_if (pt_cmpR op_eq (pv 2) pe_int (nomark _)) (pss_one (ps_ret (pe_op op_add (pe_op op_add (pe_ownm0 O_Ratio_floor (pv 3) (hr.mono (by decide)) pas0) pe_int) (pe_own O__law_draw (hr.mono (by decide)) rfl pas0 (pa_cons (pv 0) (pa_cons pe_int pa_nil)))))) pss_nil) (pss_cons (ps_if (pt_cmpR op_eq (pv 2) pe_int (nomark _)) (pss_one (ps_ret (pe_op (op_own .add T.ar_Ratio O_Ratio___add__ (hr.mono (by decide)) passN) (pv 3) (pe_owni O_Ratio_2 (hr.mono (by decide)) rfl pas0 (pa_cons pe_int (pa_cons (pe_op op_add pe_int (pe_own O__law_draw (hr.mono (by decide)) rfl pas0 (pa_cons (pv 0) (pa_cons pe_int pa_nil)))) pa_nil)))))) pss_nil) (pss_one (ps_ret (pe_op op_add pe_int (pe_own O__law_draw (hr.mono (by decide)) rfl pas0 (pa_cons (pv 0) (pa_cons (pe_op op_add (pe_ownm0 O_Ratio_floor (pv 3) (hr.mono (by decide)) pas0) pe_int) pa_nil)))))))))))), ?_⟩
    have ztot : Zq 148 (tot ls) := (tot_zq zl).mono (by omega)
    have t0 : 0 ≤ tot ls := tot_nonneg fun x m => by have := pos x m; grind
    have ne0 : ls ≠ [] → 0 < tot ls := fun h => by
      cases ls with
      | nil => exact absurd rfl h
      | cons x r =>
        have h1 := pos x List.mem_cons_self
        have h2 : 0 ≤ tot r := tot_nonneg fun y m => by have := pos y (List.mem_cons_of_mem _ m); grind
        simp only [tot]
        grind
    have lx := hx.length
    fail "rd"
    refine ⟨L, hB, by decide, by decide, fun d H1 d0 d1 k1 B1 => ?_⟩
    obtain ⟨xb, hxb⟩ := hB.lst
    have hl1 := k1 _ _ hl nlb
    have hx1 := hx.putL hxb k1
    fail "rd"
    refine ⟨l, xs, ls, 20, rfl, hl1, hx1, zl, by omega, by omega, fun wq H2 s2 hwq => ?_⟩
    have B2 := B1.same s2
    have hl2 := s2 _ _ hl1
    have k12 := k1.trans (Keep.of s2)
    have hx2 := hx1.same s2
    obtain ⟨_, hwi⟩ := id hwq.ins
    have fl0 : 0 ≤ (tot ls).floor := by
      rw [Rat.floor_def]
      exact Int.ediv_nonneg (Rat.num_nonneg.mpr t0) (by omega)
    have flz : Sz 148 (tot ls).floor := by
      have h1 := ztot.1
      rw [Rat.floor_def]
      refine h1.le ?_
      have h2 := Rat.num_nonneg.mpr t0
      have h3 : (tot ls).num / ((tot ls).den : Int) ≤ (tot ls).num := Int.ediv_le_self _ h2
      have h4 : 0 ≤ (tot ls).num / ((tot ls).den : Int) := Int.ediv_nonneg h2 (by omega)
      omega
    have cut0 : ∀ {H' : Hp}, Same H2 H' → xs.isEmpty = true → ls = [] := fun _ e => by
      cases ls with
      | nil => rfl
      | cons x r => rw [List.isEmpty_iff.mp e] at lx; simp at lx
    have non : xs.isEmpty = false → ls ≠ [] := fun e h => by
      rw [h] at lx
      have : xs = [] := List.eq_nil_of_length_eq_zero lx
      rw [this] at e
      cases e
    have dz : d.natAbs < 2 ^ 164 := Nat.lt_of_le_of_lt (show d.natAbs ≤ 10 by omega) (by decide)
    fail "rd"
    refine ⟨fun σ' H' => σ' = [some (.ref b), some (.ref l), some (.int d), some (.ref wq)] ∧ Same H2 H', ?_, ?_⟩
    · fail "rd"
      refine iteI (fun z => ?_) (fun z => ?_)
      · fail "rd"
        intro e n_e
        generalize g_H3 : upd _ e _ = H3
        obtain ⟨s_H3, e_e⟩ := gen_new n_e g_H3
        clear g_H3
        have hl3 := s_H3 _ _ hl2
        refine ⟨l, e, xs, rfl, rfl, hl3, e_e, ?_⟩
        cases he : xs.isEmpty
        · fail "rd"
          exact k _ _ H3 (k12.trans (Keep.of s_H3)) (B2.same s_H3) (hwq.same s_H3).v (ne0 (non he)) (ztot.mono (by decide))
        · fail "rd"
          exact s_H3
      · fail "rd"
        exact Same.refl _
    rintro σ' H3 ⟨rfl, s3⟩
    have hl3 := s3 _ _ hl2
    fail "rd"
    refine ⟨fun σ' H' => σ' = [some (.ref b), some (.ref l), some (.int d), some (.ref wq)] ∧ Same H2 H', ?_, ?_⟩
    · fail "rd"
      refine iteI (fun z => ?_) (fun z => ?_)
      · fail "rd"
        intro e n_e
        generalize g_H4 : upd _ e _ = H4
        obtain ⟨s_H4, e_e⟩ := gen_new n_e g_H4
        clear g_H4
        have hl4 := s_H4 _ _ hl3
        have s24 := s3.trans s_H4
        have hw4 := hwq.same s24
        obtain ⟨_, hwi4⟩ := id hw4.ins
        refine ⟨l, e, xs, rfl, rfl, hl4, e_e, ?_⟩
        cases he : xs.isEmpty
        · fail "rd"
          dsimp only [tCons, tC, tNil]
          have z2 : Zq 2 ((2 : Int) : Rat) := Zq.int (show (2 : Int).natAbs < 2 ^ 2 by decide)
          have n2 : ((2 : Int) : Rat) ≠ 0 := by decide
          refine q_over hw4 (QV.int (i := 2)) (ztot.mono (by decide)) (z2.mono (by decide)) n2 fun q H5 nq s5 hq => ?_
          have p2 : 0 < tot ls / ((2 : Int) : Rat) := by
            have := ne0 (non he)
            have e2 : ((2 : Int) : Rat) = 2 := rfl
            rw [e2]
            grind
          exact k _ _ H5 ((k12.trans (Keep.of s24)).trans (Keep.of s5)) ((B2.same s24).same s5) hq.v p2 ((ztot.div z2 n2).mono (by decide))
        · fail "rd"
          exact s24
      · fail "rd"
        exact s3
    rintro σ' H4 ⟨rfl, s4⟩
    have hl4 := s4 _ _ hl2
    fail "rd"
    refine ⟨fun σ' H' => σ' = [some (.ref b), some (.ref l), some (.int d), some (.ref wq)] ∧ Same H2 H', ?_, ?_⟩
    · fail "rd"
      refine iteI (fun z => ?_) (fun z => ?_)
      · fail "rd"
        intro e n_e
        generalize g_H5 : upd _ e _ = H5
        obtain ⟨s_H5, e_e⟩ := gen_new n_e g_H5
        clear g_H5
        have hl5 := s_H5 _ _ hl4
        have s25 := s4.trans s_H5
        refine ⟨l, e, xs, rfl, rfl, hl5, e_e, ?_⟩
        cases he : xs.isEmpty
        · have ln : 0 < ls.length := List.length_pos_iff.mpr (non he)
          fail "rd"
          refine ⟨L, B2.same s25, by omega, lg164 (Nat.lt_of_le_of_lt (show ((xs.length : Nat) : Int).natAbs ≤ 1000 by omega) (by decide)), fun g H6 g0 g1 k6 B6 => ?_⟩
          obtain ⟨G, rfl⟩ := Int.eq_ofNat_of_zero_le g0
          obtain ⟨xb5, hxb5⟩ := (B2.same s25).lst
          have hl6 := k6 _ _ hl5 nlb
          have hx6 := (hx2.same s25).putL hxb5 k6
          have z1 : (1 : Int) + (G : Int) = ((1 + G : Nat) : Int) := by omega
          fail "rd"
          refine ⟨l, xs, rfl, SqL.of hl6, ?_⟩
          intro sl n_sl
          generalize g_H7 : upd _ sl _ = H7
          obtain ⟨s_H7, e_sl⟩ := gen_new n_sl g_H7
          clear g_H7
          rw [z1, cut_to] at e_sl
          have hx7 := (hx6.same s_H7).take (1 + G)
          have lt7 : (ls.take (1 + G)).length ≤ 7 := by rw [List.length_take]; omega
          have zlt : ZL 20 (ls.take (1 + G)) := fun x m => zl x (List.mem_of_mem_take m)
          fail "rd"
          refine ⟨sl, _, ls.take (1 + G), 20, rfl, e_sl, hx7, zlt, by omega, by omega, fun q H8 s8 hq => ?_⟩
          have p3 : 0 < tot (ls.take (1 + G)) := by
            cases ls with
            | nil => simp at ln
            | cons y r =>
              have h1 := pos y List.mem_cons_self
              have h2 : 0 ≤ tot (r.take G) := tot_nonneg fun x m => by have := pos x (List.mem_cons_of_mem _ (List.mem_of_mem_take m)); grind
              rw [Nat.add_comm, List.take_succ_cons]
              simp only [tot]
              grind
          exact k _ _ H8 ((((k12.trans (Keep.of s25)).trans k6).trans (Keep.of s_H7)).trans (Keep.of s8)) ((B6.same s_H7).same s8) hq.v p3 ((tot_zq zlt).mono (by omega))
        · fail "rd"
          exact s25
      · fail "rd"
        exact s4
    rintro σ' H5 ⟨rfl, s5⟩
    have hl5 := s5 _ _ hl2
    have hw5 := hwq.same s5
    have B5 := B2.same s5
    have k15 := k12.trans (Keep.of s5)
    obtain ⟨_, hwi5⟩ := id hw5.ins
    fail "rd"
    refine iteI (fun z => ?_) (fun z => ?_)
    · fail "rd"
      refine q_floor hw5 (ztot.mono (by decide)) ?_
      fail "rd"
      refine ⟨L, B5, by decide, by decide, fun d5 H6 d50 d51 k6 B6 => ?_⟩
      fail "rd"
      refine k _ _ H6 (k15.trans k6) B6 (QV.int (i := (tot ls).floor + 1 + d5)) ?_ ?_
      · have : (0 : Int) < (tot ls).floor + 1 + d5 := by omega
        have h2 := (Rat.intCast_lt_intCast (a := 0) (b := (tot ls).floor + 1 + d5)).mpr this
        exact h2
      · refine Zq.int (Sz.mono (n := 155) ?_)
        have h1 := flz.add (show Sz 4 (1 + d5) by show _ < 2 ^ 4; omega)
        rw [← Int.add_assoc] at h1
        exact h1.mono (by decide)
    · fail "rd"
      refine iteI (fun z => ?_) (fun z => ?_)
      · fail "rd"
        refine ⟨L, B5, by decide, by decide, fun d5 H6 d50 d51 k6 B6 => ?_⟩
        obtain ⟨xb5, hxb5⟩ := B5.lst
        have hw6 := hw5.keep hxb5 (fun _ _ _ z => nomatch z) k6
        obtain ⟨g1, g2⟩ := rat_made (a := 1) (b := 1 + d5) (by omega) (by omega) (by omega) (by omega)
        have g3 : Zq 4 (Rat.divInt 1 (1 + d5)) := zq_of (by omega) rfl (show (1 : Int).natAbs < 2 ^ 4 by decide) (show (1 + d5).natAbs < 2 ^ 4 by omega)
        fail "rd"
        intro p dx np nd ne
        refine q_make np nd ne (by omega) (sz20 (by omega) (by omega)).lg fun H7 s7 h7 => ⟨rfl, ?_⟩
        fail "rd"
        refine o_add (hw6.same s7) h7.v (ztot.mono (by decide)) (g2.mono (by decide)) fun q H8 nq s8 hq => ?_
        exact k _ _ H8 (((k15.trans k6).trans (Keep.of s7)).trans (Keep.of s8)) ((B6.same s7).same s8) hq.v (by grind) ((ztot.add g3).mono (by decide))
      · fail "rd"
        refine q_floor hw5 (ztot.mono (by decide)) ?_
        fail "rd"
        refine ⟨L, B5, by omega, ((flz.add (show (1 : Int).natAbs < 2 ^ 4 by decide)).mono (m := 164)).lg, fun d5 H6 d50 d51 k6 B6 => ?_⟩
        fail "rd"
        refine k _ _ H6 (k15.trans k6) B6 (QV.int (i := 1 + d5)) ?_ ?_
        · exact (Rat.intCast_lt_intCast (a := 0) (b := 1 + d5)).mpr (by omega)
        · refine Zq.int (Sz.mono (n := 155) ?_)
          refine (flz.add (show (1 : Int).natAbs < 2 ^ 4 by decide)).mono (m := 155) |> fun h => h.le ?_
          omega

abbrev s_is_whole : Stmt := top 12
theorem sc_is_whole : FnScope ["number", "least"] ["number", "least"] (defScope s_is_whole) := ⟨rfl, rfl, rfl, by decide +kernel, rfl, by decide +kernel, by decide +kernel⟩
def sp_is_whole (_ : PySem.W.Frag) (_ : Nat → Addr) : Sp := fun vs H Q _ => ∃ (v : V) (l : Int), vs = [v, .int l] ∧ flatV v = true ∧ Q (.bl (wholeB v l)) H
theorem ok_is_whole {f : Addr} {fd : FuncData} (F : Fun K "is_whole" "is_whole" s_is_whole f fd) (T : Txt K mg ca)  : FnOk P w K mg base (L2N.CX P w) 1 f fd ["number", "least"] (sp_is_whole K ca) := by
  refine okN F sc_is_whole (fun vs H Q E h => ?_) (fun cdv A outer s H vs Q E hr h => ?_)
  · obtain ⟨_, _, rfl, _⟩ := h
    rfl
  · obtain ⟨v, l, rfl, hv, k⟩ := h
    refine ⟨_, pss_cons (ps_if (PW.pt (pw_or (pt_val (pe_callB call_isi (by rfl) T.b_isinstance (by decide +kernel) (pa_cons (pv 0) (pa_cons (pe_bltn (v := .ty "bool") (by rfl) T.b_bool (by decide +kernel) rfl) pa_nil)))) (pw_or1 (pt_not (pt_val (pe_callB call_isi (by rfl) T.b_isinstance (by decide +kernel) (pa_cons (pv 0) (pa_cons (pe_bltn (v := .ty "int") (by rfl) T.b_int (by decide +kernel) rfl) pa_nil)))))))) (pss_one (ps_ret pe_bl)) pss_nil) (pss_one (ps_ret (pe_chain op_le op_le (pv 1) (pv 0) (pe_const T.c__MOST rfl)))), ?_⟩
    fail "rd"
    cases v with
    | non =>
      refine ⟨_, _, _, _, false, rfl, .ty "bool", .base .non, kit_ty (by decide +kernel), ?_⟩
      fail "rd"
      refine ⟨_, _, _, _, false, rfl, .ty "int", .base .non, kit_ty (by decide +kernel), ?_⟩
      fail "rd"
      exact k
    | bl b =>
      refine ⟨_, _, _, _, true, rfl, .ty "bool", .base (.bl _), kit_ty (by decide +kernel), ?_⟩
      fail "rd"
      exact k
    | int i =>
      refine ⟨_, _, _, _, false, rfl, .ty "bool", .base (.int _), kit_ty (by decide +kernel), ?_⟩
      fail "rd"
      refine ⟨_, _, _, _, true, rfl, .ty "int", .base (.int _), kit_ty (by decide +kernel), ?_⟩
      fail "rd"
      replace k : Q (.bl (decide (l ≤ i) && decide (i ≤ 1000000))) H := k
      refine iteD (fun y => ?_) (fun y => ?_)
      · rw [decide_eq_true y] at k
        fail "rd"
        exact k
      · rw [decide_eq_false y] at k
        exact k
    | str z =>
      refine ⟨_, _, _, _, false, rfl, .ty "bool", .base (.str _), kit_ty (by decide +kernel), ?_⟩
      fail "rd"
      refine ⟨_, _, _, _, false, rfl, .ty "int", .base (.str _), kit_ty (by decide +kernel), ?_⟩
      fail "rd"
      exact k
    | ref a => cases hv
    | byt a => cases hv
    | flt a => cases hv
    | ty a => cases hv

abbrev s_BadRule_init : Stmt := inClass (top 5) 0
theorem sc_BadRule_init : FnScope ["self", "word"] ["self", "word"] (defScope s_BadRule_init) := ⟨rfl, rfl, rfl, by decide +kernel, rfl, by decide +kernel, by decide +kernel⟩
theorem ok_BadRule_init {f : Addr} {fd : FuncData} (F : Fun K "__init__" "BadRule.__init__" s_BadRule_init f fd) (T : Txt K mg ca)  : FnOk P w K mg base (L2N.CX P w) 1 f fd ["self", "word"] (spErr (ca 9) ["word"]) := by
  refine okN F sc_BadRule_init (fun vs H Q E h => ?_) (fun cdv A outer s H vs Q E hr h => ?_)
  · obtain ⟨a, us, rfl, hl, _⟩ := h
    exact congrArg Nat.succ hl
  · obtain ⟨a, us, rfl, hl, ha, k⟩ := h
    obtain ⟨x0, rfl⟩ := list_1 hl
    refine ⟨_, pss_one (ps_ost (pv 0) (pv 1)), ?_⟩
    refine ⟨_, rfl, _, rfl, ?_⟩
    refine err_1 T.ox_BadRule T.nf_BadRule_word ha fun dx H1 nd ne a1 d1 m1 => ?_
    exact k dx _ nd ne a1 d1 fun b o e n => m1 _ _ e n
abbrev s_Rule_init : Stmt := inClass (top 20) 0
theorem sc_Rule_init : FnScope ["self", "take", "place", "period"] ["self", "take", "place", "period"] (defScope s_Rule_init) := ⟨rfl, rfl, rfl, by decide +kernel, rfl, by decide +kernel, by decide +kernel⟩
def ruleW (a b c : V) : Option Str := if inV a [.str "oldest", .str "newest", .str "even"] = true then (if inV b [.str "top", .str "bottom", .str "own"] = true then (if wholeB c 0 = true then none else some "period") else some "place") else some "take"
def sp_Rule_init (_ : PySem.W.Frag) (ca : Nat → Addr) : Sp := fun vs H Q E => ∃ (p dx : Addr) (a b c : V), vs = [.ref p, a, b, c] ∧ H p = some (.ins (ca 24) dx []) ∧ flatV a = true ∧ flatV b = true ∧ flatV c = true ∧
  (∀ z, ruleW a b c = some z → ∀ (d : Addr) (H' : Hp), Same H H' → H' d = some (.xd [("word", .str z)]) → E (.ref (ca 9)) (some d) H') ∧
  (ruleW a b c = none → ∀ H' : Hp, Keep p H H' → H' p = some (.ins (ca 24) dx [("take", a), ("place", b), ("period", c)]) → Q .non H')
theorem rule_in {K : PySem.W.Frag} {ca : Nat → Addr} {H : Hp} {a b c : V} {R : VK} {E : XK} {p dx : Addr} (n : H p = none) (nd : H dx = none) (ne : dx ≠ p) (ha : flatV a = true) (hb : flatV b = true) (hc : flatV c = true)
    (kE : ∀ z, ruleW a b c = some z → ∀ (d : Addr) (H' : Hp), Same H H' → H' d = some (.xd [("word", .str z)]) → E (.ref (ca 9)) (some d) H')
    (k : ruleW a b c = none → ∀ H' : Hp, Same H H' → H' p = some (.ins (ca 24) dx [("take", a), ("place", b), ("period", c)]) → R .non H') :
    sp_Rule_init K ca [.ref p, a, b, c] (upd (upd H dx (.own p)) p (.ins (ca 24) dx [])) R E := by
  have n2 : upd H dx (.own p) p = none := by rw [upd_ne ne.symm]; exact n
  have s : Same H (upd (upd H dx (.own p)) p (.ins (ca 24) dx [])) := (same_upd nd).trans (same_upd n2)
  exact ⟨p, dx, a, b, c, rfl, upd_same, ha, hb, hc, fun z hz d H' s' e => kE z hz d H' (s.trans s') e, fun hz H' kp e => k hz H' (same_made n nd ne kp) e⟩
theorem ok_Rule_init {f : Addr} {fd : FuncData} (F : FunD K "__init__" "Rule.__init__" (defArgs s_Rule_init) (defBody s_Rule_init) (defScope s_Rule_init) [] [("place", .str "own"), ("period", .int 0)] f fd) (T : Txt K mg ca) (O_is_whole : Own P w K mg base 1 "is_whole" ["number", "least"] (sp_is_whole K ca)) (O_BadRule_init : OwnE P w K mg base "BadRule" (ca 9) ["word"]) : FnOk P w K mg base (L2N.CX P w) 3 f fd ["self", "take", "place", "period"] (sp_Rule_init K ca) := by
  refine F.ok sc_Rule_init (fun vs H Q E h => ?_) (fun cdv A outer s H vs Q E hr h => ?_)
  · obtain ⟨_, _, _, _, _, rfl, _⟩ := h
    rfl
  · obtain ⟨p, dx, a, b, c, rfl, hp, ha, hb, hc, kE, k⟩ := h
    refine ⟨_, pss_cons (ps_if (pt_cmpR op_notIn_seq (pv 1) (pe_tup (pa_cons pe_str (pa_cons pe_str (pa_cons pe_str pa_nil)))) (by with_unfolding_all rfl)) (pss_one (ps_raiseE rfl O_BadRule_init (hr.mono (by decide)) (L2N.takes_of rfl rfl rfl rfl) rfl (pa_cons pe_str pa_nil))) pss_nil) (pss_cons (ps_if (pt_cmpR op_notIn_seq (pv 2) (pe_tup (pa_cons pe_str (pa_cons pe_str (pa_cons pe_str pa_nil)))) (by with_unfolding_all rfl)) (pss_one (ps_raiseE rfl O_BadRule_init (hr.mono (by decide)) (L2N.takes_of rfl rfl rfl rfl) rfl (pa_cons pe_str pa_nil))) pss_nil) (pss_cons (ps_if (pt_not (pt_val (pe_own O_is_whole (hr.mono (by decide)) rfl (pasE (L2N.takes_of rfl rfl rfl rfl)) (pa_cons (pv 3) (pa_cons pe_int pa_nil))))) (pss_one (ps_raiseE rfl O_BadRule_init (hr.mono (by decide)) (L2N.takes_of rfl rfl rfl rfl) rfl (pa_cons pe_str pa_nil))) pss_nil) (pss_cons (ps_fld (pv 0) (pv 1) rfl) (pss_cons (ps_fld (pv 0) (pv 2) rfl) (pss_one (ps_fld (pv 0) (pv 3) rfl)))))), ?_⟩
    fail "rd"
    unfold ruleW at kE k
    intro t1 n_t1
    generalize g_H1 : upd _ t1 _ = H1
    obtain ⟨s_H1, e_t1⟩ := gen_new n_t1 g_H1
    clear g_H1
    refine ⟨t1, _, rfl, .inr (SqT.of e_t1), ha, rfl, ?_⟩
    refine ⟨_, rfl, ?_⟩
    have hp1 := s_H1 _ _ hp
    have er : ∀ {z : Str} {G : Hp}, Same H G → (∀ (d : Addr) (H' : Hp), Same H H' → H' d = some (.xd [("word", .str z)]) → E (.ref (ca 9)) (some d) H') → (∀ (d : Addr) (H2 : Hp), G d = none → Same G H2 → H2 d = some (.xd ((["word"] : List Str).zip [V.str z]).reverse) → E (.ref (ca 9)) (some d) H2) :=
      fun s kE d H2 _ s2 e => kE d H2 (s.trans s2) e
    cases h1 : inV a [.str "oldest", .str "newest", .str "even"]
    · rw [h1, if_neg Bool.false_ne_true] at kE
      refine iteBT rfl ?_
      exact err_in rfl (by decide) (er s_H1 (kE _ rfl))
    · rw [h1, if_pos rfl] at kE k
      refine iteBF rfl ?_
      fail "rd"
      intro t2 n_t2
      generalize g_H2 : upd _ t2 _ = H2
      obtain ⟨s_H2, e_t2⟩ := gen_new n_t2 g_H2
      clear g_H2
      refine ⟨t2, _, rfl, .inr (SqT.of e_t2), hb, rfl, ?_⟩
      refine ⟨_, rfl, ?_⟩
      have hp2 := s_H2 _ _ hp1
      cases h2 : inV b [.str "top", .str "bottom", .str "own"]
      · rw [h2, if_neg Bool.false_ne_true] at kE
        refine iteBT rfl ?_
        exact err_in rfl (by decide) (er (s_H1.trans s_H2) (kE _ rfl))
      · rw [h2, if_pos rfl] at kE k
        refine iteBF rfl ?_
        fail "rd"
        refine ⟨hc, ?_⟩
        fail "rd"
        cases h3 : wholeB c 0
        · rw [h3, if_neg Bool.false_ne_true] at kE
          refine iteBT rfl ?_
          exact err_in rfl (by decide) (er (s_H1.trans s_H2) (kE _ rfl))
        · rw [h3, if_pos rfl] at k
          refine iteBF rfl ?_
          fail "rd"
          refine k rfl _ ((Keep.of (s_H1.trans s_H2)).trans ((keep_upd.trans keep_upd).trans keep_upd)) ?_
          rw [upd_same, putF_nil, putF_ne (by decide +kernel), putF_nil, putF_ne (by decide +kernel), putF_ne (by decide +kernel), putF_nil]

abbrev s_l_made : Stmt := top 27
theorem sc_l_made : FnScope ["_law_rule_here"] ["_law_rule_here"] (defScope s_l_made) := ⟨rfl, rfl, rfl, by decide +kernel, rfl, by decide +kernel, by decide +kernel⟩
def sp_l_made (_ : PySem.W.Frag) (ca : Nat → Addr) : Sp := fun vs H Q _ => ∃ (t : Addr) (z1 z2 : Str) (c : Int), vs = [.ref t] ∧ H t = some (.tup [.str z1, .str z2, .int c]) ∧ z1 ∈ (["oldest", "newest", "even"] : List Str) ∧ z2 ∈ (["own", "top", "bottom"] : List Str) ∧ 0 ≤ c ∧ c ≤ 1000000 ∧
  ∀ (p : Addr) (H' : Hp), H p = none → Same H H' → RuleAt ca H' p z1 z2 c → Q (.ref p) H'
theorem ok_l_made {f : Addr} {fd : FuncData} (F : Fun K "_law_made" "_law_made" s_l_made f fd) (T : Txt K mg ca) (O_Rule_1_place_period : OwnK P w K mg base 3 "Rule" (ca 24) ["self", "take", "place", "period"] 1 ["place", "period"] (fun vs zs => vs ++ ([] ++ zs)) (sp_Rule_init K ca)) : FnOk P w K mg base (L2N.CX P w) 5 f fd ["_law_rule_here"] (sp_l_made K ca) := by
  refine okN F sc_l_made (fun vs H Q E h => ?_) (fun cdv A outer s H vs Q E hr h => ?_)
  · obtain ⟨_, _, _, _, rfl, _⟩ := h
    rfl
  · obtain ⟨t, z1, z2, c, rfl, ht, m1, m2, c0, c1, k⟩ := h
    refine ⟨_, pss_one (ps_ret (pe_ownk O_Rule_1_place_period (hr.mono (by decide)) rfl pas0 (pa_cons (pe_ix ix_tup (pv 0) pe_int (fun _ _ => rfl)) pa_nil) (pk_cons (pe_ix ix_tup (pv 0) pe_int (fun _ _ => rfl)) (pk_cons (pe_ix ix_tup (pv 0) pe_int (fun _ _ => rfl)) pk_nil)))), ?_⟩
    fail "rd"
    intro p dx np nd ne
    have hw : ruleW (.str z1) (.str z2) (.int c) = none := by
      have h1 : inV (.str z1) [.str "oldest", .str "newest", .str "even"] = true := by
        rcases List.mem_cons.mp m1 with rfl | m1
        · decide +kernel
        · rcases List.mem_cons.mp m1 with rfl | m1
          · decide +kernel
          · rw [List.mem_singleton.mp m1]; decide +kernel
      have h2 : inV (.str z2) [.str "top", .str "bottom", .str "own"] = true := by
        rcases List.mem_cons.mp m2 with rfl | m2
        · decide +kernel
        · rcases List.mem_cons.mp m2 with rfl | m2
          · decide +kernel
          · rw [List.mem_singleton.mp m2]; decide +kernel
      have h3 : wholeB (.int c) 0 = true := whole_ok c0 c1
      unfold ruleW
      rw [if_pos h1, if_pos h2, if_pos h3]
    exact rule_in np nd ne rfl rfl rfl (fun z e => by rw [hw] at e; cases e) fun _ H' s e => ⟨rfl, k p H' np s ⟨dx, e⟩⟩

abbrev s_Ratio_at_most : Stmt := inClass (top 9) 11
theorem sc_Ratio_at_most : FnScope ["self", "other", "number"] ["self", "other"] (defScope s_Ratio_at_most) := ⟨rfl, rfl, rfl, by decide +kernel, rfl, by decide +kernel, by decide +kernel⟩
def sp_Ratio_at_most (_ : PySem.W.Frag) (ca : Nat → Addr) : Sp := fun vs H Q _ => ∃ (p : Addr) (x : V) (t b t' b' : Int), vs = [.ref p, x] ∧ RatAt ca H p t b ∧ NumV ca H x t' b' ∧ IntMulOk t b' ∧ IntMulOk t' b ∧ ∀ H' : Hp, Same H H' → Q (.bl (decide (t * b' ≤ t' * b))) H'
theorem q_at_most {K : PySem.W.Frag} {ca : Nat → Addr} {H : Hp} {p : Addr} {x : V} {a b : Rat} {Q : VK} {E : XK} (h : QAt ca H p a) (k : QV ca H x b) (sa : Zq 4000 a) (sb : Zq 4000 b) (c : ∀ H' : Hp, Same H H' → Q (.bl (decide (a ≤ b))) H') : sp_Ratio_at_most K ca [.ref p, x] H Q E :=
  ⟨p, x, _, _, _, _, rfl, h, k, sa.1.mok sb.2, sb.1.mok sa.2, fun H' s => by rw [decide_eq_decide.mpr rat_le]; exact c H' s⟩
theorem ok_Ratio_at_most {f : Addr} {fd : FuncData} (F : Fun K "at_most" "Ratio.at_most" s_Ratio_at_most f fd) (T : Txt K mg ca) (O_as_ratio : Own P w K mg base 3 "as_ratio" ["number"] (sp_as_ratio K ca)) : FnOk P w K mg base (L2N.CX P w) 4 f fd ["self", "other"] (sp_Ratio_at_most K ca) := by
  refine okN F sc_Ratio_at_most (fun vs H Q E h => ?_) (fun cdv A outer s H vs Q E hr h => ?_)
  · obtain ⟨_, _, _, _, _, _, rfl, _⟩ := h
    rfl
  · obtain ⟨p, x, t, b, t', b', rfl, hR, hn, m1, m2, k⟩ := h
    refine ⟨_, pss_cons (ps_set (i := 2) sc_Ratio_at_most.nd rfl (Or.inl rfl) (pe_own O_as_ratio (hr.mono (by decide)) rfl pas0 (pa_cons (pv 1) pa_nil))) (pss_one (ps_ret (pe_cmpR op_le (pe_op op_mulI (pe_fld (pv 0) rfl) (pe_fld (pv 2) rfl)) (pe_op op_mulI (pe_fld (pv 2) rfl) (pe_fld (pv 0) rfl)) (nomark _)))), ?_⟩
    fail "rd"
    refine ⟨x, t', b', rfl, hn, fun q H1 s1 hq => ?_⟩
    obtain ⟨_, dx, hp⟩ := hR.same s1
    obtain ⟨_, dy, hq⟩ := hq
    fail "rd"
    exact k H1 s1

abbrev s_Ratio_sub : Stmt := inClass (top 9) 3
theorem sc_Ratio_sub : FnScope ["self", "other", "number"] ["self", "other"] (defScope s_Ratio_sub) := ⟨rfl, rfl, rfl, by decide +kernel, rfl, by decide +kernel, by decide +kernel⟩
def sp_Ratio_sub (_ : PySem.W.Frag) (ca : Nat → Addr) : Sp := fun vs H Q _ => ∃ (p : Addr) (x : V) (a b a' b' : Int), vs = [.ref p, x] ∧ RatQ ca H p a b ∧ NumQ ca H x a' b' ∧ Sz 4000 a ∧ Sz 4000 b ∧ Sz 4000 a' ∧ Sz 4000 b' ∧
  ∀ (q : Addr) (H' : Hp), H q = none → Same H H' → RatQ ca H' q (a * b' - a' * b) (b * b') → Q (.ref q) H'
theorem q_sub {K : PySem.W.Frag} {ca : Nat → Addr} {H : Hp} {p : Addr} {x : V} {a b : Rat} {Q : VK} {E : XK} (h : QAt ca H p a) (k : QV ca H x b) (sa : Zq 4000 a) (sb : Zq 4000 b) (c : ∀ (q : Addr) (H' : Hp), H q = none → Same H H' → QAt ca H' q (a - b) → Q (.ref q) H') : sp_Ratio_sub K ca [.ref p, x] H Q E :=
  ⟨p, x, _, _, _, _, rfl, h.r, k.n, sa.1, sa.2, sb.1, sb.2, fun q H' n s r => c q H' n s (.of r id_sub)⟩
theorem o_sub {K : PySem.W.Frag} {ca : Nat → Addr} {H : Hp} {p : Addr} {x : V} {a b : Rat} {Q : VK} {E : XK} (h : QAt ca H p a) (k : QV ca H x b) (sa : Zq 4000 a) (sb : Zq 4000 b) (c : ∀ (q : Addr) (H' : Hp), H q = none → Same H H' → QAt ca H' q (a - b) → Q (.ref q) H') : rOwn (ca 2) (sp_Ratio_sub K ca) E (.ref p) x H Q :=
  rOwn_of h.r k.n (q_sub h k sa sb c)
theorem ok_Ratio_sub {f : Addr} {fd : FuncData} (F : Fun K "__sub__" "Ratio.__sub__" s_Ratio_sub f fd) (T : Txt K mg ca) (O_as_ratio : Own P w K mg base 3 "as_ratio" ["number"] (sp_as_ratio K ca)) (O_Ratio_2 : OwnI P w K mg base 1 "Ratio" (ca 2) ["self", "top", "bottom"] [] (sp_Ratio_init K ca)) (O_Ratio_1 : OwnI P w K mg base 1 "Ratio" (ca 2) ["self", "top", "bottom"] [.int 1] (sp_Ratio_init K ca)) : FnOk P w K mg base (L2N.CX P w) 4 f fd ["self", "other"] (sp_Ratio_sub K ca) := by
  refine okN F sc_Ratio_sub (fun vs H Q E h => ?_) (fun cdv A outer s H vs Q E hr h => ?_)
  · obtain ⟨_, _, _, _, _, _, rfl, _⟩ := h
    rfl
  · obtain ⟨p, x, a, b, a', b', rfl, hR, hn, s1, s2, s3, s4, k⟩ := h
    refine ⟨_, pss_cons (ps_set (i := 2) sc_Ratio_sub.nd rfl (Or.inl rfl) (pe_own O_as_ratio (hr.mono (by decide)) rfl pas0 (pa_cons (pv 1) pa_nil))) (pss_one (ps_ret (pe_owni O_Ratio_2 (hr.mono (by decide)) rfl pas0 (pa_cons (pe_op op_sub (pe_op op_mulI (pe_fld (pv 0) rfl) (pe_fld (pv 2) rfl)) (pe_op op_mulI (pe_fld (pv 2) rfl) (pe_fld (pv 0) rfl))) (pa_cons (pe_op op_mulI (pe_fld (pv 0) rfl) (pe_fld (pv 2) rfl)) pa_nil))))), ?_⟩
    fail "rd"
    refine ⟨x, _, _, rfl, hn.num, fun q H1 sm hq => ?_⟩
    obtain ⟨dx, hp⟩ := (hR.same sm).ins
    obtain ⟨_, dy, hq⟩ := hq
    have t1 := s1.le (nrm_le1 (a := a) hR.ne)
    have t2 := s2.le (nrm_le2 (a := a) hR.ne)
    have t3 := s3.le (nrm_le1 (a := a') hn.ne)
    have t4 := s4.le (nrm_le2 (a := a') hn.ne)
    have m1 : IntMulOk (nrm a b).1 (nrm a' b').2 := t1.mok t4
    have m2 : IntMulOk (nrm a' b').1 (nrm a b).2 := t3.mok t2
    have m3 : IntMulOk (nrm a b).2 (nrm a' b').2 := t2.mok t4
    have m4 : IntMulOk (nrm a b).1 (nrm a' b').1 := t1.mok t3
    have n0 : (nrm a b).2 * (nrm a' b').2 ≠ 0 := Int.mul_ne_zero (nrm_ne hR.ne) (nrm_ne hn.ne)
    fail "rd"
    intro r d_r n_r nd_r ne_r
    refine ⟨r, d_r, _, _, rfl, upd_same, ((t2.mul t4).lg), fun z => absurd z n0, fun _ H2 k_r e_r => ⟨rfl, ?_⟩⟩
    have s_H2 := same_made n_r nd_r ne_r k_r
    exact k r H2 (sm.free n_r) (sm.trans s_H2) (.of (Int.mul_ne_zero hR.ne hn.ne) e_r (nrm_sub hR.ne hn.ne))

theorem hot_Ratio_sub {f : Addr} {fd : FuncData} (F : Fun K "__sub__" "Ratio.__sub__" s_Ratio_sub f fd) (T : Txt K mg ca) (O_as_ratio : OwnH P w K mg base 3 "as_ratio" ["number"] (sp_as_ratio K ca)) (O_Ratio_2 : OwnIH P w K mg base 1 "Ratio" (ca 2) ["self", "top", "bottom"] [] (sp_Ratio_init K ca)) (O_Ratio_1 : OwnIH P w K mg base 1 "Ratio" (ca 2) ["self", "top", "bottom"] [.int 1] (sp_Ratio_init K ca)) : L2H.FnH P w K mg base (L2.CX P w) 4 f fd ["self", "other"] (sp_Ratio_sub K ca) := by
  refine okH F sc_Ratio_sub (fun vs H Q E h => ?_) (fun cdv A outer s H vs Q E pn hot hr h => ?_)
  · obtain ⟨_, _, _, _, _, _, rfl, _⟩ := h
    rfl
  · obtain ⟨p, x, a, b, a', b', rfl, hR, hn, s1, s2, s3, s4, k⟩ := h
    refine ⟨_, pss_cons (ps_set (i := 2) sc_Ratio_sub.nd rfl (Or.inl rfl) (pe_ownH O_as_ratio (hr.mono (by decide)) rfl pasH (pa_cons (pv 1) pa_nil))) (pss_one (ps_ret (pe_owniH O_Ratio_2 (hr.mono (by decide)) rfl pasH (pa_cons (pe_op op_sub (pe_op op_mulI (pe_fld (pv 0) rfl) (pe_fld (pv 2) rfl)) (pe_op op_mulI (pe_fld (pv 2) rfl) (pe_fld (pv 0) rfl))) (pa_cons (pe_op op_mulI (pe_fld (pv 0) rfl) (pe_fld (pv 2) rfl)) pa_nil))))), ?_⟩
    fail "rd"
    refine ⟨x, _, _, rfl, hn.num, fun q H1 sm hq => ?_⟩
    obtain ⟨dx, hp⟩ := (hR.same sm).ins
    obtain ⟨_, dy, hq⟩ := hq
    have t1 := s1.le (nrm_le1 (a := a) hR.ne)
    have t2 := s2.le (nrm_le2 (a := a) hR.ne)
    have t3 := s3.le (nrm_le1 (a := a') hn.ne)
    have t4 := s4.le (nrm_le2 (a := a') hn.ne)
    have m1 : IntMulOk (nrm a b).1 (nrm a' b').2 := t1.mok t4
    have m2 : IntMulOk (nrm a' b').1 (nrm a b).2 := t3.mok t2
    have m3 : IntMulOk (nrm a b).2 (nrm a' b').2 := t2.mok t4
    have m4 : IntMulOk (nrm a b).1 (nrm a' b').1 := t1.mok t3
    have n0 : (nrm a b).2 * (nrm a' b').2 ≠ 0 := Int.mul_ne_zero (nrm_ne hR.ne) (nrm_ne hn.ne)
    fail "rd"
    intro r d_r n_r nd_r ne_r
    refine ⟨r, d_r, _, _, rfl, upd_same, ((t2.mul t4).lg), fun z => absurd z n0, fun _ H2 k_r e_r => ⟨rfl, ?_⟩⟩
    have s_H2 := same_made n_r nd_r ne_r k_r
    exact k r H2 (sm.free n_r) (sm.trans s_H2) (.of (Int.mul_ne_zero hR.ne hn.ne) e_r (nrm_sub hR.ne hn.ne))

abbrev s_l_first : Stmt := top 30
theorem sc_l_first : FnScope ["_law_parts", "_law_units", "_law_taken", "_law_left", "_law_rest", "_law_lot", "_law_amount_here"] ["_law_parts", "_law_units"] (defScope s_l_first) := ⟨rfl, rfl, rfl, by decide +kernel, rfl, by decide +kernel, by decide +kernel⟩
def sp_l_first (_ : PySem.W.Frag) (ca : Nat → Addr) : Sp := fun vs H Q _ => ∃ (l : Addr) (x : V) (xs : List V) (ls : Ls) (w : Rat) (n m : Nat), vs = [.ref l, x] ∧ H l = some (.lst xs) ∧ Lay ca H xs ls ∧ QV ca H x w ∧ (∀ x ∈ ls, 0 < x.2) ∧ 0 ≤ w ∧ ZL n ls ∧ Zq m w ∧ m + ls.length * (n + 1) + n + 5 ≤ 4000 ∧
  ∀ (t : Addr) (H' : Hp), Same H H' → Two ca H H' t (fst1 ls w) → Q (.ref t) H'
theorem ok_l_first {f : Addr} {fd : FuncData} (F : Fun K "_law_first" "_law_first" s_l_first f fd) (T : Txt K mg ca) (O_Ratio_2 : OwnI P w K mg base 1 "Ratio" (ca 2) ["self", "top", "bottom"] [] (sp_Ratio_init K ca)) (O_Ratio_1 : OwnI P w K mg base 1 "Ratio" (ca 2) ["self", "top", "bottom"] [.int 1] (sp_Ratio_init K ca)) (O_Ratio___add__ : OwnM P w K mg base 4 (ca 2) "__add__" ["self", "other"] (sp_Ratio_add K ca)) (O_Ratio_at_most : OwnM P w K mg base 4 (ca 2) "at_most" ["self", "other"] (sp_Ratio_at_most K ca)) (O_Ratio___sub__ : OwnM P w K mg base 4 (ca 2) "__sub__" ["self", "other"] (sp_Ratio_sub K ca)) : FnOk P w K mg base (L2N.CX P w) 5 f fd ["_law_parts", "_law_units"] (sp_l_first K ca) := by
  refine okN F sc_l_first (fun vs H Q E h => ?_) (fun cdv A outer s H vs Q E hr h => ?_)
  · obtain ⟨_, _, _, _, _, _, _, rfl, _⟩ := h
    rfl
  · obtain ⟨l, x, xs, ls, w, n, m, rfl, hl, hx, hw, pos, w0, zl, zw, sz, k⟩ := h
    refine ⟨_, pss_cons (ps_set (i := 2) sc_l_first.nd rfl (Or.inl rfl) (pe_lst pa_nil)) (pss_cons (ps_set (i := 3) sc_l_first.nd rfl (Or.inl rfl) (pe_lst pa_nil)) (pss_cons (ps_set (i := 4) sc_l_first.nd rfl (Or.inl rfl) (pe_op (op_own .add T.ar_Ratio O_Ratio___add__ (hr.mono (by decide)) passN) (pe_owni O_Ratio_1 (hr.mono (by decide)) rfl pas0 (pa_cons pe_int pa_nil)) (pv 1))) (pss_cons (ps_for (passes_of rfl) rfl (pi_list (pv 0)) (pg_tup rfl (pgs_cons (pg_name (i := 5) sc_l_first.nd rfl (Or.inl rfl)) (pgs_cons (pg_name (i := 6) sc_l_first.nd rfl (Or.inl rfl)) pgs_nil))) (pss_one (ps_if (pt_val (pe_ownm O_Ratio_at_most (pv 6) (hr.mono (by decide)) pas0 (pa_cons (pv 4) pa_nil))) (pss_cons (ps_expr (pe_bm PySem.F.plainAttrs_list PySem.F.slot_list_append PySem.F.type_list_append mt_append (pv 2) (pa_cons (pe_tup (pa_cons (pv 5) (pa_cons (pv 6) pa_nil))) pa_nil))) (pss_one (ps_set (i := 4) sc_l_first.nd rfl (Or.inl rfl) (pe_op (op_own .sub T.ar_Ratio O_Ratio___sub__ (hr.mono (by decide)) passN) (pv 4) (pv 6))))) (Evl.pss_cut (ps_if (pt_cmpR op_gt (pe_fld (pv 4) rfl) pe_int (nomark _)) (pss_one (ps_expr (pe_bm PySem.F.plainAttrs_list PySem.F.slot_list_append PySem.F.type_list_append mt_append (pv 2) (pa_cons (pe_tup (pa_cons (pv 5) (pa_cons (pv 4) pa_nil))) pa_nil)))) pss_nil) (pss_cons (ps_expr (pe_bm PySem.F.plainAttrs_list PySem.F.slot_list_append PySem.F.type_list_append mt_append (pv 3) (pa_cons (pe_tup (pa_cons (pv 5) (pa_cons (pe_op (op_own .sub T.ar_Ratio O_Ratio___sub__ (hr.mono (by decide)) passN) (pv 6) (pv 4)) pa_nil))) pa_nil))) (pss_one (ps_set (i := 4) sc_l_first.nd rfl (Or.inl rfl) (pe_owni O_Ratio_1 (hr.mono (by decide)) rfl pas0 (pa_cons pe_int pa_nil))))))))) (pss_one (ps_ret (pe_tup (pa_cons (pv 2) (pa_cons (pv 3) pa_nil)))))))), ?_⟩
    have lx := hx.length
    have lm : ls.length ≤ 4000 := by
      have := Nat.le_mul_of_pos_right ls.length (show 0 < n + 1 by omega)
      omega
    fail "rd"
    intro T n_T
    generalize g_H1 : upd _ T _ = H1
    obtain ⟨s_H1, e_T⟩ := gen_new n_T g_H1
    clear g_H1
    fail "rd"
    intro Lf n_Lf
    generalize g_H2 : upd _ Lf _ = H2
    obtain ⟨s_H2, e_Lf⟩ := gen_new n_Lf g_H2
    clear g_H2
    have eT := s_H2 _ _ e_T
    have nTL : T ≠ Lf := ne_of_none e_T n_Lf
    have nL0 := s_H1.free n_Lf
    fail "rd"
    intro r dx nr nd ne
    refine q_make nr nd ne (by decide) (by decide) fun H3 s3 hr3 => ⟨rfl, ?_⟩
    have e0 : Rat.divInt 0 1 = 0 := Rat.zero_divInt 1
    rw [e0] at hr3
    have s03 := (s_H1.trans s_H2).trans s3
    fail "rd"
    refine o_add hr3 (hw.same s03) (zq0) (zw.mono (by omega)) fun r2 H4 nr2 s4 hr4 => ?_
    have ew : 0 + w = w := by grind
    rw [ew] at hr4
    have s04 := s03.trans s4
    have s24 := s3.trans s4
    have zt : ∀ i, Zq (m + ls.length * (n + 1) + 2) (w - tot (ls.take i)) := fun i => by
      have z1 := tot_zq (n := n) (ls := ls.take i) fun x mx => zl x (List.mem_of_mem_take mx)
      have z2 := zw.sub z1
      refine z2.mono ?_
      have : (ls.take i).length * (n + 1) ≤ ls.length * (n + 1) := Nat.mul_le_mul_right _ (by rw [List.length_take]; omega)
      omega
    have nT0 := n_T
    fail "rd"
    refine for_list (K := K) (D := ⟨_, _, fun _ _ => True, fun _ _ => True⟩) (a := l) (xs := xs) (fun i σ' H' => ∃ (r : Addr) (v5 v6 : Option V) (ts ks : List V), σ' = [some (.ref l), some x, some (.ref T), some (.ref Lf), some (.ref r), v5, v6] ∧ Same H H' ∧ H' T = some (.lst ts) ∧ H' Lf = some (.lst ks) ∧ Lay ca H' ts (fst1 (ls.take i) w).1 ∧ Lay ca H' ks (fst1 (ls.take i) w).2 ∧ ts.length ≤ i ∧ ks.length ≤ i ∧ ∃ R : Rat, ((fst1 (ls.take i) w).2 = [] → R = w - tot (ls.take i)) ∧ ((fst1 (ls.take i) w).2 ≠ [] → R = 0) ∧ QAt ca H' r R) ⟨r2, _, _, [], [], rfl, s04, s24 _ _ eT, s24 _ _ e_Lf, .nil, .nil, Nat.le_refl _, Nat.le_refl _, w, (fun _ => by show w = w - 0; grind), (fun h => absurd rfl h), hr4⟩ (fun i σ' H' _ ⟨_, _, _, _, _, _, s, _⟩ => SqL.of (s _ _ hl)) ?_ ?_
    · rintro i v σ' H5 hi ⟨r, v5, v6, ts, ks, rfl, s5, hT, hK, hts, hks, lts, lks, R, hR1, hR2, hr5⟩
      have ci : i < ls.length := by rw [← lx]; exact (List.getElem?_eq_some_iff.mp hi).1
      have gl : ls[i]? = some ls[i] := List.getElem?_eq_getElem ci
      have etk : ls.take (i + 1) = ls.take i ++ [ls[i]] := by rw [List.take_add_one, gl]; rfl
      obtain ⟨ta, pa, rfl, hta, hpa⟩ := paired_get hx hi gl
      have zx : Zq 4000 ls[i].2 := (zl _ (List.getElem_mem ci)).mono (by omega)
      have xp := pos _ (List.getElem_mem ci)
      have fn := fst_nil (ls := ls.take i) w0
      rw [etk]
      generalize ls[i] = y at hta hpa zx xp ⊢
      rw [fst_snoc]
      have zR : Zq 4000 R := by
        by_cases c : (fst1 (ls.take i) w).2 = []
        · rw [hR1 c]
          exact (zt i).mono (by omega)
        · rw [hR2 c]
          exact zq0
      have R0 : 0 ≤ R := by
        by_cases c : (fst1 (ls.take i) w).2 = []
        · have := fn c
          rw [hR1 c]
          grind
        · rw [hR2 c]
          exact Rat.le_refl
      generalize hF1 : (fst1 (ls.take i) w).1 = F1 at hts ⊢
      generalize hF2 : (fst1 (ls.take i) w).2 = F2 at hks hR1 hR2 fn ⊢
      have eT1 : tot (ls.take i ++ [y]) = tot (ls.take i) + y.2 := by rw [tot_app, tot_one]
      rw [eT1]
      have hta5 := s5 _ _ hta
      have hpa5 := hpa.same s5
      obtain ⟨_, hri⟩ := id hr5.ins
      obtain ⟨_, hpi⟩ := id hpa5.ins
      fail "rd"
      refine q_at_most hpa5 hr5.v zx zR fun H6 s6 => ?_
      have hT6 := s6 _ _ hT
      have hK6 := s6 _ _ hK
      have s06 := s5.trans s6
      have hr6 := hr5.same s6
      have hpa6 := hpa5.same s6
      by_cases le : y.2 ≤ R
      · have d : F2 = [] := by
          by_cases c : F2 = []
          · exact c
          · rw [hR2 c] at le
            grind
        have eR := hR1 d
        have le2 : y.2 ≤ w - tot (ls.take i) := by rw [← eR]; exact le
        rw [if_pos d, if_pos le2]
        rw [decide_eq_true le]
        fail "rd"
        intro t7 n_t7
        generalize g_H7 : upd _ t7 _ = H7
        obtain ⟨s_H7, e_t7⟩ := gen_new n_t7 g_H7
        clear g_H7
        have hT7 := s_H7 _ _ hT6
        refine ⟨T, ts, _, rfl, rfl, hT7, Nat.lt_of_lt_of_le (show ts.length < 5000 by omega) (line_le (by decide)), ?_⟩
        generalize g_H8 : upd _ T _ = H8
        obtain ⟨k_H8, e_H8⟩ := gen_put g_H8
        clear g_H8
        have s08 : Same H H8 := fun a o e => k_H8 _ _ ((s06.trans s_H7) _ _ e) (ne_of_none e nT0)
        have hK8 := k_H8 _ _ (s_H7 _ _ hK6) nTL.symm
        have hr8 : QAt ca H8 r _ := (hr6.same s_H7).keep hT7 (fun _ _ _ z => nomatch z) k_H8
        have hpa8 : QAt ca H8 pa _ := (hpa6.same s_H7).keep hT7 (fun _ _ _ z => nomatch z) k_H8
        have hts8 : Lay ca H8 (ts ++ [V.ref t7]) (F1 ++ [y]) := Paired.snoc (((hts.same s6).same s_H7).putL hT7 k_H8) (LR.keep ⟨t7, pa, rfl, e_t7, hpa6.same s_H7⟩ hT7 (fun _ z => nomatch z) (fun _ _ _ z => nomatch z) k_H8)
        have hks8 := (((hks.same s6).same s_H7).putL hT7 k_H8)
        fail "rd"
        refine o_sub hr8 hpa8.v zR zx fun q H9 nq s9 hq => ?_
        rw [d] at hks8
        cases hks8
        refine ⟨q, _, _, _, [], rfl, s08.trans s9, s9 _ _ e_H8, s9 _ _ hK8, hts8.same s9, .nil, by rw [List.length_append]; exact Nat.succ_le_succ lts, Nat.zero_le _, R - y.2, (fun _ => by rw [eR]; grind), (fun h => absurd rfl h), hq⟩
      · rw [decide_eq_false le]
        have eD : (if F2 = [] then (if y.2 ≤ w - tot (ls.take i) then (F1 ++ [y], []) else if w - tot (ls.take i) = 0 then (F1, [y]) else (F1 ++ [(y.1, w - tot (ls.take i))], [(y.1, y.2 - (w - tot (ls.take i)))])) else (F1, F2 ++ [y])) = (if R = 0 then F1 else F1 ++ [(y.1, R)], F2 ++ [(y.1, y.2 - R)]) := by
          by_cases d : F2 = []
          · have eR := hR1 d
            rw [if_pos d, ← eR, if_neg le]
            subst d
            by_cases z : R = 0
            · rw [if_pos z, if_pos z, z, show y.2 - 0 = y.2 by grind]
              rfl
            · rw [if_neg z, if_neg z]
              rfl
          · rw [if_neg d, hR2 d, if_pos rfl, show y.2 - 0 = y.2 by grind]
        rw [eD]
        obtain ⟨_, hri6⟩ := id hr6.ins
        fail "rd"
        refine ⟨fun σ2 H7 => ∃ (ts2 : List V), σ2 = [some (.ref l), some x, some (.ref T), some (.ref Lf), some (.ref r), some (.str y.1), some (.ref pa)] ∧ Same H H7 ∧ H7 T = some (.lst ts2) ∧ H7 Lf = some (.lst ks) ∧ Lay ca H7 ts2 (if R = 0 then F1 else F1 ++ [(y.1, R)]) ∧ Lay ca H7 ks F2 ∧ ts2.length ≤ i + 1 ∧ QAt ca H7 r R ∧ QAt ca H7 pa y.2, ?_, ?_⟩
        · fail "rd"
          refine iteD (fun z => ?_) (fun z => ?_)
          · have zn : R ≠ 0 := fun e => by
              rw [e] at z
              exact absurd z (by decide)
            fail "rd"
            intro t7 n_t7
            generalize g_H7 : upd _ t7 _ = H7
            obtain ⟨s_H7, e_t7⟩ := gen_new n_t7 g_H7
            clear g_H7
            have hT7 := s_H7 _ _ hT6
            refine ⟨T, ts, _, rfl, rfl, hT7, Nat.lt_of_lt_of_le (show ts.length < 5000 by omega) (line_le (by decide)), ?_⟩
            generalize g_H8 : upd _ T _ = H8
            obtain ⟨k_H8, e_H8⟩ := gen_put g_H8
            clear g_H8
            have s08 : Same H H8 := fun a o e => k_H8 _ _ ((s06.trans s_H7) _ _ e) (ne_of_none e nT0)
            have hr8 : QAt ca H8 r _ := (hr6.same s_H7).keep hT7 (fun _ _ _ z => nomatch z) k_H8
            have hpa8 : QAt ca H8 pa _ := (hpa6.same s_H7).keep hT7 (fun _ _ _ z => nomatch z) k_H8
            refine ⟨_, rfl, s08, e_H8, k_H8 _ _ (s_H7 _ _ hK6) nTL.symm, ?_, (((hks.same s6).same s_H7).putL hT7 k_H8), by rw [List.length_append]; exact Nat.succ_le_succ lts, hr8, hpa8⟩
            rw [if_neg zn]
            exact Paired.snoc (((hts.same s6).same s_H7).putL hT7 k_H8) (LR.keep ⟨t7, r, rfl, e_t7, hr6.same s_H7⟩ hT7 (fun _ z => nomatch z) (fun _ _ _ z => nomatch z) k_H8)
          · have zn : R = 0 := by
              have h1 : R.num ≤ 0 := by
                have z : ¬ (0 < R.num) := z
                omega
              have h2 : 0 ≤ R.num := Rat.num_nonneg.mpr R0
              exact Rat.num_eq_zero.mp (by omega)
            refine ⟨ts, rfl, s06, hT6, hK6, ?_, hks.same s6, Nat.le_succ_of_le lts, hr6, hpa6⟩
            rw [if_pos zn]
            exact hts.same s6
        · rintro σ2 H7 ⟨ts2, rfl, s7, hT7, hK7, hts7, hks7, l7, hr7, hpa7⟩
          fail "rd"
          refine o_sub hpa7 hr7.v zx zR fun q H8 nq s8 hq => ?_
          fail "rd"
          intro t9 n_t9
          generalize g_H9 : upd _ t9 _ = H9
          obtain ⟨s_H9, e_t9⟩ := gen_new n_t9 g_H9
          clear g_H9
          have hK9 := s_H9 _ _ (s8 _ _ hK7)
          refine ⟨Lf, ks, _, rfl, rfl, hK9, Nat.lt_of_lt_of_le (show ks.length < 5000 by omega) (line_le (by decide)), ?_⟩
          generalize g_H10 : upd _ Lf _ = H10
          obtain ⟨k_H10, e_H10⟩ := gen_put g_H10
          clear g_H10
          have s79 := s8.trans s_H9
          have s10 : Same H H10 := fun a o e => k_H10 _ _ ((s7.trans s79) _ _ e) (ne_of_none e nL0)
          fail "rd"
          intro r4 dx4 nr4 nd4 ne4
          refine q_make nr4 nd4 ne4 (by decide) (by decide) fun H11 s11 hr11 => ⟨rfl, ?_⟩
          rw [e0] at hr11
          refine ⟨r4, _, _, ts2, _, rfl, s10.trans s11, s11 _ _ (k_H10 _ _ (s79 _ _ hT7) nTL), s11 _ _ e_H10, ((hts7.same s79).putL hK9 k_H10).same s11, Lay.same (Paired.snoc ((hks7.same s79).putL hK9 k_H10) (LR.keep (x := (y.1, y.2 - R)) ⟨t9, q, rfl, e_t9, hq.same s_H9⟩ hK9 (fun _ z => nomatch z) (fun _ _ _ z => nomatch z) k_H10)) s11, l7, by rw [List.length_append]; exact Nat.succ_le_succ lks, 0, fun h => absurd h (by simp), fun _ => rfl, hr11⟩
    · rintro σ' H5 ⟨r, v5, v6, ts, ks, rfl, s5, hT, hK, hts, hks, lts, lks, _⟩
      rw [lx, List.take_length] at hts hks
      fail "rd"
      intro t n_t
      generalize g_H6 : upd _ t _ = H6
      obtain ⟨s_H6, e_t⟩ := gen_new n_t g_H6
      clear g_H6
      exact k t H6 (s5.trans s_H6) ⟨T, Lf, ts, ks, e_t, n_T, nL0, nTL, s_H6 _ _ hT, s_H6 _ _ hK, hts.same s_H6, hks.same s_H6⟩

abbrev s_Ratio_mul : Stmt := inClass (top 9) 5
theorem sc_Ratio_mul : FnScope ["self", "other", "number"] ["self", "other"] (defScope s_Ratio_mul) := ⟨rfl, rfl, rfl, by decide +kernel, rfl, by decide +kernel, by decide +kernel⟩
def sp_Ratio_mul (_ : PySem.W.Frag) (ca : Nat → Addr) : Sp := fun vs H Q _ => ∃ (p : Addr) (x : V) (a b a' b' : Int), vs = [.ref p, x] ∧ RatQ ca H p a b ∧ NumQ ca H x a' b' ∧ Sz 4000 a ∧ Sz 4000 b ∧ Sz 4000 a' ∧ Sz 4000 b' ∧
  ∀ (q : Addr) (H' : Hp), H q = none → Same H H' → RatQ ca H' q (a * a') (b * b') → Q (.ref q) H'
theorem q_mul {K : PySem.W.Frag} {ca : Nat → Addr} {H : Hp} {p : Addr} {x : V} {a b : Rat} {Q : VK} {E : XK} (h : QAt ca H p a) (k : QV ca H x b) (sa : Zq 4000 a) (sb : Zq 4000 b) (c : ∀ (q : Addr) (H' : Hp), H q = none → Same H H' → QAt ca H' q (a * b) → Q (.ref q) H') : sp_Ratio_mul K ca [.ref p, x] H Q E :=
  ⟨p, x, _, _, _, _, rfl, h.r, k.n, sa.1, sa.2, sb.1, sb.2, fun q H' n s r => c q H' n s (.of r id_mul)⟩
theorem o_mul {K : PySem.W.Frag} {ca : Nat → Addr} {H : Hp} {p : Addr} {x : V} {a b : Rat} {Q : VK} {E : XK} (h : QAt ca H p a) (k : QV ca H x b) (sa : Zq 4000 a) (sb : Zq 4000 b) (c : ∀ (q : Addr) (H' : Hp), H q = none → Same H H' → QAt ca H' q (a * b) → Q (.ref q) H') : rOwn (ca 2) (sp_Ratio_mul K ca) E (.ref p) x H Q :=
  rOwn_of h.r k.n (q_mul h k sa sb c)
theorem ok_Ratio_mul {f : Addr} {fd : FuncData} (F : Fun K "__mul__" "Ratio.__mul__" s_Ratio_mul f fd) (T : Txt K mg ca) (O_as_ratio : Own P w K mg base 3 "as_ratio" ["number"] (sp_as_ratio K ca)) (O_Ratio_2 : OwnI P w K mg base 1 "Ratio" (ca 2) ["self", "top", "bottom"] [] (sp_Ratio_init K ca)) (O_Ratio_1 : OwnI P w K mg base 1 "Ratio" (ca 2) ["self", "top", "bottom"] [.int 1] (sp_Ratio_init K ca)) : FnOk P w K mg base (L2N.CX P w) 4 f fd ["self", "other"] (sp_Ratio_mul K ca) := by
  refine okN F sc_Ratio_mul (fun vs H Q E h => ?_) (fun cdv A outer s H vs Q E hr h => ?_)
  · obtain ⟨_, _, _, _, _, _, rfl, _⟩ := h
    rfl
  · obtain ⟨p, x, a, b, a', b', rfl, hR, hn, s1, s2, s3, s4, k⟩ := h
    refine ⟨_, pss_cons (ps_set (i := 2) sc_Ratio_mul.nd rfl (Or.inl rfl) (pe_own O_as_ratio (hr.mono (by decide)) rfl pas0 (pa_cons (pv 1) pa_nil))) (pss_one (ps_ret (pe_owni O_Ratio_2 (hr.mono (by decide)) rfl pas0 (pa_cons (pe_op op_mulI (pe_fld (pv 0) rfl) (pe_fld (pv 2) rfl)) (pa_cons (pe_op op_mulI (pe_fld (pv 0) rfl) (pe_fld (pv 2) rfl)) pa_nil))))), ?_⟩
    fail "rd"
    refine ⟨x, _, _, rfl, hn.num, fun q H1 sm hq => ?_⟩
    obtain ⟨dx, hp⟩ := (hR.same sm).ins
    obtain ⟨_, dy, hq⟩ := hq
    have t1 := s1.le (nrm_le1 (a := a) hR.ne)
    have t2 := s2.le (nrm_le2 (a := a) hR.ne)
    have t3 := s3.le (nrm_le1 (a := a') hn.ne)
    have t4 := s4.le (nrm_le2 (a := a') hn.ne)
    have m1 : IntMulOk (nrm a b).1 (nrm a' b').2 := t1.mok t4
    have m2 : IntMulOk (nrm a' b').1 (nrm a b).2 := t3.mok t2
    have m3 : IntMulOk (nrm a b).2 (nrm a' b').2 := t2.mok t4
    have m4 : IntMulOk (nrm a b).1 (nrm a' b').1 := t1.mok t3
    have n0 : (nrm a b).2 * (nrm a' b').2 ≠ 0 := Int.mul_ne_zero (nrm_ne hR.ne) (nrm_ne hn.ne)
    fail "rd"
    intro r d_r n_r nd_r ne_r
    refine ⟨r, d_r, _, _, rfl, upd_same, ((t2.mul t4).lg), fun z => absurd z n0, fun _ H2 k_r e_r => ⟨rfl, ?_⟩⟩
    have s_H2 := same_made n_r nd_r ne_r k_r
    exact k r H2 (sm.free n_r) (sm.trans s_H2) (.of (Int.mul_ne_zero hR.ne hn.ne) e_r (nrm_mul hR.ne hn.ne))

abbrev s_Ratio_same : Stmt := inClass (top 9) 12
theorem sc_Ratio_same : FnScope ["self", "other", "number"] ["self", "other"] (defScope s_Ratio_same) := ⟨rfl, rfl, rfl, by decide +kernel, rfl, by decide +kernel, by decide +kernel⟩
def sp_Ratio_same (_ : PySem.W.Frag) (ca : Nat → Addr) : Sp := fun vs H Q _ => ∃ (p : Addr) (x : V) (t b t' b' : Int), vs = [.ref p, x] ∧ RatAt ca H p t b ∧ NumV ca H x t' b' ∧ ∀ H' : Hp, Same H H' → Q (.bl (decide (t = t' ∧ b = b'))) H'
theorem q_same {K : PySem.W.Frag} {ca : Nat → Addr} {H : Hp} {p : Addr} {x : V} {a b : Rat} {Q : VK} {E : XK} (h : QAt ca H p a) (k : QV ca H x b) (c : ∀ H' : Hp, Same H H' → Q (.bl (decide (a = b))) H') : sp_Ratio_same K ca [.ref p, x] H Q E :=
  ⟨p, x, _, _, _, _, rfl, h, k, fun H' s => by rw [decide_eq_decide.mpr rat_eq]; exact c H' s⟩
theorem ok_Ratio_same {f : Addr} {fd : FuncData} (F : Fun K "same" "Ratio.same" s_Ratio_same f fd) (T : Txt K mg ca) (O_as_ratio : Own P w K mg base 3 "as_ratio" ["number"] (sp_as_ratio K ca)) : FnOk P w K mg base (L2N.CX P w) 4 f fd ["self", "other"] (sp_Ratio_same K ca) := by
  refine okN F sc_Ratio_same (fun vs H Q E h => ?_) (fun cdv A outer s H vs Q E hr h => ?_)
  · obtain ⟨_, _, _, _, _, _, rfl, _⟩ := h
    rfl
  · obtain ⟨p, x, t, b, t', b', rfl, hR, hn, k⟩ := h
    refine ⟨_, pss_cons (ps_set (i := 2) sc_Ratio_same.nd rfl (Or.inl rfl) (pe_own O_as_ratio (hr.mono (by decide)) rfl pas0 (pa_cons (pv 1) pa_nil))) (pss_one (ps_ret (pe_and (pe_cmpR op_eq (pe_fld (pv 0) rfl) (pe_fld (pv 2) rfl) (nomark _)) (pe_one (pe_cmpR op_eq (pe_fld (pv 0) rfl) (pe_fld (pv 2) rfl) (nomark _)))))), ?_⟩
    fail "rd"
    refine ⟨x, t', b', rfl, hn, fun q H1 s1 hq => ?_⟩
    obtain ⟨_, dx, hp⟩ := hR.same s1
    obtain ⟨_, dy, hq⟩ := hq
    fail "rd"
    refine iteI (fun z1 => ?_) (fun z1 => ?_)
    · fail "rd"
      have k1 := k H1 s1
      by_cases z2 : b = b'
      · rw [decide_eq_true ⟨z1, z2⟩] at k1
        rw [decide_eq_true (congrArg V.int z2)]
        exact k1
      · rw [decide_eq_false fun z => z2 z.2] at k1
        rw [decide_eq_false fun z => z2 (V.int.inj z)]
        exact k1
    · have k1 := k H1 s1
      rw [decide_eq_false fun z => z1 z.1] at k1
      exact k1

theorem hot_Ratio_same {f : Addr} {fd : FuncData} (F : Fun K "same" "Ratio.same" s_Ratio_same f fd) (T : Txt K mg ca) (O_as_ratio : OwnH P w K mg base 3 "as_ratio" ["number"] (sp_as_ratio K ca)) : L2H.FnH P w K mg base (L2.CX P w) 4 f fd ["self", "other"] (sp_Ratio_same K ca) := by
  refine okH F sc_Ratio_same (fun vs H Q E h => ?_) (fun cdv A outer s H vs Q E pn hot hr h => ?_)
  · obtain ⟨_, _, _, _, _, _, rfl, _⟩ := h
    rfl
  · obtain ⟨p, x, t, b, t', b', rfl, hR, hn, k⟩ := h
    refine ⟨_, pss_cons (ps_set (i := 2) sc_Ratio_same.nd rfl (Or.inl rfl) (pe_ownH O_as_ratio (hr.mono (by decide)) rfl pasH (pa_cons (pv 1) pa_nil))) (pss_one (ps_ret (pe_and (pe_cmpR op_eq (pe_fld (pv 0) rfl) (pe_fld (pv 2) rfl) (nomark _)) (pe_one (pe_cmpR op_eq (pe_fld (pv 0) rfl) (pe_fld (pv 2) rfl) (nomark _)))))), ?_⟩
    fail "rd"
    refine ⟨x, t', b', rfl, hn, fun q H1 s1 hq => ?_⟩
    obtain ⟨_, dx, hp⟩ := hR.same s1
    obtain ⟨_, dy, hq⟩ := hq
    fail "rd"
    refine iteI (fun z1 => ?_) (fun z1 => ?_)
    · fail "rd"
      have k1 := k H1 s1
      by_cases z2 : b = b'
      · rw [decide_eq_true ⟨z1, z2⟩] at k1
        rw [decide_eq_true (congrArg V.int z2)]
        exact k1
      · rw [decide_eq_false fun z => z2 z.2] at k1
        rw [decide_eq_false fun z => z2 (V.int.inj z)]
        exact k1
    · have k1 := k H1 s1
      rw [decide_eq_false fun z => z1 z.1] at k1
      exact k1

abbrev s_l_part : Stmt := top 31
theorem sc_l_part : FnScope ["_law_parts", "_law_units", "_law_share", "_law_taken", "_law_lot", "_law_amount_here"] ["_law_parts", "_law_units"] (defScope s_l_part) := ⟨rfl, rfl, rfl, by decide +kernel, rfl, by decide +kernel, by decide +kernel⟩
def sp_l_part (_ : PySem.W.Frag) (ca : Nat → Addr) : Sp := fun vs H Q _ => ∃ (l : Addr) (x : V) (xs : List V) (ls : Ls) (w : Rat) (n m : Nat), vs = [.ref l, x] ∧ H l = some (.lst xs) ∧ Lay ca H xs ls ∧ QV ca H x w ∧ tot ls ≠ 0 ∧ ZL n ls ∧ Zq m w ∧ m + ls.length * (n + 1) + 2 * n + 6 ≤ 4000 ∧
  ∀ (t : Addr) (H' : Hp), Same H H' → Two ca H H' t (evn1 ls w) → Q (.ref t) H'
theorem ok_l_part {f : Addr} {fd : FuncData} (F : Fun K "_law_part" "_law_part" s_l_part f fd) (T : Txt K mg ca) (O__law_total : Own P w K mg base 5 "_law_total" ["_law_parts"] (sp_l_total K ca)) (O_Ratio_2 : OwnI P w K mg base 1 "Ratio" (ca 2) ["self", "top", "bottom"] [] (sp_Ratio_init K ca)) (O_Ratio_1 : OwnI P w K mg base 1 "Ratio" (ca 2) ["self", "top", "bottom"] [.int 1] (sp_Ratio_init K ca)) (O_Ratio___add__ : OwnM P w K mg base 4 (ca 2) "__add__" ["self", "other"] (sp_Ratio_add K ca)) (O_Ratio_over : OwnM P w K mg base 4 (ca 2) "over" ["self", "other"] (sp_Ratio_over K ca)) (O_Ratio___mul__ : OwnM P w K mg base 4 (ca 2) "__mul__" ["self", "other"] (sp_Ratio_mul K ca)) (O_Ratio___sub__ : OwnM P w K mg base 4 (ca 2) "__sub__" ["self", "other"] (sp_Ratio_sub K ca)) (O_Ratio_same : OwnM P w K mg base 4 (ca 2) "same" ["self", "other"] (sp_Ratio_same K ca)) : FnOk P w K mg base (L2N.CX P w) 6 f fd ["_law_parts", "_law_units"] (sp_l_part K ca) := by
  refine okN F sc_l_part (fun vs H Q E h => ?_) (fun cdv A outer s H vs Q E hr h => ?_)
  · obtain ⟨_, _, _, _, _, _, _, rfl, _⟩ := h
    rfl
  · obtain ⟨l, x, xs, ls, w, n, m, rfl, hl, hx, hw, t0, zl, zw, sz, k⟩ := h
    refine ⟨_, pss_cons (ps_set (i := 2) sc_l_part.nd rfl (Or.inr rfl) (pe_op (op_own .add T.ar_Ratio O_Ratio___add__ (hr.mono (by decide)) passN) (pe_owni O_Ratio_1 (hr.mono (by decide)) rfl pas0 (pa_cons pe_int pa_nil)) (pv 1))) (pss_cons (ps_set (i := 2) sc_l_part.nd rfl (Or.inr rfl) (pe_ownm O_Ratio_over (pv 2) (hr.mono (by decide)) pas0 (pa_cons (pe_own O__law_total (hr.mono (by decide)) rfl pas0 (pa_cons (pv 0) pa_nil)) pa_nil))) (pss_cons (ps_setLc (i := 3) (own := [("_law_lot", 4), ("_law_amount_here", 5)]) (g := gTup K 2 (gCons (gName 4) (gCons (gName 5) gNil))) (tt := tYes) rfl sc_l_part.nd rfl rfl (sw_true rfl rfl rfl (by decide +kernel)) (pi_list (pv 0)) (blkOk_by (N := ["_law_parts", "_law_units", "_law_share", "_law_taken", "_law_lot", "_law_amount_here"]) (sc := defScope s_l_part) (by decide +kernel)) (fun _ _ _ _ _ => pg_tup rfl (pgs_cons (pg_name (i := 4) sc_l_part.nd rfl (by first | exact Or.inl rfl | exact Or.inr rfl)) (pgs_cons (pg_name (i := 5) sc_l_part.nd rfl (by first | exact Or.inl rfl | exact Or.inr rfl)) pgs_nil))) (fun _ _ _ _ _ => pts_nil) (fun _ _ _ _ _ => pe_tup (pa_cons (pv 4) (pa_cons (pe_op (op_own .mul T.ar_Ratio O_Ratio___mul__ (hr.mono (by decide)) passN) (pv 5) (pv 2)) pa_nil)))) (pss_cons (ps_if (pt_val (pe_ownm O_Ratio_same (pv 2) (hr.mono (by decide)) pas0 (pa_cons pe_int pa_nil))) (pss_one (ps_ret (pe_tup (pa_cons (pv 3) (pa_cons (pe_lst pa_nil) pa_nil))))) pss_nil) (pss_one (ps_ret (pe_tup (pa_cons (pv 3) (pa_cons (pe_lc (own := [("_law_lot", 4), ("_law_amount_here", 5)]) (g := gTup K 2 (gCons (gName 4) (gCons (gName 5) gNil))) (tt := tYes) rfl sc_l_part.nd (pi_list (pv 0)) (blkOk_by (N := ["_law_parts", "_law_units", "_law_share", "_law_taken", "_law_lot", "_law_amount_here"]) (sc := defScope s_l_part) (by decide +kernel)) (fun _ _ _ _ _ => pg_tup rfl (pgs_cons (pg_name (i := 4) sc_l_part.nd rfl (by first | exact Or.inl rfl | exact Or.inr rfl)) (pgs_cons (pg_name (i := 5) sc_l_part.nd rfl (by first | exact Or.inl rfl | exact Or.inr rfl)) pgs_nil))) (fun _ _ _ _ _ => pts_nil) (fun _ _ _ _ _ => pe_tup (pa_cons (pv 4) (pa_cons (pe_op (op_own .sub T.ar_Ratio O_Ratio___sub__ (hr.mono (by decide)) passN) (pv 5) (pe_op (op_own .mul T.ar_Ratio O_Ratio___mul__ (hr.mono (by decide)) passN) (pv 5) (pv 2))) pa_nil)))) pa_nil)))))))), ?_⟩
    have lx := hx.length
    have lm : ls.length ≤ 4000 := by
      have := Nat.le_mul_of_pos_right ls.length (show 0 < n + 1 by omega)
      omega
    have zt : Zq (1 + ls.length * (n + 1)) (tot ls) := tot_zq zl
    fail "rd"
    intro r dx nr nd ne
    refine q_make nr nd ne (by decide) (by decide) fun H3 s3 hr3 => ⟨rfl, ?_⟩
    have e0 : Rat.divInt 0 1 = 0 := Rat.zero_divInt 1
    rw [e0] at hr3
    fail "rd"
    refine o_add hr3 (hw.same s3) (zq0) (zw.mono (by omega)) fun r2 H4 nr2 s4 hr4 => ?_
    have ew : 0 + w = w := by grind
    rw [ew] at hr4
    have s04 := s3.trans s4
    obtain ⟨_, hri⟩ := id hr4.ins
    fail "rd"
    refine ⟨l, xs, ls, n, rfl, s04 _ _ hl, hx.same s04, zl, by omega, by omega, fun tq H5 s5 htq => ?_⟩
    have hr5 := hr4.same s5
    have s05 := s04.trans s5
    have zsh : Zq (m + (1 + ls.length * (n + 1))) (w / tot ls) := zw.div zt t0
    have zs4 : Zq 4000 (w / tot ls) := zsh.mono (by omega)
    refine q_over hr5 htq.v (zw.mono (by omega)) (zt.mono (by omega)) t0 fun sh H6 nsh s6 hsh => ?_
    have s06 := s05.trans s6
    have eR : evn1 ls w = (ls.map fun x => (x.1, x.2 * (w / tot ls)), if w / tot ls = 1 then [] else ls.map fun x => (x.1, x.2 - x.2 * (w / tot ls))) := by
      unfold evn1
      have ee : w / tot ls * tot ls = w := by
        rw [Rat.div_mul_cancel t0]
      by_cases c : tot ls = w
      · have c2 : w / tot ls = 1 := by rw [c]; rw [c] at t0; grind
        rw [if_pos c, if_pos c2, c2]
        congr 1
        refine (List.map_id ls).symm.trans (List.map_congr_left fun x _ => ?_)
        show x = (x.1, x.2 * 1)
        rw [Rat.mul_one]
      · have c2 : ¬ w / tot ls = 1 := fun e => c (by rw [e, Rat.one_mul] at ee; exact ee)
        rw [if_neg c, if_neg c2]
        congr 1
        exact List.map_congr_left fun x _ => by rw [show x.2 * (1 - w / tot ls) = x.2 - x.2 * (w / tot ls) by grind]
    rw [eR] at k
    fail "rd"
    intro B nB
    refine walkL (K := K) (a := l) (xs := xs) (fun i H' => Same H6 H' ∧ ∃ ys : List V, H' B = some (.lst ys) ∧ Lay ca H' ys ((ls.take i).map fun x => (x.1, x.2 * (w / tot ls)))) ⟨same_upd nB, [], upd_same, .nil⟩ (fun i H' _ s => SqL.of (s.1 _ _ (s06 _ _ hl))) ?_ ?_
    · rintro i v H7 hi ⟨s7, ys, hB, hys⟩
      have ci : i < ls.length := by rw [← lx]; exact (List.getElem?_eq_some_iff.mp hi).1
      have gl : ls[i]? = some ls[i] := List.getElem?_eq_getElem ci
      have tk : (ls.take (i + 1)).map (fun x => (x.1, x.2 * (w / tot ls))) = (ls.take i).map (fun x => (x.1, x.2 * (w / tot ls))) ++ [(ls[i].1, ls[i].2 * (w / tot ls))] := by rw [List.take_add_one, gl, List.map_append]; rfl
      obtain ⟨ta, pa, rfl, hta, hpa⟩ := paired_get hx hi gl
      have zx : Zq 4000 ls[i].2 := (zl _ (List.getElem_mem ci)).mono (by omega)
      rw [tk]
      generalize ls[i] = x at hta hpa zx ⊢
      have s07 := s06.trans s7
      have hta1 := s07 _ _ hta
      have ly := hys.length
      rw [List.length_map, List.length_take] at ly
      fail "rd"
      refine o_mul (hpa.same s07) (hsh.same s7).v zx zs4 fun q H8 nq s8 hq => ?_
      fail "rd"
      intro t3 n_t3
      generalize g_H9 : upd _ t3 _ = H9
      obtain ⟨s_H9, e_t3⟩ := gen_new n_t3 g_H9
      clear g_H9
      have hB9 := s_H9 _ _ (s8 _ _ hB)
      refine ⟨ys, hB9, Nat.lt_of_lt_of_le (show ys.length < 5000 by omega) (line_le (by decide)), same_put nB ((s7.trans s8).trans s_H9), ys ++ [V.ref t3], upd_same, ?_⟩
      exact Paired.snoc (Lay.putL ((hys.same s8).same s_H9) hB9 keep_upd) (LR.keep ⟨t3, q, rfl, e_t3, hq.same s_H9⟩ hB9 (fun _ z => nomatch z) (fun _ _ _ z => nomatch z) keep_upd)
    · rintro H7 ⟨s7, ys, hB, hys⟩
      rw [lx, List.take_length] at hys
      have hsh7 := hsh.same s7
      have s07 := s06.trans s7
      obtain ⟨_, hsi⟩ := id hsh7.ins
      fail "rd"
      dsimp only [tCons, tC, tNil]
      refine q_same hsh7 (QV.int (i := 1)) fun H8 s8 => ?_
      have e1 : ((1 : Int) : Rat) = 1 := rfl
      rw [e1]
      have s08 := s07.trans s8
      by_cases c : w / tot ls = 1
      · rw [decide_eq_true c]
        rw [if_pos c] at k
        fail "rd"
        intro C n_C
        generalize g_H9 : upd _ C _ = H9
        obtain ⟨s_H9, e_C⟩ := gen_new n_C g_H9
        clear g_H9
        fail "rd"
        intro t n_t
        generalize g_H10 : upd _ t _ = H10
        obtain ⟨s_H10, e_t⟩ := gen_new n_t g_H10
        clear g_H10
        have s810 := s_H9.trans s_H10
        exact k t H10 (s08.trans s810) ⟨B, C, ys, [], e_t, s06.free nB, s08.free n_C, ne_of_none (s8 _ _ hB) n_C, s810 _ _ (s8 _ _ hB), s_H10 _ _ e_C, hys.same (s8.trans s810), .nil⟩
      · rw [decide_eq_false c]
        rw [if_neg c] at k
        fail "rd"
        intro C nC
        refine walkL (K := K) (a := l) (xs := xs) (fun i H' => Same H8 H' ∧ ∃ zs : List V, H' C = some (.lst zs) ∧ Lay ca H' zs ((ls.take i).map fun x => (x.1, x.2 - x.2 * (w / tot ls)))) ⟨same_upd nC, [], upd_same, .nil⟩ (fun i H' _ s => SqL.of (s.1 _ _ (s08 _ _ hl))) ?_ ?_
        · rintro i v H9 hi ⟨s9, zs, hC, hzs⟩
          have ci : i < ls.length := by rw [← lx]; exact (List.getElem?_eq_some_iff.mp hi).1
          have gl : ls[i]? = some ls[i] := List.getElem?_eq_getElem ci
          have tk : (ls.take (i + 1)).map (fun x => (x.1, x.2 - x.2 * (w / tot ls))) = (ls.take i).map (fun x => (x.1, x.2 - x.2 * (w / tot ls))) ++ [(ls[i].1, ls[i].2 - ls[i].2 * (w / tot ls))] := by rw [List.take_add_one, gl, List.map_append]; rfl
          obtain ⟨ta, pa, rfl, hta, hpa⟩ := paired_get hx hi gl
          have zx : Zq n ls[i].2 := zl _ (List.getElem_mem ci)
          rw [tk]
          generalize ls[i] = x at hta hpa zx ⊢
          have s09 := s08.trans s9
          have hta1 := s09 _ _ hta
          have ly := hzs.length
          rw [List.length_map, List.length_take] at ly
          fail "rd"
          refine o_mul (hpa.same s09) ((hsh7.same s8).same s9).v (zx.mono (by omega)) zs4 fun q H10 nq s10 hq => ?_
          fail "rd"
          refine o_sub ((hpa.same s09).same s10) hq.v (zx.mono (by omega)) ((zx.mul zsh).mono (by omega)) fun q2 H11 nq2 s11 hq2 => ?_
          fail "rd"
          intro t3 n_t3
          generalize g_H12 : upd _ t3 _ = H12
          obtain ⟨s_H12, e_t3⟩ := gen_new n_t3 g_H12
          clear g_H12
          have s912 := (s10.trans s11).trans s_H12
          have hC12 := s912 _ _ hC
          refine ⟨zs, hC12, Nat.lt_of_lt_of_le (show zs.length < 5000 by omega) (line_le (by decide)), same_put nC (s9.trans s912), zs ++ [V.ref t3], upd_same, ?_⟩
          exact Paired.snoc (Lay.putL (hzs.same s912) hC12 keep_upd) (LR.keep (x := (x.1, x.2 - x.2 * (w / tot ls))) ⟨t3, q2, rfl, e_t3, hq2.same s_H12⟩ hC12 (fun _ z => nomatch z) (fun _ _ _ z => nomatch z) keep_upd)
        · rintro H9 ⟨s9, zs, hC, hzs⟩
          rw [lx, List.take_length] at hzs
          fail "rd"
          intro t n_t
          generalize g_H10 : upd _ t _ = H10
          obtain ⟨s_H10, e_t⟩ := gen_new n_t g_H10
          clear g_H10
          have s910 := s9.trans s_H10
          exact k t H10 (s08.trans s910) ⟨B, C, ys, zs, e_t, s06.free nB, s08.free nC, ne_of_none (s8 _ _ hB) nC, s910 _ _ (s8 _ _ hB), s_H10 _ _ hC, hys.same (s8.trans s910), hzs.same s_H10⟩

abbrev s_l_joined : Stmt := top 29
theorem sc_l_joined : FnScope ["_law_layers_here", "_law_found", "_law_lot", "_law_amount_here", "_law_before"] ["_law_layers_here"] (defScope s_l_joined) := ⟨rfl, rfl, rfl, by decide +kernel, rfl, by decide +kernel, by decide +kernel⟩
def sp_l_joined (_ : PySem.W.Frag) (ca : Nat → Addr) : Sp := fun vs H Q _ => ∃ (l : Addr) (xs : List V) (ls : Ls) (n : Nat), vs = [.ref l] ∧ H l = some (.lst xs) ∧ Lay ca H xs ls ∧ ZL n ls ∧ ls.length * (n + 1) + n + 2 ≤ 4000 ∧
  ∀ (p : Addr) (xs' : List V) (H' : Hp), H p = none → Same H H' → H' p = some (.lst xs') → Lay ca H' xs' (joinL ls) → Q (.ref p) H'
theorem ok_l_joined {f : Addr} {fd : FuncData} (F : Fun K "_law_joined" "_law_joined" s_l_joined f fd) (T : Txt K mg ca) (O_Ratio___add__ : OwnM P w K mg base 4 (ca 2) "__add__" ["self", "other"] (sp_Ratio_add K ca)) : FnOk P w K mg base (L2N.CX P w) 5 f fd ["_law_layers_here"] (sp_l_joined K ca) := by
  refine okN F sc_l_joined (fun vs H Q E h => ?_) (fun cdv A outer s H vs Q E hr h => ?_)
  · obtain ⟨_, _, _, _, rfl, _⟩ := h
    rfl
  · obtain ⟨l, xs, ls, n, rfl, hl, hx, zl, sz, k⟩ := h
    refine ⟨_, pss_cons (ps_set (i := 1) sc_l_joined.nd rfl (Or.inl rfl) (pe_lst pa_nil)) (pss_cons (ps_for (passes_of rfl) rfl (pi_list (pv 0)) (pg_tup rfl (pgs_cons (pg_name (i := 2) sc_l_joined.nd rfl (Or.inl rfl)) (pgs_cons (pg_name (i := 3) sc_l_joined.nd rfl (Or.inl rfl)) pgs_nil))) (pss_one (ps_if (pt_mid (PW.pt (pw_and (pt_cmpR (op_neNilL (Room.units0 (hr.mono (Nat.zero_le _)))) (pv 1) (pe_lst pa_nil) (nomark _)) (pw_and1 (pt_cmpR op_eq (pe_ix ix_tup (pe_ix ix_list (pv 1) (pe_un un_neg pe_int) (fun _ _ => rfl)) pe_int (fun _ _ => rfl)) (pv 2) (nomark _)))))) (pss_cons (ps_set (i := 4) sc_l_joined.nd rfl (Or.inl rfl) (pe_bm0 PySem.F.plainAttrs_list PySem.F.slot_list_pop PySem.F.type_list_pop mt_pop (pv 1))) (pss_one (ps_expr (pe_bm PySem.F.plainAttrs_list PySem.F.slot_list_append PySem.F.type_list_append mt_append (pv 1) (pa_cons (pe_tup (pa_cons (pv 2) (pa_cons (pe_op (op_own .add T.ar_Ratio O_Ratio___add__ (hr.mono (by decide)) passN) (pe_ix ix_tup (pv 4) pe_int (fun _ _ => rfl)) (pv 3)) pa_nil))) pa_nil))))) (pss_one (ps_expr (pe_bm PySem.F.plainAttrs_list PySem.F.slot_list_append PySem.F.type_list_append mt_append (pv 1) (pa_cons (pe_tup (pa_cons (pv 2) (pa_cons (pv 3) pa_nil))) pa_nil))))))) (pss_one (ps_ret (pv 1)))), ?_⟩
    have lx := hx.length
    have lm : ls.length ≤ 4000 := by
      have := Nat.le_mul_of_pos_right ls.length (show 0 < n + 1 by omega)
      omega
    fail "rd"
    intro F n_F
    generalize g_H1 : upd _ F _ = H1
    obtain ⟨s_H1, e_F⟩ := gen_new n_F g_H1
    clear g_H1
    fail "rd"
    refine for_list (K := K) (D := ⟨_, _, fun _ _ => True, fun _ _ => True⟩) (a := l) (xs := xs) (fun i σ' H' => ∃ (v2 v3 v4 : Option V) (ys : List V), σ' = [some (.ref l), some (.ref F), v2, v3, v4] ∧ Same H H' ∧ H' F = some (.lst ys) ∧ Lay ca H' ys (joinL (ls.take i))) ⟨_, _, _, [], rfl, s_H1, e_F, .nil⟩ (fun i σ' H' _ ⟨_, _, _, _, _, s, _⟩ => SqL.of (s _ _ hl)) ?_ ?_
    · rintro i v σ' H2 hi ⟨v2, v3, v4, ys, rfl, s2, hF, hys⟩
      have ci : i < ls.length := by rw [← lx]; exact (List.getElem?_eq_some_iff.mp hi).1
      have gl : ls[i]? = some ls[i] := List.getElem?_eq_getElem ci
      have tk : joinL (ls.take (i + 1)) = joinS (joinL (ls.take i)) ls[i] := by rw [List.take_add_one, gl]; exact joinL_snoc
      obtain ⟨ta, pa, rfl, hta, hpa⟩ := paired_get hx hi gl
      have zx : Zq 4000 ls[i].2 := (zl _ (List.getElem_mem ci)).mono (by omega)
      obtain ⟨zj, lj⟩ := joinL_sz (n := n) (ls := ls.take i) fun x mx => zl x (List.mem_of_mem_take mx)
      have lj2 : (ls.take i).length * (n + 1) ≤ ls.length * (n + 1) := Nat.mul_le_mul_right _ (by rw [List.length_take]; omega)
      have lti : (ls.take i).length ≤ ls.length := by rw [List.length_take]; omega
      rw [tk]
      generalize ls[i] = x at hta hpa zx ⊢
      have hta2 := s2 _ _ hta
      have hpa2 := hpa.same s2
      have ly := hys.length
      generalize joinL (ls.take i) = js at hys zj lj ly ⊢
      fail "rd"
      refine ⟨fun c H' => Same H2 H' ∧ (c = true → ∃ y t p ys0, js = js.dropLast ++ [y] ∧ js.getLast? = some y ∧ y.1 = x.1 ∧ ys = ys0 ++ [V.ref t] ∧ Lay ca H2 ys0 js.dropLast ∧ H2 t = some (.tup [.str y.1, .ref p]) ∧ QAt ca H2 p y.2 ∧ Zq 4000 y.2) ∧ (c = false → joinS js x = js ++ [x]), ?_, ?_⟩
      · fail "rd"
        intro e n_e
        generalize g_H3 : upd _ e _ = H3
        obtain ⟨s_H3, e_e⟩ := gen_new n_e g_H3
        clear g_H3
        have hF3 := s_H3 _ _ hF
        refine ⟨F, e, ys, rfl, rfl, hF3, e_e, ?_⟩
        rcases List.eq_nil_or_concat js with rfl | ⟨js0, y, rfl⟩
        · cases hys
          fail "rd"
          exact ⟨s_H3, (fun c => by cases c), fun _ => rfl⟩
        · rw [List.concat_eq_append] at hys ly zj ⊢
          have gl : (js0 ++ [y])[js0.length]? = some y := by simp
          have ci : js0.length < ys.length := by rw [ly, List.length_append]; simp
          have gx : ys[js0.length]? = some ys[js0.length] := List.getElem?_eq_getElem ci
          obtain ⟨tb, pb, et, htb, hpb⟩ := paired_get hys gx gl
          have l1 : ys.length - 1 = js0.length := by rw [ly, List.length_append]; simp
          have exs : ys = ys.dropLast ++ [V.ref tb] := by
            have h0 : ys ≠ [] := fun q => by rw [q] at ci; simp at ci
            have := List.dropLast_concat_getLast h0
            rw [List.getLast_eq_getElem] at this
            rw [← et]
            simp only [l1] at this
            exact this.symm
          have al : atI ys (-1) = some (.ref tb) := by rw [exs]; exact atI_last _ _
          have ne : ys.isEmpty = false := by rw [exs]; simp
          have zy : Zq 4000 y.2 := (zj y (by simp)).mono (by omega)
          have hd0 : Lay ca H2 ys.dropLast js0 := by
            have := hys.take js0.length
            rw [List.dropLast_eq_take, l1]
            simpa using this
          rw [ne]
          have htb3 := s_H3 _ _ htb
          fail "rd"
          refine ⟨_, _, _, _, rfl, rfl, SqL.of hF3, al, ?_⟩
          fail "rd"
          refine ⟨s_H3, fun c => ?_, fun c => ?_⟩
          · have e : y.1 = x.1 := V.str.inj (of_decide_eq_true c)
            refine ⟨y, tb, pb, ys.dropLast, by rw [List.dropLast_concat], by simp, e, exs, by rw [List.dropLast_concat]; exact hd0, htb, hpb, zy⟩
          · have e : y.1 ≠ x.1 := fun q => by rw [q] at c; simp at c
            unfold joinS
            rw [List.getLast?_concat]
            exact if_neg e
      · rintro c H3 ⟨s3, hc, hc2⟩
        have hF3 := s3 _ _ hF
        have hta3 := s3 _ _ hta2
        cases c with
        | false =>
          rw [hc2 rfl]
          fail "rd"
          intro t n_t
          generalize g_H4 : upd _ t _ = H4
          obtain ⟨s_H4, e_t⟩ := gen_new n_t g_H4
          clear g_H4
          have hF4 := s_H4 _ _ hF3
          refine ⟨F, ys, _, rfl, rfl, hF4, Nat.lt_of_lt_of_le (show ys.length < 5000 by omega) (line_le (by decide)), ?_⟩
          exact ⟨_, _, _, ys ++ [V.ref t], rfl, same_put n_F ((s2.trans s3).trans s_H4), upd_same, Paired.snoc (((hys.same s3).same s_H4).putL hF4 keep_upd) (LR.keep ⟨t, pa, rfl, e_t, (hpa2.same s3).same s_H4⟩ hF4 (fun _ z => nomatch z) (fun _ _ _ z => nomatch z) keep_upd)⟩
        | true =>
          obtain ⟨y, t, p, ys0, e1, e2, e3, e4, hd0, ht, hp, zy⟩ := hc rfl
          have eJ : joinS js x = js.dropLast ++ [(x.1, y.2 + x.2)] := by
            unfold joinS
            rw [e2]
            exact if_pos e3
          rw [eJ]
          have ht3 := s3 _ _ ht
          fail "rd"
          refine ⟨F, ys, .ref t, rfl, rfl, hF3, ?_, ?_⟩
          · rw [e4]
            simp
          rw [e4, List.dropLast_concat]
          generalize g_H4 : upd _ F _ = H4
          obtain ⟨k_H4, e_H4⟩ := gen_put g_H4
          clear g_H4
          have ntF : t ≠ F := ne_of ht3 hF3 fun z => nomatch z
          have ht4 := k_H4 _ _ ht3 ntF
          have hta4 := k_H4 _ _ hta3 (ne_of hta3 hF3 fun z => nomatch z)
          have hp4 : QAt ca H4 p y.2 := (hp.same s3).keep hF3 (fun _ _ _ z => nomatch z) k_H4
          have hpa4 : QAt ca H4 pa x.2 := (hpa2.same s3).keep hF3 (fun _ _ _ z => nomatch z) k_H4
          have hd4 : Lay ca H4 ys0 js.dropLast := (hd0.same s3).putL hF3 k_H4
          have s04 : Same H H4 := fun a o e => k_H4 _ _ ((s2.trans s3) _ _ e) (ne_of_none e n_F)
          fail "rd"
          refine o_add hp4 hpa4.v zy zx fun q H5 nq s5 hq => ?_
          fail "rd"
          intro t5 n_t5
          generalize g_H6 : upd _ t5 _ = H6
          obtain ⟨s_H6, e_t5⟩ := gen_new n_t5 g_H6
          clear g_H6
          have hF6 := s_H6 _ _ (s5 _ _ e_H4)
          have ly0 := hd4.length
          rw [List.length_dropLast] at ly0
          refine ⟨F, ys0, _, rfl, rfl, hF6, Nat.lt_of_lt_of_le (show ys0.length < 5000 by omega) (line_le (by decide)), ?_⟩
          exact ⟨_, _, _, ys0 ++ [V.ref t5], rfl, same_put n_F ((s04.trans s5).trans s_H6), upd_same, Paired.snoc (((hd4.same s5).same s_H6).putL hF6 keep_upd) (LR.keep ⟨t5, q, rfl, e_t5, hq.same s_H6⟩ hF6 (fun _ z => nomatch z) (fun _ _ _ z => nomatch z) keep_upd)⟩
    · rintro σ' H2 ⟨v2, v3, v4, ys, rfl, s2, hF, hys⟩
      rw [lx, List.take_length] at hys
      fail "rd"
      exact k F ys H2 n_F s2 hF hys

abbrev s_l_took : Stmt := top 32
theorem sc_l_took : FnScope ["_law_take", "_law_layers_here", "_law_units", "_law_taken", "_law_left"] ["_law_take", "_law_layers_here", "_law_units"] (defScope s_l_took) := ⟨rfl, rfl, rfl, by decide +kernel, rfl, by decide +kernel, by decide +kernel⟩
def sp_l_took (_ : PySem.W.Frag) (ca : Nat → Addr) : Sp := fun vs H Q _ => ∃ (z : Str) (l : Addr) (x : V) (xs : List V) (ls : Ls) (w : Rat) (n m : Nat), vs = [.str z, .ref l, x] ∧ z ∈ (["oldest", "newest", "even"] : List Str) ∧ H l = some (.lst xs) ∧ Lay ca H xs ls ∧ QV ca H x w ∧ (∀ x ∈ ls, 0 < x.2) ∧ NoAdj ls ∧ 0 < w ∧ w ≤ tot ls ∧ ZL n ls ∧ Zq m w ∧ ls.length ≤ 8 ∧ n ≤ 20 ∧ m ≤ 160 ∧
  ∀ (t : Addr) (H' : Hp), Same H H' → Two ca H H' t (takeR z ls w) → Q (.ref t) H'
theorem ok_l_took {f : Addr} {fd : FuncData} (F : Fun K "_law_took" "_law_took" s_l_took f fd) (T : Txt K mg ca) (O__law_first : Own P w K mg base 5 "_law_first" ["_law_parts", "_law_units"] (sp_l_first K ca)) (O__law_part : Own P w K mg base 6 "_law_part" ["_law_parts", "_law_units"] (sp_l_part K ca)) (O__law_joined : Own P w K mg base 5 "_law_joined" ["_law_layers_here"] (sp_l_joined K ca)) : FnOk P w K mg base (L2N.CX P w) 7 f fd ["_law_take", "_law_layers_here", "_law_units"] (sp_l_took K ca) := by
  refine okN F sc_l_took (fun vs H Q E h => ?_) (fun cdv A outer s H vs Q E hr h => ?_)
  · obtain ⟨_, _, _, _, _, _, _, _, rfl, _⟩ := h
    rfl
  · obtain ⟨z, l, x, xs, ls, w, n, m, rfl, mz, hl, hx, hw, pos, na, w0, wt, zl, zw, ll, n30, m200, k⟩ := h
    refine ⟨_, pss_cons (ps_if (pt_cmpR op_eq (pv 0) pe_str (nomark _)) (pss_one (ps_ret (pe_own O__law_part (hr.mono (by decide)) rfl pas0 (pa_cons (pv 1) (pa_cons (pv 2) pa_nil))))) pss_nil) (pss_cons (ps_if (pt_cmpR op_eq (pv 0) pe_str (nomark _)) (pss_cons (ps_asg (pe_own O__law_first (hr.mono (by decide)) rfl pas0 (pa_cons (pv 1) (pa_cons (pv 2) pa_nil))) (pg_tup rfl (pgs_cons (pg_name (i := 3) sc_l_took.nd rfl (Or.inl rfl)) (pgs_cons (pg_name (i := 4) sc_l_took.nd rfl (Or.inl rfl)) pgs_nil)))) (pss_one (ps_ret (pe_tup (pa_cons (pv 3) (pa_cons (pe_own O__law_joined (hr.mono (by decide)) rfl pas0 (pa_cons (pv 4) pa_nil)) pa_nil)))))) pss_nil) (pss_cons (ps_asg (pe_own O__law_first (hr.mono (by decide)) rfl pas0 (pa_cons (pe_revL (pv 1)) (pa_cons (pv 2) pa_nil))) (pg_tup rfl (pgs_cons (pg_name (i := 3) sc_l_took.nd rfl (Or.inl rfl)) (pgs_cons (pg_name (i := 4) sc_l_took.nd rfl (Or.inl rfl)) pgs_nil)))) (pss_one (ps_ret (pe_tup (pa_cons (pv 3) (pa_cons (pe_own O__law_joined (hr.mono (by decide)) rfl pas0 (pa_cons (pe_revL (pv 4)) pa_nil)) pa_nil))))))), ?_⟩
    have szb : ls.length * (n + 1) ≤ 8 * 21 := Nat.mul_le_mul ll (by omega)
    have t0 : tot ls ≠ 0 := by grind
    unfold takeR at k
    fail "rd"
    refine iteD (fun c => ?_) (fun c => ?_)
    · have c : z = "even" := V.str.inj c
      rw [if_neg (by rw [c]; decide +kernel), if_neg (by rw [c]; decide +kernel)] at k
      fail "rd"
      exact ⟨l, x, xs, ls, w, n, m, rfl, hl, hx, hw, t0, zl, zw, by omega, k⟩
    · fail "rd"
      refine iteD (fun c2 => ?_) (fun c2 => ?_)
      · have c2 : z = "oldest" := V.str.inj c2
        rw [if_pos c2] at k
        fail "rd"
        refine ⟨l, x, xs, ls, w, n, m, rfl, hl, hx, hw, pos, by grind, zl, zw, by omega, fun t H1 s1 ht => ?_⟩
        obtain ⟨l1, l2, xs1, xs2, h1, h2, h3, h4, h5, h6, h7, h8⟩ := ht
        obtain ⟨z1, z2⟩ := fst_zq (m := m) zl zw
        have l8 := h8.length
        fail "rd"
        refine ⟨l2, xs2, _, m + ls.length * (n + 1) + n + 1, rfl, h6, h8, z2, ?_, fun p xs' H2 np s2 hp hx' => ?_⟩
        · have lf : (fst1 ls w).2.length ≤ 8 := Nat.le_trans (fst_len ls w).2 ll
          have : (fst1 ls w).2.length * (m + ls.length * (n + 1) + n + 1 + 1) ≤ 8 * 350 := Nat.mul_le_mul lf (by omega)
          omega
        rw [joinL_id (fst_left na)] at hx'
        fail "rd"
        intro t2 n_t2
        generalize g_H3 : upd _ t2 _ = H3
        obtain ⟨s_H3, e_t2⟩ := gen_new n_t2 g_H3
        clear g_H3
        have s13 := s2.trans s_H3
        exact k t2 H3 (s1.trans s13) ⟨l1, p, xs1, xs', e_t2, h2, s1.free np, ne_of_none h5 np, s13 _ _ h5, s_H3 _ _ hp, h7.same s13, hx'.same s_H3⟩
      · have c3 : z = "newest" := by
          rcases List.mem_cons.mp mz with e | mz
          · exact absurd (by rw [e]) c2
          · rcases List.mem_cons.mp mz with e | mz
            · exact e
            · exact absurd (by rw [List.mem_singleton.mp mz]) c
        rw [if_neg fun e => c2 (by rw [e]), if_pos c3] at k
        fail "rd"
        refine ⟨l, xs, rfl, SqL.of hl, ?_⟩
        intro v n_v
        generalize g_H0 : upd _ v _ = H0
        obtain ⟨s_H0, e_v⟩ := gen_new n_v g_H0
        clear g_H0
        have hxr := (hx.same s_H0).rev
        fail "rd"
        refine ⟨v, x, _, ls.reverse, w, n, m, rfl, e_v, hxr, hw.same s_H0, (fun x mx => pos x (List.mem_reverse.mp mx)), by grind, (fun x mx => zl x (List.mem_reverse.mp mx)), zw, by rw [List.length_reverse]; omega, fun t H1 s1 ht => ?_⟩
        obtain ⟨l1, l2, xs1, xs2, h1, h2, h3, h4, h5, h6, h7, h8⟩ := ht
        fail "rd"
        refine ⟨l2, xs2, rfl, SqL.of h6, ?_⟩
        intro v2 n_v2
        generalize g_H2 : upd _ v2 _ = H2
        obtain ⟨s_H2, e_v2⟩ := gen_new n_v2 g_H2
        clear g_H2
        have h8r := (h8.same s_H2).rev
        fail "rd"
        have zlr : ZL n ls.reverse := fun x mx => zl x (List.mem_reverse.mp mx)
        obtain ⟨z1, z2⟩ := fst_zq (m := m) zlr zw
        have lr : ls.reverse.length = ls.length := List.length_reverse
        refine ⟨v2, _, _, m + ls.reverse.length * (n + 1) + n + 1, rfl, e_v2, h8r, (fun x mx => z2 x (List.mem_reverse.mp mx)), ?_, fun p xs' H3 np s3 hp hx' => ?_⟩
        · have lf : (fst1 ls.reverse w).2.reverse.length ≤ 8 := by
            rw [List.length_reverse]
            exact Nat.le_trans (fst_len ls.reverse w).2 (by omega)
          have : (fst1 ls.reverse w).2.reverse.length * (m + ls.reverse.length * (n + 1) + n + 1 + 1) ≤ 8 * 350 := Nat.mul_le_mul lf (by rw [lr]; omega)
          rw [lr] at this ⊢
          omega
        rw [joinL_id (noAdj_rev (fst_left (noAdj_rev na)))] at hx'
        fail "rd"
        intro t2 n_t2
        generalize g_H4 : upd _ t2 _ = H4
        obtain ⟨s_H4, e_t2⟩ := gen_new n_t2 g_H4
        clear g_H4
        have s24 := s3.trans s_H4
        have s14 := s_H2.trans s24
        exact k t2 H4 ((s_H0.trans s1).trans s14) ⟨l1, p, xs1, xs', e_t2, s_H0.free h2, ((s_H0.trans s1).trans s_H2).free np, ne_of_none (s_H2 _ _ h5) np, s14 _ _ h5, s_H4 _ _ hp, h7.same s14, hx'.same s_H4⟩

abbrev s_Short_init : Stmt := inClass (top 6) 0
theorem sc_Short_init : FnScope ["self", "missing"] ["self", "missing"] (defScope s_Short_init) := ⟨rfl, rfl, rfl, by decide +kernel, rfl, by decide +kernel, by decide +kernel⟩
theorem ok_Short_init {f : Addr} {fd : FuncData} (F : Fun K "__init__" "Short.__init__" s_Short_init f fd) (T : Txt K mg ca)  : FnOk P w K mg base (L2N.CX P w) 1 f fd ["self", "missing"] (spErr (ca 10) ["missing"]) := by
  refine okN F sc_Short_init (fun vs H Q E h => ?_) (fun cdv A outer s H vs Q E hr h => ?_)
  · obtain ⟨a, us, rfl, hl, _⟩ := h
    exact congrArg Nat.succ hl
  · obtain ⟨a, us, rfl, hl, ha, k⟩ := h
    obtain ⟨x0, rfl⟩ := list_1 hl
    refine ⟨_, pss_one (ps_ost (pv 0) (pv 1)), ?_⟩
    refine ⟨_, rfl, _, rfl, ?_⟩
    refine err_1 T.ox_Short T.nf_Short_missing ha fun dx H1 nd ne a1 d1 m1 => ?_
    exact k dx _ nd ne a1 d1 fun b o e n => m1 _ _ e n
abbrev s_Ratio_sum_of : Stmt := inClass (top 9) 15
theorem sc_Ratio_sum_of : FnScope ["items", "total", "item"] ["items"] (defScope s_Ratio_sum_of) := ⟨rfl, rfl, rfl, by decide +kernel, rfl, by decide +kernel, by decide +kernel⟩
/-- what sum_of needs: the items are numbers, and all sums on the way are small -/
def sp_Ratio_sum_of (K : PySem.W.Frag) (ca : Nat → Addr) : Sp := fun vs H Q _ => ∃ (l : Addr) (xs : List V) (fs : List (Int × Int)), vs = [.ref l] ∧ SqL K H l xs ∧ xs.length = fs.length ∧ (∀ (i : Nat) (x : V) (f : Int × Int), xs[i]? = some x → fs[i]? = some f → NumQ ca H x f.1 f.2 ∧ Sz 4000 f.1 ∧ Sz 4000 f.2) ∧
  (∀ i, i < fs.length → Sz 4000 (sumQ (0, 1) (fs.take i)).1 ∧ Sz 4000 (sumQ (0, 1) (fs.take i)).2) ∧ ∀ (q : Addr) (H' : Hp), Same H H' → RatQ ca H' q (sumQ (0, 1) fs).1 (sumQ (0, 1) fs).2 → Q (.ref q) H'
theorem ok_Ratio_sum_of {f : Addr} {fd : FuncData} (F : Fun K "sum_of" "Ratio.sum_of" s_Ratio_sum_of f fd) (T : Txt K mg ca) (O_Ratio_2 : OwnI P w K mg base 1 "Ratio" (ca 2) ["self", "top", "bottom"] [] (sp_Ratio_init K ca)) (O_Ratio_1 : OwnI P w K mg base 1 "Ratio" (ca 2) ["self", "top", "bottom"] [.int 1] (sp_Ratio_init K ca)) (O_Ratio___add__ : OwnM P w K mg base 4 (ca 2) "__add__" ["self", "other"] (sp_Ratio_add K ca)) : FnOk P w K mg base (L2N.CX P w) 5 f fd ["items"] (sp_Ratio_sum_of K ca) := by
  refine okN F sc_Ratio_sum_of (fun vs H Q E h => ?_) (fun cdv A outer s H vs Q E hr h => ?_)
  · obtain ⟨_, _, _, rfl, _⟩ := h
    rfl
  · obtain ⟨l, xs, fs, rfl, hl, hlen, hf, hz, k⟩ := h
    refine ⟨_, pss_cons (ps_set (i := 1) sc_Ratio_sum_of.nd rfl (Or.inl rfl) (pe_owni O_Ratio_1 (hr.mono (by decide)) rfl pas0 (pa_cons pe_int pa_nil))) (pss_cons (ps_for (passes_of rfl) rfl (pi_list (pv 0)) (pg_name (i := 2) sc_Ratio_sum_of.nd rfl (Or.inl rfl)) (pss_one (ps_set (i := 1) sc_Ratio_sum_of.nd rfl (Or.inl rfl) (pe_op (op_own .add T.ar_Ratio O_Ratio___add__ (hr.mono (by decide)) passN) (pv 1) (pv 2))))) (pss_one (ps_ret (pv 1)))), ?_⟩
    fail "rd"
    intro t d_t n_t nd_t ne_t
    refine ⟨t, d_t, _, _, rfl, upd_same, (by decide), fun z => absurd z (by decide), fun _ H1 k_t e_t => ⟨rfl, ?_⟩⟩
    have s_H1 := same_made n_t nd_t ne_t k_t
    have R1 : RatQ ca H1 t 0 1 := ⟨by decide, nrm_red (by decide), _, e_t⟩
    fail "rd"
    refine for_list (K := K) (a := l) (xs := xs) (fun i σ' H' => ∃ (p : Addr) (v : Option V), σ' = [some (.ref l), some (.ref p), v] ∧ Same H1 H' ∧ RatQ ca H' p (sumQ (0, 1) (fs.take i)).1 (sumQ (0, 1) (fs.take i)).2) ⟨t, none, rfl, Same.refl _, R1⟩
      (fun i σ' H' _ ⟨_, _, _, s, _⟩ => SqL.same (s_H1.trans s) hl) ?_ ?_
    · rintro i x σ' H' hx ⟨p, v, rfl, sH, R⟩
      have hi : i < fs.length := by
        have := (List.getElem?_eq_some_iff.mp hx).1
        omega
      obtain ⟨n1, z1, z2⟩ := hf i x fs[i] hx (by simp [hi])
      have n1 := n1.same (s_H1.trans sH)
      obtain ⟨z3, z4⟩ := hz i hi
      fail "rd"
      refine rOwn_of R n1 ⟨p, x, _, _, _, _, rfl, R, n1, z3, z4, z1, z2, fun q H2 nq sm hq => ?_⟩
      fail "rd"
      refine ⟨sH.trans sm, ?_⟩
      rw [List.take_succ_eq_append_getElem hi]
      unfold sumQ at hq ⊢
      rw [List.foldl_append]
      exact hq
    · rintro σ' H' ⟨p, v, rfl, sH, R⟩
      fail "rd"
      rw [hlen, List.take_length] at R
      exact k p H' (s_H1.trans sH) R

abbrev s_Ratio_less : Stmt := inClass (top 9) 10
theorem sc_Ratio_less : FnScope ["self", "other", "number"] ["self", "other"] (defScope s_Ratio_less) := ⟨rfl, rfl, rfl, by decide +kernel, rfl, by decide +kernel, by decide +kernel⟩
def sp_Ratio_less (_ : PySem.W.Frag) (ca : Nat → Addr) : Sp := fun vs H Q _ => ∃ (p : Addr) (x : V) (t b t' b' : Int), vs = [.ref p, x] ∧ RatAt ca H p t b ∧ NumV ca H x t' b' ∧ IntMulOk t b' ∧ IntMulOk t' b ∧ ∀ H' : Hp, Same H H' → Q (.bl (decide (t * b' < t' * b))) H'
theorem q_less {K : PySem.W.Frag} {ca : Nat → Addr} {H : Hp} {p : Addr} {x : V} {a b : Rat} {Q : VK} {E : XK} (h : QAt ca H p a) (k : QV ca H x b) (sa : Zq 4000 a) (sb : Zq 4000 b) (c : ∀ H' : Hp, Same H H' → Q (.bl (decide (a < b))) H') : sp_Ratio_less K ca [.ref p, x] H Q E :=
  ⟨p, x, _, _, _, _, rfl, h, k, sa.1.mok sb.2, sb.1.mok sa.2, fun H' s => by rw [decide_eq_decide.mpr rat_lt]; exact c H' s⟩
theorem ok_Ratio_less {f : Addr} {fd : FuncData} (F : Fun K "less" "Ratio.less" s_Ratio_less f fd) (T : Txt K mg ca) (O_as_ratio : Own P w K mg base 3 "as_ratio" ["number"] (sp_as_ratio K ca)) : FnOk P w K mg base (L2N.CX P w) 4 f fd ["self", "other"] (sp_Ratio_less K ca) := by
  refine okN F sc_Ratio_less (fun vs H Q E h => ?_) (fun cdv A outer s H vs Q E hr h => ?_)
  · obtain ⟨_, _, _, _, _, _, rfl, _⟩ := h
    rfl
  · obtain ⟨p, x, t, b, t', b', rfl, hR, hn, m1, m2, k⟩ := h
    refine ⟨_, pss_cons (ps_set (i := 2) sc_Ratio_less.nd rfl (Or.inl rfl) (pe_own O_as_ratio (hr.mono (by decide)) rfl pas0 (pa_cons (pv 1) pa_nil))) (pss_one (ps_ret (pe_cmpR op_lt (pe_op op_mulI (pe_fld (pv 0) rfl) (pe_fld (pv 2) rfl)) (pe_op op_mulI (pe_fld (pv 2) rfl) (pe_fld (pv 0) rfl)) (nomark _)))), ?_⟩
    fail "rd"
    refine ⟨x, t', b', rfl, hn, fun q H1 s1 hq => ?_⟩
    obtain ⟨_, dx, hp⟩ := hR.same s1
    obtain ⟨_, dy, hq⟩ := hq
    fail "rd"
    exact k H1 s1

abbrev s_Ratio_rsub : Stmt := inClass (top 9) 4
theorem sc_Ratio_rsub : FnScope ["self", "other"] ["self", "other"] (defScope s_Ratio_rsub) := ⟨rfl, rfl, rfl, by decide +kernel, rfl, by decide +kernel, by decide +kernel⟩
def sp_Ratio_rsub (_ : PySem.W.Frag) (ca : Nat → Addr) : Sp := fun vs H Q _ => ∃ (p : Addr) (x : V) (a b a' b' : Int), vs = [.ref p, x] ∧ RatQ ca H p a b ∧ NumQ ca H x a' b' ∧ Sz 4000 a ∧ Sz 4000 b ∧ Sz 4000 a' ∧ Sz 4000 b' ∧
  ∀ (q : Addr) (H' : Hp), H q = none → Same H H' → RatQ ca H' q (a' * b - a * b') (b' * b) → Q (.ref q) H'
theorem o_rsub {K : PySem.W.Frag} {ca : Nat → Addr} {H : Hp} {p : Addr} {a : Rat} {Q : VK} {E : XK} {i : Int} (h : QAt ca H p a) (sa : Zq 4000 a) (si : Sz 4000 i) (c : ∀ (q : Addr) (H' : Hp), H q = none → Same H H' → QAt ca H' q ((i : Rat) - a) → Q (.ref q) H') : rRefl (ca 2) (sp_Ratio_rsub K ca) E (.int i) (.ref p) H Q :=
  rRefl_of h.r ⟨p, .int i, _, _, _, _, rfl, h.r, (QV.int (i := i)).n, sa.1, sa.2, (Zq.int si).1, (Zq.int si).2, fun q H' n s r => c q H' n s (.of r id_rsub)⟩
theorem ok_Ratio_rsub {f : Addr} {fd : FuncData} (F : Fun K "__rsub__" "Ratio.__rsub__" s_Ratio_rsub f fd) (T : Txt K mg ca) (O_as_ratio : Own P w K mg base 3 "as_ratio" ["number"] (sp_as_ratio K ca)) (O_Ratio___sub__ : OwnM P w K mg base 4 (ca 2) "__sub__" ["self", "other"] (sp_Ratio_sub K ca)) : FnOk P w K mg base (L2N.CX P w) 5 f fd ["self", "other"] (sp_Ratio_rsub K ca) := by
  refine okN F sc_Ratio_rsub (fun vs H Q E h => ?_) (fun cdv A outer s H vs Q E hr h => ?_)
  · obtain ⟨_, _, _, _, _, _, rfl, _⟩ := h
    rfl
  · obtain ⟨p, x, a, b, a', b', rfl, hR, hn, s1, s2, s3, s4, k⟩ := h
    refine ⟨_, pss_one (ps_ret (pe_op (op_own .sub T.ar_Ratio O_Ratio___sub__ (hr.mono (by decide)) passN) (pe_own O_as_ratio (hr.mono (by decide)) rfl pas0 (pa_cons (pv 1) pa_nil)) (pv 0))), ?_⟩
    fail "rd"
    refine ⟨x, _, _, rfl, hn.num, fun q H1 sm hq => ?_⟩
    have hq : RatQ ca H1 q a' b' := ⟨hn.ne, hq⟩
    have hR := hR.same sm
    fail "rd"
    refine rOwn_of hq hR.num ⟨q, _, a', b', a, b, rfl, hq, hR.num, s3, s4, s1, s2, fun r H2 nr sm2 hr => ?_⟩
    exact k r H2 (sm.free nr) (sm.trans sm2) hr

theorem hot_Ratio_rsub {f : Addr} {fd : FuncData} (F : Fun K "__rsub__" "Ratio.__rsub__" s_Ratio_rsub f fd) (T : Txt K mg ca) (O_as_ratio : OwnH P w K mg base 3 "as_ratio" ["number"] (sp_as_ratio K ca)) (O_Ratio___sub__ : OwnMH P w K mg base 4 (ca 2) "__sub__" ["self", "other"] (sp_Ratio_sub K ca)) : L2H.FnH P w K mg base (L2.CX P w) 5 f fd ["self", "other"] (sp_Ratio_rsub K ca) := by
  refine okH F sc_Ratio_rsub (fun vs H Q E h => ?_) (fun cdv A outer s H vs Q E pn hot hr h => ?_)
  · obtain ⟨_, _, _, _, _, _, rfl, _⟩ := h
    rfl
  · obtain ⟨p, x, a, b, a', b', rfl, hR, hn, s1, s2, s3, s4, k⟩ := h
    refine ⟨_, pss_one (ps_ret (pe_op (op_ownH .sub T.ar_Ratio O_Ratio___sub__ (hr.mono (by decide)) passH) (pe_ownH O_as_ratio (hr.mono (by decide)) rfl pasH (pa_cons (pv 1) pa_nil)) (pv 0))), ?_⟩
    fail "rd"
    refine ⟨x, _, _, rfl, hn.num, fun q H1 sm hq => ?_⟩
    have hq : RatQ ca H1 q a' b' := ⟨hn.ne, hq⟩
    have hR := hR.same sm
    fail "rd"
    refine rOwn_of hq hR.num ⟨q, _, a', b', a, b, rfl, hq, hR.num, s3, s4, s1, s2, fun r H2 nr sm2 hr => ?_⟩
    exact k r H2 (sm.free nr) (sm.trans sm2) hr

abbrev s__even_units : Stmt := top 16
theorem sc__even_units : FnScope ["parts", "units", "total", "share", "rest", "_", "amount", "lot"] ["parts", "units"] (defScope s__even_units) := ⟨rfl, rfl, rfl, by decide +kernel, rfl, by decide +kernel, by decide +kernel⟩
def sp__even_units (_ : PySem.W.Frag) (ca : Nat → Addr) : Sp := fun vs H Q E => ∃ (l p : Addr) (xs : List V) (ls : Ls) (w : Rat) (n m : Nat), vs = [.ref l, .ref p] ∧ H l = some (.lst xs) ∧ Lay ca H xs ls ∧ QAt ca H p w ∧ (∀ x ∈ ls, 0 < x.2) ∧ 0 < w ∧ ZL n ls ∧ Zq m w ∧ m + ls.length * (n + 1) + n + 5 ≤ 4000 ∧
  (tot ls < w → ∀ (d q : Addr) (H' : Hp), Same H H' → H' d = some (.xd [("missing", .ref q)]) → QAt ca H' q (w - tot ls) → E (.ref (ca 10)) (some d) H') ∧
  (w ≤ tot ls → ∀ (t : Addr) (H' : Hp), Same H H' → Two ca H H' t (evn1 ls w) → Q (.ref t) H')
theorem ok__even_units {f : Addr} {fd : FuncData} (F : Fun K "_even_units" "_even_units" s__even_units f fd) (T : Txt K mg ca) (O_Short_init : OwnE P w K mg base "Short" (ca 10) ["missing"]) (O_Ratio_sum_of : OwnS P w K mg base 5 (ca 2) "sum_of" ["items"] (sp_Ratio_sum_of K ca)) (O_Ratio_less : OwnM P w K mg base 4 (ca 2) "less" ["self", "other"] (sp_Ratio_less K ca)) (O_Ratio_same : OwnM P w K mg base 4 (ca 2) "same" ["self", "other"] (sp_Ratio_same K ca)) (O_Ratio_over : OwnM P w K mg base 4 (ca 2) "over" ["self", "other"] (sp_Ratio_over K ca)) (O_Ratio___rsub__ : OwnM P w K mg base 5 (ca 2) "__rsub__" ["self", "other"] (sp_Ratio_rsub K ca)) (O_Ratio___sub__ : OwnM P w K mg base 4 (ca 2) "__sub__" ["self", "other"] (sp_Ratio_sub K ca)) (O_Ratio___mul__ : OwnM P w K mg base 4 (ca 2) "__mul__" ["self", "other"] (sp_Ratio_mul K ca)) : FnOk P w K mg base (L2N.CX P w) 6 f fd ["parts", "units"] (sp__even_units K ca) := by
  refine okN F sc__even_units (fun vs H Q E h => ?_) (fun cdv A outer s H vs Q E hr h => ?_)
  · obtain ⟨_, _, _, _, _, _, _, rfl, _⟩ := h
    rfl
  · obtain ⟨l, p, xs, ls, w, n, m, rfl, hl, hx, hp, pos, w0, zl, zw, sz, kE, k⟩ := h
    refine ⟨_, pss_cons (ps_set (i := 2) sc__even_units.nd rfl (Or.inl rfl) (pe_owns O_Ratio_sum_of (pe_glob (v := .ref (ca 2)) (by rfl) T.g_Ratio rfl) (hr.mono (by decide)) (pasE (L2N.takes_of rfl rfl rfl rfl)) (pa_cons (pe_lc (own := [("_", 5), ("amount", 6)]) (g := gTup K 2 (gCons (gName 5) (gCons (gName 6) gNil))) (tt := tYes) rfl sc__even_units.nd (pi_list (pv 0)) (blkOk_by (N := ["parts", "units", "total", "share", "rest", "_", "amount", "lot"]) (sc := defScope s__even_units) (by decide +kernel)) (fun _ _ _ _ _ => pg_tup rfl (pgs_cons (pg_name (i := 5) sc__even_units.nd rfl (by first | exact Or.inl rfl | exact Or.inr rfl)) (pgs_cons (pg_name (i := 6) sc__even_units.nd rfl (by first | exact Or.inl rfl | exact Or.inr rfl)) pgs_nil))) (fun _ _ _ _ _ => pts_nil) (fun _ _ _ _ _ => pv 6)) pa_nil))) (pss_cons (ps_if (pt_val (pe_ownm O_Ratio_less (pv 2) (hr.mono (by decide)) (pasE (L2N.takes_of rfl rfl rfl rfl)) (pa_cons (pv 1) pa_nil))) (pss_one (ps_raiseE rfl O_Short_init (hr.mono (by decide)) (L2N.takes_of rfl rfl rfl rfl) rfl (pa_cons (pe_op (op_own .sub T.ar_Ratio O_Ratio___sub__ (hr.mono (by decide)) passN) (pv 1) (pv 2)) pa_nil))) pss_nil) (pss_cons (ps_if (pt_val (pe_ownm O_Ratio_same (pv 2) (hr.mono (by decide)) (pasE (L2N.takes_of rfl rfl rfl rfl)) (pa_cons (pv 1) pa_nil))) (pss_one (ps_ret (pe_tup (pa_cons (pe_callTy call_list_of (by rfl) T.b_list (by decide +kernel) (pa_cons (pv 0) pa_nil)) (pa_cons (pe_lst pa_nil) pa_nil))))) pss_nil) (pss_cons (ps_set (i := 3) sc__even_units.nd rfl (Or.inr rfl) (pe_ownm O_Ratio_over (pv 1) (hr.mono (by decide)) (pasE (L2N.takes_of rfl rfl rfl rfl)) (pa_cons (pv 2) pa_nil))) (pss_cons (ps_set (i := 4) sc__even_units.nd rfl (Or.inr rfl) (pe_op (op_refl .sub T.ar_Ratio O_Ratio___rsub__ (hr.mono (by decide)) passN) pe_int (pv 3))) (pss_one (ps_ret (pe_tup (pa_cons (pe_lc (own := [("lot", 7), ("amount", 6)]) (g := gTup K 2 (gCons (gName 7) (gCons (gName 6) gNil))) (tt := tYes) rfl sc__even_units.nd (pi_list (pv 0)) (blkOk_by (N := ["parts", "units", "total", "share", "rest", "_", "amount", "lot"]) (sc := defScope s__even_units) (by decide +kernel)) (fun _ _ _ _ _ => pg_tup rfl (pgs_cons (pg_name (i := 7) sc__even_units.nd rfl (by first | exact Or.inl rfl | exact Or.inr rfl)) (pgs_cons (pg_name (i := 6) sc__even_units.nd rfl (by first | exact Or.inl rfl | exact Or.inr rfl)) pgs_nil))) (fun _ _ _ _ _ => pts_nil) (fun _ _ _ _ _ => pe_tup (pa_cons (pv 7) (pa_cons (pe_op (op_own .mul T.ar_Ratio O_Ratio___mul__ (hr.mono (by decide)) passN) (pv 6) (pv 3)) pa_nil)))) (pa_cons (pe_lc (own := [("lot", 7), ("amount", 6)]) (g := gTup K 2 (gCons (gName 7) (gCons (gName 6) gNil))) (tt := tYes) rfl sc__even_units.nd (pi_list (pv 0)) (blkOk_by (N := ["parts", "units", "total", "share", "rest", "_", "amount", "lot"]) (sc := defScope s__even_units) (by decide +kernel)) (fun _ _ _ _ _ => pg_tup rfl (pgs_cons (pg_name (i := 7) sc__even_units.nd rfl (by first | exact Or.inl rfl | exact Or.inr rfl)) (pgs_cons (pg_name (i := 6) sc__even_units.nd rfl (by first | exact Or.inl rfl | exact Or.inr rfl)) pgs_nil))) (fun _ _ _ _ _ => pts_nil) (fun _ _ _ _ _ => pe_tup (pa_cons (pv 7) (pa_cons (pe_op (op_own .mul T.ar_Ratio O_Ratio___mul__ (hr.mono (by decide)) passN) (pv 6) (pv 4)) pa_nil)))) pa_nil))))))))), ?_⟩
    have lx := hx.length
    have ll : ls.length ≤ 4000 := by
      have := Nat.le_mul_of_pos_right ls.length (show 0 < n + 1 by omega)
      omega
    have zt : Zq (1 + ls.length * (n + 1)) (tot ls) := tot_zq zl
    have z4 : Zq 4000 w := zw.mono (by omega)
    have zt4 : Zq 4000 (tot ls) := zt.mono (by omega)
    fail "rd"
    intro A nA
    refine walkL (K := K) (a := l) (xs := xs) (fun i H' => Same H H' ∧ ∃ ys : List V, H' A = some (.lst ys) ∧ Paired (fun v (x : Str × Rat) => QV ca H v x.2) ys (ls.take i)) ⟨same_upd nA, [], upd_same, .nil⟩ (fun i H' _ s => SqL.of (s.1 _ _ hl)) ?_ ?_
    · rintro i v H1 hi ⟨s1, ys, hA, hys⟩
      have ci : i < ls.length := by rw [← lx]; exact (List.getElem?_eq_some_iff.mp hi).1
      have gl : ls[i]? = some ls[i] := List.getElem?_eq_getElem ci
      have tk : ls.take (i + 1) = ls.take i ++ [ls[i]] := by rw [List.take_add_one, gl]; rfl
      obtain ⟨ta, pa, rfl, hta, hpa⟩ := paired_get hx hi gl
      rw [tk]
      generalize ls[i] = x at hta hpa ⊢
      have hta1 := s1 _ _ hta
      have ly := hys.length
      rw [List.length_take] at ly
      fail "rd"
      refine ⟨ys, hA, Nat.lt_of_lt_of_le (show ys.length < 5000 by omega) (line_le (by decide)), same_put nA s1, ys ++ [V.ref pa], upd_same, Paired.snoc hys hpa.v⟩
    · rintro H1 ⟨s1, ys, hA, hys⟩
      rw [lx, List.take_length] at hys
      have ly := hys.length
      fail "rd"
      have sq := sumQ_tot (ls := ls) (z := (0, 1)) (by decide)
      have ez : Rat.divInt (((0 : Int), (1 : Int)) : Int × Int).1 (((0 : Int), (1 : Int)) : Int × Int).2 + tot ls = tot ls := by
        show Rat.divInt 0 1 + tot ls = tot ls
        rw [Rat.zero_divInt]
        grind
      rw [ez] at sq
      refine ⟨A, ys, ls.map fun x => (x.2.num, (x.2.den : Int)), rfl, SqL.of hA, by rw [List.length_map]; exact ly, fun i v f hv hf => ?_, fun i hi => ?_, fun tq H2 s2 htq => ?_⟩
      · obtain ⟨x, gx, rfl⟩ : ∃ x, ls[i]? = some x ∧ (x.2.num, (x.2.den : Int)) = f := by
          rw [List.getElem?_map] at hf
          exact Option.map_eq_some_iff.mp hf
        have zx : Zq 4000 x.2 := (zl x (List.mem_of_getElem? gx)).mono (by omega)
        exact ⟨((paired_get hys hv gx).same s1).n, zx.1, zx.2⟩
      · rw [← List.map_take]
        have s := sumQ_sz (n := n) (ls := ls.take i) (k := 1) (z := (0, 1)) (fun x mx => zl x (List.mem_of_mem_take mx)) Sz.zero Sz.one
        have : (ls.take i).length * (n + 1) ≤ ls.length * (n + 1) := Nat.mul_le_mul_right _ (by rw [List.length_take]; omega)
        exact ⟨s.1.mono (by omega), s.2.mono (by omega)⟩
      · have htq : QAt ca H2 tq (tot ls) := .of htq sq
        have s02 := s1.trans s2
        have hp2 := hp.same s02
        have hl2 := s02 _ _ hl
        obtain ⟨_, htq2⟩ := id htq.ins
        fail "rd"
        refine q_less htq hp2.v zt4 z4 fun H3 s3 => ?_
        have hp3 := hp2.same s3
        have htq3 := htq.same s3
        have hl3 := s3 _ _ hl2
        have s03 := s02.trans s3
        obtain ⟨_, hpi⟩ := id hp3.ins
        obtain ⟨_, htqi⟩ := id htq3.ins
        by_cases lt : tot ls < w
        · rw [decide_eq_true lt]
          fail "rd"
          refine o_sub hp3 htq3.v z4 zt4 fun q H4 nq s4 hq => ?_
          fail "rd"
          exact err_in rfl (by decide) fun d H5 _ s5 e => kE lt d q H5 ((s03.trans s4).trans s5) e (hq.same s5)
        · rw [decide_eq_false lt]
          have le : w ≤ tot ls := by grind
          have t0 : tot ls ≠ 0 := by grind
          fail "rd"
          refine q_same htq3 hp3.v fun H4 s4 => ?_
          have hp4 := hp3.same s4
          have htq4 := htq3.same s4
          have hl4 := s4 _ _ hl3
          have s04 := s03.trans s4
          have hx4 := hx.same s04
          by_cases eq : tot ls = w
          · rw [decide_eq_true eq]
            have hR : evn1 ls w = (ls, []) := if_pos eq
            fail "rd"
            intro l1 n_l1
            generalize g_H5 : upd _ l1 _ = H5
            obtain ⟨s_H5, e_l1⟩ := gen_new n_l1 g_H5
            clear g_H5
            fail "rd"
            intro l2 n_l2
            generalize g_H6 : upd _ l2 _ = H6
            obtain ⟨s_H6, e_l2⟩ := gen_new n_l2 g_H6
            clear g_H6
            fail "rd"
            intro t n_t
            generalize g_H7 : upd _ t _ = H7
            obtain ⟨s_H7, e_t⟩ := gen_new n_t g_H7
            clear g_H7
            have s47 := (s_H5.trans s_H6).trans s_H7
            exact k le t H7 (s04.trans s47) ⟨l1, l2, xs, [], e_t, s04.free n_l1, (s04.trans s_H5).free n_l2, ne_of_none e_l1 n_l2, s_H7 _ _ (s_H6 _ _ e_l1), s_H7 _ _ e_l2, by rw [hR]; exact hx4.same s47, by rw [hR]; exact .nil⟩
          · rw [decide_eq_false eq]
            have hR : evn1 ls w = (ls.map fun x => (x.1, x.2 * (w / tot ls)), ls.map fun x => (x.1, x.2 * (1 - w / tot ls))) := if_neg eq
            obtain ⟨_, hpi4⟩ := id hp4.ins
            have zsh : Zq (m + (1 + ls.length * (n + 1))) (w / tot ls) := zw.div zt t0
            have zre : Zq (m + (1 + ls.length * (n + 1)) + 2) (1 - w / tot ls) := by
              have := (Zq.int (n := 1) (i := 1) Sz.one).sub zsh
              have e1 : ((1 : Int) : Rat) = 1 := rfl
              rw [e1] at this
              exact this.mono (by omega)
            fail "rd"
            refine q_over hp4 htq4.v z4 zt4 t0 fun sh H5 nsh s5 hsh => ?_
            fail "rd"
            refine o_rsub hsh (zsh.mono (by omega)) (Sz.one.mono (by decide)) fun re H6 nre s6 hre => ?_
            have e1 : ((1 : Int) : Rat) = 1 := rfl
            rw [e1] at hre
            have s46 := s5.trans s6
            have s06 := s04.trans s46
            have hsh6 := hsh.same s6
            fail "rd"
            intro B nB
            refine walkL (K := K) (a := l) (xs := xs) (fun i H' => Same H6 H' ∧ ∃ ys : List V, H' B = some (.lst ys) ∧ Lay ca H' ys ((ls.take i).map fun x => (x.1, x.2 * (w / tot ls)))) ⟨same_upd nB, [], upd_same, .nil⟩ (fun i H' _ s => SqL.of (s.1 _ _ (s06 _ _ hl))) ?_ ?_
            · rintro i v H7 hi ⟨s7, ys, hB, hys⟩
              have ci : i < ls.length := by rw [← lx]; exact (List.getElem?_eq_some_iff.mp hi).1
              have gl : ls[i]? = some ls[i] := List.getElem?_eq_getElem ci
              have tk : (ls.take (i + 1)).map (fun x => (x.1, x.2 * (w / tot ls))) = (ls.take i).map (fun x => (x.1, x.2 * (w / tot ls))) ++ [(ls[i].1, ls[i].2 * (w / tot ls))] := by rw [List.take_add_one, gl, List.map_append]; rfl
              obtain ⟨ta, pa, rfl, hta, hpa⟩ := paired_get hx hi gl
              have zx : Zq 4000 ls[i].2 := (zl _ (List.getElem_mem ci)).mono (by omega)
              rw [tk]
              generalize ls[i] = x at hta hpa zx ⊢
              have s07 := s06.trans s7
              have hta1 := s07 _ _ hta
              have ly := hys.length
              rw [List.length_map, List.length_take] at ly
              fail "rd"
              refine o_mul (hpa.same s07) (hsh6.same s7).v zx (zsh.mono (by omega)) fun q H8 nq s8 hq => ?_
              fail "rd"
              intro t3 n_t3
              generalize g_H9 : upd _ t3 _ = H9
              obtain ⟨s_H9, e_t3⟩ := gen_new n_t3 g_H9
              clear g_H9
              refine ⟨ys, s_H9 _ _ (s8 _ _ hB), Nat.lt_of_lt_of_le (show ys.length < 5000 by omega) (line_le (by decide)), same_put nB ((s7.trans s8).trans s_H9), ys ++ [V.ref t3], upd_same, ?_⟩
              have hB9 := s_H9 _ _ (s8 _ _ hB)
              exact Paired.snoc (Lay.putL ((hys.same s8).same s_H9) hB9 keep_upd) (LR.keep ⟨t3, q, rfl, e_t3, hq.same s_H9⟩ hB9 (fun _ z => nomatch z) (fun _ _ _ z => nomatch z) keep_upd)
            · rintro H7 ⟨s7, ys, hB, hys⟩
              rw [lx, List.take_length] at hys
              fail "rd"
              intro C nC
              refine walkL (K := K) (a := l) (xs := xs) (fun i H' => Same H7 H' ∧ ∃ ys : List V, H' C = some (.lst ys) ∧ Lay ca H' ys ((ls.take i).map fun x => (x.1, x.2 * (1 - w / tot ls)))) ⟨same_upd nC, [], upd_same, .nil⟩ (fun i H' _ s => SqL.of (s.1 _ _ (s7 _ _ (s06 _ _ hl)))) ?_ ?_
              · rintro i v H8 hi ⟨s8, zs, hC, hzs⟩
                have ci : i < ls.length := by rw [← lx]; exact (List.getElem?_eq_some_iff.mp hi).1
                have gl : ls[i]? = some ls[i] := List.getElem?_eq_getElem ci
                have tk : (ls.take (i + 1)).map (fun x => (x.1, x.2 * (1 - w / tot ls))) = (ls.take i).map (fun x => (x.1, x.2 * (1 - w / tot ls))) ++ [(ls[i].1, ls[i].2 * (1 - w / tot ls))] := by rw [List.take_add_one, gl, List.map_append]; rfl
                obtain ⟨ta, pa, rfl, hta, hpa⟩ := paired_get hx hi gl
                have zx : Zq 4000 ls[i].2 := (zl _ (List.getElem_mem ci)).mono (by omega)
                rw [tk]
                generalize ls[i] = x at hta hpa zx ⊢
                have s08 := (s06.trans s7).trans s8
                have hta1 := s08 _ _ hta
                have ly := hzs.length
                rw [List.length_map, List.length_take] at ly
                fail "rd"
                refine o_mul (hpa.same s08) ((hre.same s7).same s8).v zx (zre.mono (by omega)) fun q H9 nq s9 hq => ?_
                fail "rd"
                intro t3 n_t3
                generalize g_H10 : upd _ t3 _ = H10
                obtain ⟨s_H10, e_t3⟩ := gen_new n_t3 g_H10
                clear g_H10
                have hC10 := s_H10 _ _ (s9 _ _ hC)
                refine ⟨zs, hC10, Nat.lt_of_lt_of_le (show zs.length < 5000 by omega) (line_le (by decide)), same_put nC ((s8.trans s9).trans s_H10), zs ++ [V.ref t3], upd_same, ?_⟩
                exact Paired.snoc (Lay.putL ((hzs.same s9).same s_H10) hC10 keep_upd) (LR.keep ⟨t3, q, rfl, e_t3, hq.same s_H10⟩ hC10 (fun _ z => nomatch z) (fun _ _ _ z => nomatch z) keep_upd)
              · rintro H8 ⟨s8, zs, hC, hzs⟩
                rw [lx, List.take_length] at hzs
                fail "rd"
                intro t n_t
                generalize g_H9 : upd _ t _ = H9
                obtain ⟨s_H9, e_t⟩ := gen_new n_t g_H9
                clear g_H9
                have s79 := s8.trans s_H9
                exact k le t H9 ((s06.trans s7).trans s79) ⟨B, C, ys, zs, e_t, s06.free nB, (s06.trans s7).free nC, ne_of_none hB nC, s79 _ _ hB, s_H9 _ _ hC, by rw [hR]; exact hys.same s79, by rw [hR]; exact hzs.same s_H9⟩

abbrev s__first_units : Stmt := top 14
theorem sc__first_units : FnScope ["parts", "units", "wanted", "whole", "lot", "amount"] ["parts", "units"] (defScope s__first_units) := ⟨rfl, rfl, rfl, by decide +kernel, rfl, by decide +kernel, by decide +kernel⟩
def sp__first_units (_ : PySem.W.Frag) (ca : Nat → Addr) : Sp := fun vs H Q E => ∃ (l p : Addr) (xs : List V) (ls : Ls) (w : Rat) (n m : Nat), vs = [.ref l, .ref p] ∧ H l = some (.lst xs) ∧ Lay ca H xs ls ∧ QAt ca H p w ∧ (∀ x ∈ ls, 0 < x.2) ∧ 0 ≤ w ∧ ZL n ls ∧ Zq m w ∧ m + ls.length * (n + 1) + n + 2 ≤ 4000 ∧
  (tot ls < w → ∀ (d q : Addr) (H' : Hp), Same H H' → H' d = some (.xd [("missing", .ref q)]) → QAt ca H' q (w - tot ls) → E (.ref (ca 10)) (some d) H') ∧
  (w ≤ tot ls → ∀ (t : Addr) (H' : Hp), Same H H' → Two ca H H' t (fst1 ls w) → Q (.ref t) H')
theorem ok__first_units {f : Addr} {fd : FuncData} (F : Fun K "_first_units" "_first_units" s__first_units f fd) (T : Txt K mg ca) (O_Short_init : OwnE P w K mg base "Short" (ca 10) ["missing"]) (O_Ratio_at_most : OwnM P w K mg base 4 (ca 2) "at_most" ["self", "other"] (sp_Ratio_at_most K ca)) (O_Ratio___sub__ : OwnM P w K mg base 4 (ca 2) "__sub__" ["self", "other"] (sp_Ratio_sub K ca)) (O_Ratio_same : OwnM P w K mg base 4 (ca 2) "same" ["self", "other"] (sp_Ratio_same K ca)) : FnOk P w K mg base (L2N.CX P w) 5 f fd ["parts", "units"] (sp__first_units K ca) := by
  refine okN F sc__first_units (fun vs H Q E h => ?_) (fun cdv A outer s H vs Q E hr h => ?_)
  · obtain ⟨_, _, _, _, _, _, _, rfl, _⟩ := h
    rfl
  · obtain ⟨l, p, xs, ls, w, n, m, rfl, hl, hx, hp, pos, w0, zl, zw, sz, kE, k⟩ := h
    refine ⟨_, pss_cons (ps_set (i := 2) sc__first_units.nd rfl (Or.inl rfl) (pv 1)) (pss_cons (ps_set (i := 3) sc__first_units.nd rfl (Or.inl rfl) pe_int) (Evl.pss_cut (ps_while (passes_of rfl) (PW.pt (pw_and (pt_cmpR op_lt (pv 3) (pe_callB call_len_seq (by rfl) T.b_len (by decide +kernel) (pa_cons (pv 0) pa_nil)) (nomark _)) (pw_and1 (pt_val (pe_ownm O_Ratio_at_most (pe_ix ix_tup (pe_ix ix_list (pv 0) (pv 3) (fun _ _ => rfl)) pe_int (fun _ _ => rfl)) (hr.mono (by decide)) (pasE (L2N.takes_of rfl rfl rfl rfl)) (pa_cons (pv 2) pa_nil)))))) (pss_cons (ps_set (i := 2) sc__first_units.nd rfl (Or.inl rfl) (pe_op (op_own .sub T.ar_Ratio O_Ratio___sub__ (hr.mono (by decide)) passN) (pv 2) (pe_ix ix_tup (pe_ix ix_list (pv 0) (pv 3) (fun _ _ => rfl)) pe_int (fun _ _ => rfl)))) (pss_one (ps_set (i := 3) sc__first_units.nd rfl (Or.inl rfl) (pe_op op_add (pv 3) pe_int))))) (pss_cons (ps_if (pt_val (pe_ownm O_Ratio_same (pv 2) (hr.mono (by decide)) (pasE (L2N.takes_of rfl rfl rfl rfl)) (pa_cons pe_int pa_nil))) (pss_one (ps_ret (pe_tup (pa_cons (pe_slice sl_list (pv 0) po_none (po_some (pv 3))) (pa_cons (pe_slice sl_list (pv 0) (po_some (pv 3)) po_none) pa_nil))))) pss_nil) (pss_cons (ps_if (pt_cmpR op_eq (pv 3) (pe_callB call_len_seq (by rfl) T.b_len (by decide +kernel) (pa_cons (pv 0) pa_nil)) (nomark _)) (pss_one (ps_raiseE rfl O_Short_init (hr.mono (by decide)) (L2N.takes_of rfl rfl rfl rfl) rfl (pa_cons (pv 2) pa_nil))) pss_nil) (pss_cons (ps_asg (pe_ix ix_list (pv 0) (pv 3) (fun _ _ => rfl)) (pg_tup rfl (pgs_cons (pg_name (i := 4) sc__first_units.nd rfl (Or.inl rfl)) (pgs_cons (pg_name (i := 5) sc__first_units.nd rfl (Or.inl rfl)) pgs_nil)))) (pss_one (ps_ret (pe_tup (pa_cons (pe_op op_cat (pe_slice sl_list (pv 0) po_none (po_some (pv 3))) (pe_lst (pa_cons (pe_tup (pa_cons (pv 4) (pa_cons (pv 2) pa_nil))) pa_nil))) (pa_cons (pe_op op_cat (pe_lst (pa_cons (pe_tup (pa_cons (pv 4) (pa_cons (pe_op (op_own .sub T.ar_Ratio O_Ratio___sub__ (hr.mono (by decide)) passN) (pv 5) (pv 2)) pa_nil))) pa_nil)) (pe_slice sl_list (pv 0) (po_some (pe_op op_add (pv 3) pe_int)) po_none)) pa_nil)))))))))), ?_⟩
    have lx := hx.length
    have ll : ls.length ≤ 4000 := by
      have := Nat.le_mul_of_pos_right ls.length (show 0 < n + 1 by omega)
      omega
    have totp : ∀ i, 0 ≤ tot (ls.drop i) := fun i => tot_nonneg fun x mx => by have := pos x (List.mem_of_mem_drop mx); grind
    have zt : ∀ i, Zq (m + ls.length * (n + 1) + 2) (w - tot (ls.take i)) := fun i => by
      have z1 := tot_zq (n := n) (ls := ls.take i) fun x mx => zl x (List.mem_of_mem_take mx)
      have z2 := zw.sub z1
      refine z2.mono ?_
      have : (ls.take i).length * (n + 1) ≤ ls.length * (n + 1) := Nat.mul_le_mul_right _ (by rw [List.length_take]; omega)
      omega
    fail "rd"
    refine ⟨fun σ2 H2 => ∃ (i : Nat) (pw : Addr), σ2 = [some (.ref l), some (.ref p), some (.ref pw), some (.int (i : Nat)), none, none] ∧ i ≤ ls.length ∧ Same H H2 ∧ QAt ca H2 pw (w - tot (ls.take i)) ∧ 0 ≤ w - tot (ls.take i) ∧ fst1 ls w = (ls.take i ++ (fst1 (ls.drop i) (w - tot (ls.take i))).1, (fst1 (ls.drop i) (w - tot (ls.take i))).2) ∧ (i < ls.length → ∃ x, ls[i]? = some x ∧ w - tot (ls.take i) < x.2), ?_, ?_⟩
    · fail "rd"
      refine ⟨fun k σ' H' => ∃ (i : Nat) (pw : Addr), σ' = [some (.ref l), some (.ref p), some (.ref pw), some (.int (i : Nat)), none, none] ∧ k + i = ls.length ∧ Same H H' ∧ QAt ca H' pw (w - tot (ls.take i)) ∧ 0 ≤ w - tot (ls.take i) ∧ fst1 ls w = (ls.take i ++ (fst1 (ls.drop i) (w - tot (ls.take i))).1, (fst1 (ls.drop i) (w - tot (ls.take i))).2), ⟨ls.length, 0, p, rfl, rfl, Same.refl _, ?_, ?_, ?_⟩, ?_⟩
      · show QAt ca H p (w - 0)
        rw [show w - 0 = w by grind]
        exact hp
      · show 0 ≤ w - 0
        grind
      · show fst1 ls w = (([] : Ls) ++ (fst1 ls (w - 0)).1, (fst1 ls (w - 0)).2)
        rw [show w - 0 = w by grind]
        rfl
      rintro kk σ' H1 ⟨i, pw, rfl, ek, s1, hpw, wi0, hP⟩
      have hl1 := s1 _ _ hl
      have hx1 := hx.same s1
      have li : i ≤ ls.length := by omega
      have zti4 : Zq 4000 (w - tot (ls.take i)) := (zt i).mono (by omega)
      fail "rd"
      refine iteD (fun c => ?_) (fun c => ?_)
      · have ci : i < ls.length := by
          have c2 : (i : Int) < ((xs.length : Nat) : Int) := c
          omega
        have gx : xs[i]? = some xs[i] := List.getElem?_eq_getElem (by omega)
        have gl : ls[i]? = some ls[i] := List.getElem?_eq_getElem ci
        obtain ⟨ta, pa, et, hta, hpa⟩ := paired_get hx1 gx gl
        rw [et] at gx
        generalize hls : ls[i] = x at gl hta hpa
        have zx : Zq 4000 x.2 := (zl x (List.mem_of_getElem? gl)).mono (by omega)
        obtain ⟨dw, hpw1⟩ := id hpw.ins
        obtain ⟨da, hpa1⟩ := id hpa.ins
        fail "rd"
        refine ⟨_, _, _, _, rfl, rfl, SqL.of hl1, atI_nat gx, ?_⟩
        fail "rd"
        refine q_at_most hpa hpw.v zx zti4 fun H2 s2 => ?_
        have hl2 := s2 _ _ hl1
        have hta2 := s2 _ _ hta
        have hpa2 := hpa.same s2
        have hpw2 := hpw.same s2
        by_cases le : x.2 ≤ w - tot (ls.take i)
        · rw [decide_eq_true le]
          fail "rd"
          refine ⟨fun σ' H' => ∃ (pw : Addr), σ' = [some (.ref l), some (.ref p), some (.ref pw), some (.int ((i + 1 : Nat))), none, none] ∧ Same H H' ∧ QAt ca H' pw (w - tot (ls.take (i + 1))) ∧ 0 ≤ w - tot (ls.take (i + 1)) ∧ fst1 ls w = (ls.take (i + 1) ++ (fst1 (ls.drop (i + 1)) (w - tot (ls.take (i + 1)))).1, (fst1 (ls.drop (i + 1)) (w - tot (ls.take (i + 1)))).2), ?_, ?_⟩
          · rintro σ' H' ⟨pw, rfl, a1, a2, a3, a4⟩
            exact ⟨kk - 1, by omega, i + 1, pw, rfl, by omega, a1, a2, a3, a4⟩
          · have ew : w - tot (ls.take (i + 1)) = w - tot (ls.take i) - x.2 := by
              rw [List.take_add_one, gl, tot_app]
              show w - (tot (ls.take i) + tot [x]) = _
              rw [tot_one]
              grind
            have hP2 := fst_step hP gl le
            rw [ew] at hP2
            rw [ew]
            fail "rd"
            refine ⟨_, _, _, _, rfl, rfl, SqL.of hl2, atI_nat gx, ?_⟩
            fail "rd"
            refine o_sub hpw2 hpa2.v zti4 zx fun q H3 nq s3 hq => ?_
            fail "rd"
            exact ⟨(s1.trans s2).trans s3, hq, by grind, hP2⟩
        · rw [decide_eq_false le]
          fail "rd"
          exact ⟨li, s1.trans s2, hpw2, wi0, hP, fun _ => ⟨x, gl, by grind⟩⟩
      · have ci : ¬ i < ls.length := fun h => c (by
          show (i : Int) < ((xs.length : Nat) : Int)
          omega)
        exact ⟨i, pw, rfl, li, s1, hpw, wi0, hP, fun h => absurd h ci⟩
    · rintro σ2 H1 ⟨i, pw, rfl, li, s1, hpw, wi0, hP, hd⟩
      have hl1 := s1 _ _ hl
      have hx1 := hx.same s1
      have zti4 : Zq 4000 (w - tot (ls.take i)) := (zt i).mono (by omega)
      obtain ⟨dw, hpw1⟩ := id hpw.ins
      fail "rd"
      dsimp only [tCons, tC, tNil]
      refine q_same hpw (QV.int (i := 0)) fun H2 s2 => ?_
      have hl2 := s2 _ _ hl1
      have hx2 := hx1.same s2
      have hpw2 := hpw.same s2
      have s02 := s1.trans s2
      have e0 : ((0 : Int) : Rat) = 0 := rfl
      have lz : Nat := 0
      rw [e0]
      by_cases z : w - tot (ls.take i) = 0
      · rw [decide_eq_true z]
        have hR : fst1 ls w = (ls.take i, ls.drop i) := by
          rw [hP, z]
          by_cases ci : i < ls.length
          · obtain ⟨x, gx, lt⟩ := hd ci
            have ed : ls.drop i = x :: ls.drop (i + 1) := by rw [List.drop_eq_getElem_cons ci, (List.getElem?_eq_some_iff.mp gx).2]
            rw [z] at lt
            have e : fst1 (x :: ls.drop (i + 1)) 0 = ([], x :: ls.drop (i + 1)) := (if_neg (by grind)).trans (if_pos rfl)
            rw [ed, e, List.append_nil]
          · have ed : ls.drop i = [] := List.drop_eq_nil_of_le (by omega)
            rw [ed]
            show (ls.take i ++ [], []) = _
            rw [List.append_nil]
        have tl : w ≤ tot ls := by
          have := totp i
          rw [tot_split (ls := ls) i]
          grind
        fail "rd"
        refine ⟨l, xs, rfl, SqL.of hl2, ?_⟩
        intro a1 n_a1
        generalize g_H3 : upd _ a1 _ = H3
        obtain ⟨s_H3, e_a1⟩ := gen_new n_a1 g_H3
        clear g_H3
        rw [cut_to] at e_a1
        have hl3 := s_H3 _ _ hl2
        fail "rd"
        refine ⟨l, xs, rfl, SqL.of hl3, ?_⟩
        intro a2 n_a2
        generalize g_H4 : upd _ a2 _ = H4
        obtain ⟨s_H4, e_a2⟩ := gen_new n_a2 g_H4
        clear g_H4
        rw [cut_from] at e_a2
        fail "rd"
        intro t n_t
        generalize g_H5 : upd _ t _ = H5
        obtain ⟨s_H5, e_t⟩ := gen_new n_t g_H5
        clear g_H5
        have s25 := (s_H3.trans s_H4).trans s_H5
        refine k tl t H5 (s02.trans s25) ⟨a1, a2, _, _, e_t, s02.free n_a1, (s02.trans s_H3).free n_a2, ne_of_none e_a1 n_a2, s_H5 _ _ (s_H4 _ _ e_a1), s_H5 _ _ e_a2, ?_, ?_⟩
        · rw [hR]
          exact (hx2.same s25).take i
        · rw [hR]
          exact (hx2.same s25).drop i
      · rw [decide_eq_false z]
        fail "rd"
        refine iteI (fun c => ?_) (fun c => ?_)
        · have ci : i = ls.length := by omega
          have hpw2 : QAt ca H2 pw (w - tot ls) := by rw [ci, List.take_length] at hpw2; exact hpw2
          have lt : tot ls < w := by
            rw [ci, List.take_length] at wi0 z
            grind
          fail "rd"
          exact err_in rfl (by decide) fun d H3 _ s3 e => kE lt d pw H3 (s02.trans s3) e (hpw2.same s3)
        · have ci : i < ls.length := by omega
          obtain ⟨x, gl, lt⟩ := hd ci
          have gx : xs[i]? = some xs[i] := List.getElem?_eq_getElem (by omega)
          obtain ⟨ta, pa, et, hta, hpa⟩ := paired_get hx2 gx gl
          rw [et] at gx
          have zx : Zq 4000 x.2 := (zl x (List.mem_of_getElem? gl)).mono (by omega)
          have ed : ls.drop i = x :: ls.drop (i + 1) := by rw [List.drop_eq_getElem_cons ci, (List.getElem?_eq_some_iff.mp gl).2]
          have hR : fst1 ls w = (ls.take i ++ [(x.1, w - tot (ls.take i))], (x.1, x.2 - (w - tot (ls.take i))) :: ls.drop (i + 1)) := by
            have e : fst1 (x :: ls.drop (i + 1)) (w - tot (ls.take i)) = ([(x.1, w - tot (ls.take i))], (x.1, x.2 - (w - tot (ls.take i))) :: ls.drop (i + 1)) := (if_neg (by grind)).trans (if_neg z)
            rw [hP, ed, e]
          have tl : w ≤ tot ls := by
            have := totp (i + 1)
            have e2 := tot_split (ls := ls) i
            rw [ed] at e2
            simp only [tot] at e2
            grind
          fail "rd"
          refine ⟨_, _, _, _, rfl, rfl, SqL.of hl2, atI_nat gx, ?_⟩
          fail "rd"
          refine ⟨l, xs, rfl, SqL.of hl2, ?_⟩
          intro a1 n_a1
          generalize g_H3 : upd _ a1 _ = H3
          obtain ⟨s_H3, e_a1⟩ := gen_new n_a1 g_H3
          clear g_H3
          rw [cut_to] at e_a1
          fail "rd"
          intro t1 n_t1
          generalize g_H4 : upd _ t1 _ = H4
          obtain ⟨s_H4, e_t1⟩ := gen_new n_t1 g_H4
          clear g_H4
          fail "rd"
          intro b1 n_b1
          generalize g_H5 : upd _ b1 _ = H5
          obtain ⟨s_H5, e_b1⟩ := gen_new n_b1 g_H5
          clear g_H5
          have e_a1 := s_H5 _ _ (s_H4 _ _ e_a1)
          fail "rd"
          refine ⟨_, _, _, _, rfl, rfl, e_a1, e_b1, Nat.le_trans (show (xs.take i).length + 1 ≤ 5000 by rw [List.length_take]; omega) (line_le (by decide)), ?_⟩
          intro l1 n_l1
          generalize g_H6 : upd _ l1 _ = H6
          obtain ⟨s_H6, e_l1⟩ := gen_new n_l1 g_H6
          clear g_H6
          have s26 := ((s_H3.trans s_H4).trans s_H5).trans s_H6
          have hpa6 := hpa.same s26
          have hpw6 := hpw2.same s26
          fail "rd"
          refine o_sub hpa6 hpw6.v zx zti4 fun q H7 nq s7 hq => ?_
          fail "rd"
          intro t2 n_t2
          generalize g_H8 : upd _ t2 _ = H8
          obtain ⟨s_H8, e_t2⟩ := gen_new n_t2 g_H8
          clear g_H8
          fail "rd"
          intro b2 n_b2
          generalize g_H9 : upd _ b2 _ = H9
          obtain ⟨s_H9, e_b2⟩ := gen_new n_b2 g_H9
          clear g_H9
          have hl9 := s_H9 _ _ (s_H8 _ _ (s7 _ _ (s26 _ _ hl2)))
          have z1 : (i : Int) + 1 = ((i + 1 : Nat) : Int) := by omega
          fail "rd"
          refine ⟨l, xs, rfl, SqL.of hl9, ?_⟩
          intro a2 n_a2
          generalize g_H10 : upd _ a2 _ = H10
          obtain ⟨s_H10, e_a2⟩ := gen_new n_a2 g_H10
          clear g_H10
          rw [z1, cut_from] at e_a2
          have e_b2 := s_H10 _ _ e_b2
          fail "rd"
          refine ⟨_, _, _, _, rfl, rfl, e_b2, e_a2, Nat.le_trans (show 1 + (xs.drop (i + 1)).length ≤ 5000 by rw [List.length_drop]; omega) (line_le (by decide)), ?_⟩
          intro l2 n_l2
          generalize g_H11 : upd _ l2 _ = H11
          obtain ⟨s_H11, e_l2⟩ := gen_new n_l2 g_H11
          clear g_H11
          fail "rd"
          intro t n_t
          generalize g_H12 : upd _ t _ = H12
          obtain ⟨s_H12, e_t⟩ := gen_new n_t g_H12
          clear g_H12
          have s412 := (s_H5.trans s_H6).trans (((s7.trans s_H8).trans s_H9).trans ((s_H10.trans s_H11).trans s_H12))
          have s612 := ((s7.trans s_H8).trans s_H9).trans ((s_H10.trans s_H11).trans s_H12)
          have s812 := s_H9.trans ((s_H10.trans s_H11).trans s_H12)
          have s212 := s26.trans s612
          have f6 : H5 l1 = none := n_l1
          refine k tl t H12 (s02.trans s212) ⟨l1, l2, _, _, e_t, ((s02.trans s_H3).trans s_H4).free (s_H5.free n_l1), (s02.trans (s26.trans ((s7.trans s_H8).trans (s_H9.trans s_H10)))).free n_l2, ne_of_none (s_H10 _ _ (s_H9 _ _ (s_H8 _ _ (s7 _ _ e_l1)))) n_l2, s612 _ _ e_l1, s_H12 _ _ e_l2, ?_, ?_⟩
          · rw [hR]
            exact Paired.snoc ((hx2.same s212).take i) ⟨t1, pw, rfl, s412 _ _ e_t1, hpw2.same s212⟩
          · rw [hR]
            exact .cons ⟨t2, q, rfl, s812 _ _ e_t2, hq.same (s_H8.trans s812)⟩ ((hx2.same s212).drop (i + 1))

abbrev s__last_units : Stmt := top 15
theorem sc__last_units : FnScope ["parts", "units", "taken", "others"] ["parts", "units"] (defScope s__last_units) := ⟨rfl, rfl, rfl, by decide +kernel, rfl, by decide +kernel, by decide +kernel⟩
def sp__last_units (_ : PySem.W.Frag) (ca : Nat → Addr) : Sp := fun vs H Q E => ∃ (l p : Addr) (xs : List V) (ls : Ls) (w : Rat) (n m : Nat), vs = [.ref l, .ref p] ∧ H l = some (.lst xs) ∧ Lay ca H xs ls ∧ QAt ca H p w ∧ (∀ x ∈ ls, 0 < x.2) ∧ 0 ≤ w ∧ ZL n ls ∧ Zq m w ∧ m + ls.length * (n + 1) + n + 2 ≤ 4000 ∧
  (tot ls < w → ∀ (d q : Addr) (H' : Hp), Same H H' → H' d = some (.xd [("missing", .ref q)]) → QAt ca H' q (w - tot ls) → E (.ref (ca 10)) (some d) H') ∧
  (w ≤ tot ls → ∀ (t : Addr) (H' : Hp), Same H H' → Two ca H H' t (lst1 ls w) → Q (.ref t) H')
theorem ok__last_units {f : Addr} {fd : FuncData} (F : Fun K "_last_units" "_last_units" s__last_units f fd) (T : Txt K mg ca) (O__first_units : Own P w K mg base 5 "_first_units" ["parts", "units"] (sp__first_units K ca)) : FnOk P w K mg base (L2N.CX P w) 6 f fd ["parts", "units"] (sp__last_units K ca) := by
  refine okN F sc__last_units (fun vs H Q E h => ?_) (fun cdv A outer s H vs Q E hr h => ?_)
  · obtain ⟨_, _, _, _, _, _, _, rfl, _⟩ := h
    rfl
  · obtain ⟨l, p, xs, ls, w, n, m, rfl, hl, hx, hp, pos, w0, zl, zw, sz, kE, k⟩ := h
    refine ⟨_, pss_cons (ps_asg (pe_own O__first_units (hr.mono (by decide)) rfl (pasE (L2N.takes_of rfl rfl rfl rfl)) (pa_cons (pe_revL (pv 0)) (pa_cons (pv 1) pa_nil))) (pg_tup rfl (pgs_cons (pg_name (i := 2) sc__last_units.nd rfl (Or.inl rfl)) (pgs_cons (pg_name (i := 3) sc__last_units.nd rfl (Or.inl rfl)) pgs_nil)))) (pss_one (ps_ret (pe_tup (pa_cons (pv 2) (pa_cons (pe_revL (pv 3)) pa_nil))))), ?_⟩
    fail "rd"
    refine ⟨l, xs, rfl, SqL.of hl, ?_⟩
    intro v n_v
    generalize g_H1 : upd _ v _ = H1
    obtain ⟨s_H1, e_v⟩ := gen_new n_v g_H1
    clear g_H1
    have hp1 := hp.same s_H1
    have hx1 := (hx.same s_H1).rev
    have lx := hx.length
    have ll : ls.length ≤ 4000 := by
      have := Nat.le_mul_of_pos_right ls.length (show 0 < n + 1 by omega)
      omega
    fail "rd"
    refine ⟨v, p, _, ls.reverse, w, n, m, rfl, e_v, hx1, hp1, (fun x mx => pos x (List.mem_reverse.mp mx)), w0, (fun x mx => zl x (List.mem_reverse.mp mx)), zw, by rw [List.length_reverse]; exact sz, fun lt d q H2 s2 e hq => ?_, fun le t H2 s2 ht => ?_⟩
    · rw [tot_rev] at lt hq
      exact kE lt d q H2 (s_H1.trans s2) e hq
    · rw [tot_rev] at le
      obtain ⟨l1, l2, xs1, xs2, h1, h2, h3, h4, h5, h6, h7, h8⟩ := ht
      have l8 := h8.length
      fail "rd"
      refine ⟨l2, xs2, rfl, SqL.of h6, ?_⟩
      intro o n_o
      generalize g_H3 : upd _ o _ = H3
      obtain ⟨s_H3, e_o⟩ := gen_new n_o g_H3
      clear g_H3
      fail "rd"
      intro t2 n_t2
      generalize g_H4 : upd _ t2 _ = H4
      obtain ⟨s_H4, e_t2⟩ := gen_new n_t2 g_H4
      clear g_H4
      have s24 := s_H3.trans s_H4
      exact k le t2 H4 ((s_H1.trans s2).trans s24) ⟨l1, o, xs1, _, e_t2, s_H1.free h2, (s_H1.trans s2).free n_o, ne_of_none h5 n_o, s24 _ _ h5, s_H4 _ _ e_o, h7.same s24, (h8.same s24).rev⟩

abbrev s_Rule_parted : Stmt := inClass (top 20) 2
theorem sc_Rule_parted : FnScope ["self", "layers", "units", "wanted"] ["self", "layers", "units"] (defScope s_Rule_parted) := ⟨rfl, rfl, rfl, by decide +kernel, rfl, by decide +kernel, by decide +kernel⟩
def sp_Rule_parted (_ : PySem.W.Frag) (ca : Nat → Addr) : Sp := fun vs H Q E => ∃ (r l : Addr) (x : V) (a b : Str) (c : Int) (xs : List V) (ls : Ls) (w : Rat) (n m : Nat), vs = [.ref r, .ref l, x] ∧ RuleAt ca H r a b c ∧ H l = some (.lst xs) ∧ Lay ca H xs ls ∧ QV ca H x w ∧ (∀ x ∈ ls, 0 < x.2) ∧ 0 < w ∧ ZL n ls ∧ Zq m w ∧ m + ls.length * (n + 1) + n + 5 ≤ 4000 ∧
  (tot ls < w → ∀ (d q : Addr) (H' : Hp), Same H H' → H' d = some (.xd [("missing", .ref q)]) → QAt ca H' q (w - tot ls) → E (.ref (ca 10)) (some d) H') ∧
  (w ≤ tot ls → ∀ (t : Addr) (H' : Hp), Same H H' → Two ca H H' t (takeR a ls w) → Q (.ref t) H')
theorem ok_Rule_parted {f : Addr} {fd : FuncData} (F : Fun K "parted" "Rule.parted" s_Rule_parted f fd) (T : Txt K mg ca) (O_as_ratio : Own P w K mg base 3 "as_ratio" ["number"] (sp_as_ratio K ca)) (O__even_units : Own P w K mg base 6 "_even_units" ["parts", "units"] (sp__even_units K ca)) (O__first_units : Own P w K mg base 5 "_first_units" ["parts", "units"] (sp__first_units K ca)) (O__last_units : Own P w K mg base 6 "_last_units" ["parts", "units"] (sp__last_units K ca)) : FnOk P w K mg base (L2N.CX P w) 7 f fd ["self", "layers", "units"] (sp_Rule_parted K ca) := by
  refine okN F sc_Rule_parted (fun vs H Q E h => ?_) (fun cdv A outer s H vs Q E hr h => ?_)
  · obtain ⟨_, _, _, _, _, _, _, _, _, _, _, rfl, _⟩ := h
    rfl
  · obtain ⟨r, l, x, a, b, c, xs, ls, w, n, m, rfl, ⟨dx, hR⟩, hl, hx, hp, pos, w0, zl, zw, sz, kE, k⟩ := h
    refine ⟨_, pss_cons (ps_set (i := 3) sc_Rule_parted.nd rfl (Or.inl rfl) (pe_own O_as_ratio (hr.mono (by decide)) rfl (pasE (L2N.takes_of rfl rfl rfl rfl)) (pa_cons (pv 2) pa_nil))) (pss_cons (ps_if (pt_cmpR op_eq (pe_fld (pv 0) rfl) pe_str (nomark _)) (pss_one (ps_ret (pe_own O__first_units (hr.mono (by decide)) rfl (pasE (L2N.takes_of rfl rfl rfl rfl)) (pa_cons (pv 1) (pa_cons (pv 3) pa_nil))))) pss_nil) (pss_cons (ps_if (pt_cmpR op_eq (pe_fld (pv 0) rfl) pe_str (nomark _)) (pss_one (ps_ret (pe_own O__last_units (hr.mono (by decide)) rfl (pasE (L2N.takes_of rfl rfl rfl rfl)) (pa_cons (pv 1) (pa_cons (pv 3) pa_nil))))) pss_nil) (pss_one (ps_ret (pe_own O__even_units (hr.mono (by decide)) rfl (pasE (L2N.takes_of rfl rfl rfl rfl)) (pa_cons (pv 1) (pa_cons (pv 3) pa_nil))))))), ?_⟩
    have rd0 := rat_red w
    fail "rd"
    refine ⟨x, _, _, rfl, hp, fun p H1 s1 hw => ?_⟩
    have hw : QAt ca H1 p w := hw
    have hR1 := s1 _ _ hR
    have hl1 := s1 _ _ hl
    have hx1 := hx.same s1
    unfold takeR at k
    fail "rd"
    refine iteD (fun z => ?_) (fun z => ?_)
    · rw [if_pos (V.str.inj z)] at k
      fail "rd"
      exact ⟨l, p, xs, ls, w, n, m, rfl, hl1, hx1, hw, pos, by grind, zl, zw, by omega, fun lt d q H' s => kE lt d q H' (s1.trans s), fun le t H' s ht => k le t H' (s1.trans s) (ht.low s1)⟩
    · rw [if_neg fun e => z (by rw [e])] at k
      fail "rd"
      refine iteD (fun z2 => ?_) (fun z2 => ?_)
      · rw [if_pos (V.str.inj z2)] at k
        fail "rd"
        exact ⟨l, p, xs, ls, w, n, m, rfl, hl1, hx1, hw, pos, by grind, zl, zw, by omega, fun lt d q H' s => kE lt d q H' (s1.trans s), fun le t H' s ht => k le t H' (s1.trans s) (ht.low s1)⟩
      · rw [if_neg fun e => z2 (by rw [e])] at k
        fail "rd"
        exact ⟨l, p, xs, ls, w, n, m, rfl, hl1, hx1, hw, pos, w0, zl, zw, sz, fun lt d q H' s => kE lt d q H' (s1.trans s), fun le t H' s ht => k le t H' (s1.trans s) (ht.low s1)⟩

abbrev s_Rule_call : Stmt := inClass (top 20) 1
theorem sc_Rule_call : FnScope ["self", "layers", "units"] ["self", "layers", "units"] (defScope s_Rule_call) := ⟨rfl, rfl, rfl, by decide +kernel, rfl, by decide +kernel, by decide +kernel⟩
def sp_Rule_call (K : PySem.W.Frag) (ca : Nat → Addr) : Sp := sp_Rule_parted K ca
theorem ok_Rule_call {f : Addr} {fd : FuncData} (F : Fun K "__call__" "Rule.__call__" s_Rule_call f fd) (T : Txt K mg ca) (O_Rule_parted : OwnM P w K mg base 7 (ca 24) "parted" ["self", "layers", "units"] (sp_Rule_parted K ca)) : FnOk P w K mg base (L2N.CX P w) 8 f fd ["self", "layers", "units"] (sp_Rule_call K ca) := by
  refine okN F sc_Rule_call (fun vs H Q E h => ?_) (fun cdv A outer s H vs Q E hr h => ?_)
  · obtain ⟨_, _, _, _, _, _, _, _, _, _, _, rfl, _⟩ := h
    rfl
  · obtain ⟨r, l, x, a, b, c, xs, ls, w, n, m, rfl, ⟨dx, hR⟩, h⟩ := h
    refine ⟨_, pss_one (ps_ret (pe_ownm O_Rule_parted (pv 0) (hr.mono (by decide)) (pasE (L2N.takes_of rfl rfl rfl rfl)) (pa_cons (pv 1) (pa_cons (pv 2) pa_nil)))), ?_⟩
    fail "rd"
    exact ⟨r, l, x, a, b, c, xs, ls, w, n, m, rfl, ⟨dx, hR⟩, h⟩

abbrev s_l_short : Stmt := top 37
theorem sc_l_short : FnScope ["_law_rule_here", "_law_layers_here", "_law_units", "e"] ["_law_rule_here", "_law_layers_here", "_law_units"] (defScope s_l_short) := ⟨rfl, rfl, rfl, by decide +kernel, rfl, by decide +kernel, by decide +kernel⟩
def sp_l_short (K : PySem.W.Frag) (ca : Nat → Addr) : Sp := fun vs H Q _ => ∃ (r l : Addr) (x : V) (a b : Str) (c : Int) (xs : List V) (ls : Ls) (w : Rat), vs = [.ref r, .ref l, x] ∧ RuleAt ca H r a b c ∧ H l = some (.lst xs) ∧ Lay ca H xs ls ∧ QV ca H x w ∧ (∀ x ∈ ls, 0 < x.2) ∧ 0 < w ∧ ZL 20 ls ∧ ls.length ≤ 8 ∧ Zq 160 w ∧ tot ls < w ∧
  ∀ H' : Hp, Same H H' → Q (.bl true) H'
theorem ok_l_short {f : Addr} {fd : FuncData} (F : Fun K "_law_short" "_law_short" s_l_short f fd) (T : Txt K mg ca) (O__law_total : Own P w K mg base 5 "_law_total" ["_law_parts"] (sp_l_total K ca)) (O_Rule___call__ : OwnO P w K mg base 8 (ca 24) ["self", "layers", "units"] (sp_Rule_call K ca)) (O_Ratio_same : OwnM P w K mg base 4 (ca 2) "same" ["self", "other"] (sp_Ratio_same K ca)) (O_Ratio___sub__ : OwnM P w K mg base 4 (ca 2) "__sub__" ["self", "other"] (sp_Ratio_sub K ca)) (O_Ratio___rsub__ : OwnM P w K mg base 5 (ca 2) "__rsub__" ["self", "other"] (sp_Ratio_rsub K ca)) (O_Short_init : OwnE P w K mg base "Short" (ca 10) ["missing"]) (H_Ratio_same : OwnMH P w K mg base 4 (ca 2) "same" ["self", "other"] (sp_Ratio_same K ca)) (H_Ratio___sub__ : OwnMH P w K mg base 4 (ca 2) "__sub__" ["self", "other"] (sp_Ratio_sub K ca)) (H_Ratio___rsub__ : OwnMH P w K mg base 5 (ca 2) "__rsub__" ["self", "other"] (sp_Ratio_rsub K ca)) (H__law_total : OwnH P w K mg base 5 "_law_total" ["_law_parts"] (sp_l_total K ca)) : FnOk P w K mg base (L2N.CX P w) 9 f fd ["_law_rule_here", "_law_layers_here", "_law_units"] (sp_l_short K ca) := by
  refine okN F sc_l_short (fun vs H Q E h => ?_) (fun cdv A outer s H vs Q E hr h => ?_)
  · obtain ⟨_, _, _, _, _, _, _, _, _, rfl, _⟩ := h
    rfl
  · obtain ⟨r, l, x, a, b, c, xs, ls, w, rfl, ⟨dx, hR⟩, hl, hx, hw, pos, w0, zl, ll, zw, lt, k⟩ := h
    refine ⟨_, pss_cons (L2N.ps_try_as (i := 3) (Wout := fun _ _ _ _ => False) rfl rfl sc_l_short.nd rfl rfl ⟨rfl, by decide, Or.inl T.g_Short⟩ takesN (fun W pn xe tk _ => pss_one (ps_expr (pe_ownO (i := 0) O_Rule___call__ (hr.mono (by decide)) rfl (.inl rfl) (fun σ => L2N.passAt tk σ) (pa_cons (pv 1) (pa_cons (pv 2) pa_nil))))) (fun a oe cls d pn hzn hf => have hz := hzn.zc; pss_one (ps_ret (pe_and (pe_callB (call_isD T.ec_Short hz hf) (by rfl) T.b_isinstance (by decide +kernel) (pa_cons (pv 3) (pa_cons (pe_glob (v := .ref (ca 0)) (by rfl) T.g_CostError rfl) pa_nil))) (pe_and (pe_callB (r := rIsi K) call_isi (by rfl) T.b_isinstance (by decide +kernel) (pa_cons (pe_xf T.xf_Short T.nf_Short_missing hz hf (pv 3)) (pa_cons (pe_glob (v := .ref (ca 2)) (by rfl) T.g_Ratio rfl) pa_nil))) (pe_one (pe_ownmH H_Ratio_same (pe_xf T.xf_Short T.nf_Short_missing hz hf (pv 3)) (L2H.roomH_mark (hr.mono (by decide)) _) pasH (pa_cons (pe_op (op_eitherR (op_ownH .sub T.ar_Ratio H_Ratio___sub__ (L2H.roomH_mark (hr.mono (by decide)) _) passH (hc := hot_suite (by rfl) (by exact List.mem_cons_self) hzn hf)) (op_reflH .sub T.ar_Ratio H_Ratio___rsub__ (L2H.roomH_mark (hr.mono (by decide)) _) passH (hc := hot_suite (by rfl) (by exact List.mem_cons_self) hzn hf))) (pv 2) (pe_ownH H__law_total (L2H.roomH_mark (hr.mono (by decide)) _) rfl pasH (pa_cons (pv 1) pa_nil) (hc := hot_suite (by rfl) (by exact List.mem_cons_self) hzn hf))) pa_nil) (hc := hot_suite (by rfl) (by exact List.mem_cons_self) hzn hf)))))))) (pss_one (ps_ret pe_bl)), ?_⟩
    fail "rd"
    refine ⟨r, dx, _, rfl, hR, ?_⟩
    fail "rd"
    refine ⟨⟨_, _, hR⟩, r, l, x, a, b, c, xs, ls, w, 20, 160, rfl, ⟨dx, hR⟩, hl, hx, hw, pos, w0, zl, zw, by omega, fun _ d q H1 s1 hd hq => ?_, fun z => absurd lt (Rat.not_lt.mpr z)⟩
    refine ⟨true, T.te_Short, fun _ y hy => ?_, fun q => Bool.noConfusion q⟩
    fail "rd"
    dsimp only [tCons, tC, tNil]
    refine ⟨_, _, true, rfl, rfl, fun x hx => by cases hx; exact ⟨_, hd⟩, fun u r => r, T.ki_Short_CostError, ?_⟩
    fail "rd"
    obtain ⟨dq, hqi⟩ := hq.ins
    dsimp only [tCons, tC, tNil]
    refine ⟨_, _, _, _, _, rfl, .own _, .base (.ins hqi T.cl_Ratio T.ic_Ratio T.in_Ratio T.it_Ratio T.im_Ratio), kit_self, ?_⟩
    fail "rd"
    refine ⟨l, xs, ls, 20, rfl, s1 _ _ hl, hx.same s1, zl, by omega, by omega, fun p H2 s2 hp => ?_⟩
    fail "rd"
    have ztot : Zq 4000 (tot ls) := by
      have m := Nat.mul_le_mul_right 21 ll
      exact (tot_zq zl).mono (by omega)
    have fin : ∀ (g : Addr) (H3 : Hp), Same H2 H3 → QAt ca H3 g (w - tot ls) → sp_Ratio_same K ca [.ref q, .ref g] H3 Q E0 := fun g H3 s3 hg => by
      refine q_same ((hq.same s2).same s3) hg.v fun H4 s4 => ?_
      rw [decide_eq_true rfl]
      exact k H4 (((s1.trans s2).trans s3).trans s4)
    rcases hw with ⟨ex, ed⟩ | ⟨u, ex, hu⟩
    · subst ex
      have ew : ((w.num : Int) : Rat) = w := Rat.ext (by rw [Rat.num_intCast]) (by rw [Rat.den_intCast]; omega)
      refine .inr (o_rsub hp ztot (zw.1.mono (by decide)) fun g H3 _ s3 hg => ?_)
      rw [ew] at hg
      exact fin g H3 s3 hg
    · subst ex
      have hu : QAt ca H u w := hu
      exact .inl (o_sub ((hu.same s1).same s2) hp.v (zw.mono (by decide)) ztot fun g H3 _ s3 hg => fin g H3 s3 hg)

abbrev s_l_parts_same : Stmt := top 33
theorem sc_l_parts_same : FnScope ["_law_told", "_law_due", "_law_part_here", "_law_k"] ["_law_told", "_law_due"] (defScope s_l_parts_same) := ⟨rfl, rfl, rfl, by decide +kernel, rfl, by decide +kernel, by decide +kernel⟩
def sp_l_parts_same (_ : PySem.W.Frag) (ca : Nat → Addr) : Sp := fun vs H Q _ => ∃ (l d : Addr) (xs ys : List V) (ls : Ls), vs = [.ref l, .ref d] ∧ H l = some (.lst xs) ∧ H d = some (.lst ys) ∧ Lay ca H xs ls ∧ Lay ca H ys ls ∧ ls.length ≤ 1000 ∧ (∀ x ∈ ls, PyData.strOk x.1 = true) ∧ ∀ H' : Hp, Same H H' → Q (.bl true) H'
theorem ok_l_parts_same {f : Addr} {fd : FuncData} (F : Fun K "_law_parts_same" "_law_parts_same" s_l_parts_same f fd) (T : Txt K mg ca) (O_Ratio_same : OwnM P w K mg base 4 (ca 2) "same" ["self", "other"] (sp_Ratio_same K ca)) : FnOk P w K mg base (L2N.CX P w) 5 f fd ["_law_told", "_law_due"] (sp_l_parts_same K ca) := by
  refine okN F sc_l_parts_same (fun vs H Q E h => ?_) (fun cdv A outer s H vs Q E hr h => ?_)
  · obtain ⟨_, _, _, _, _, rfl, _⟩ := h
    rfl
  · obtain ⟨l, d, xs, ys, ls, rfl, hl, hd, hx, hy, ll, ok, k⟩ := h
    refine ⟨_, pss_cons (ps_if (pt_not (pt_val (pe_callB (cr_all rfl) (by rfl) T.b_all (by decide +kernel) (pa_cons (pe_lc (own := [("_law_part_here", 2)]) (g := gName 2) (tt := tYes) rfl sc_l_parts_same.nd (pi_list (pv 0)) (blkOk_by (N := ["_law_told", "_law_due", "_law_part_here", "_law_k"]) (sc := defScope s_l_parts_same) (by decide +kernel)) (fun _ _ _ _ _ => pg_name (i := 2) sc_l_parts_same.nd rfl (by first | exact Or.inl rfl | exact Or.inr rfl)) (fun _ _ _ _ _ => pts_nil) (fun _ _ _ _ _ => pe_and (pe_callB (r := rIsi K) call_isi (by rfl) T.b_isinstance (by decide +kernel) (pa_cons (pv 2) (pa_cons (pe_bltn (v := .ty "tuple") (by rfl) T.b_tuple (by decide +kernel) rfl) pa_nil))) (pe_one (pe_cmpR op_eq (pe_callB (r := rLenSeq K) call_len_seq (by rfl) T.b_len (by decide +kernel) (pa_cons (pv 2) pa_nil)) pe_int (nomark _))))) pa_nil)))) (pss_one (ps_ret pe_bl)) pss_nil) (pss_cons (ps_if (pt_cmpR (op_neD (Room.units (hr.mono (Nat.zero_le _)))) (pe_lc (own := [("_law_part_here", 2)]) (g := gName 2) (tt := tYes) rfl sc_l_parts_same.nd (pi_list (pv 0)) (blkOk_by (N := ["_law_told", "_law_due", "_law_part_here", "_law_k"]) (sc := defScope s_l_parts_same) (by decide +kernel)) (fun _ _ _ _ _ => pg_name (i := 2) sc_l_parts_same.nd rfl (by first | exact Or.inl rfl | exact Or.inr rfl)) (fun _ _ _ _ _ => pts_nil) (fun _ _ _ _ _ => pe_ix (r := rIxT K) ix_tup (pv 2) pe_int (fun _ _ => rfl))) (pe_lc (own := [("_law_part_here", 2)]) (g := gName 2) (tt := tYes) rfl sc_l_parts_same.nd (pi_list (pv 1)) (blkOk_by (N := ["_law_told", "_law_due", "_law_part_here", "_law_k"]) (sc := defScope s_l_parts_same) (by decide +kernel)) (fun _ _ _ _ _ => pg_name (i := 2) sc_l_parts_same.nd rfl (by first | exact Or.inl rfl | exact Or.inr rfl)) (fun _ _ _ _ _ => pts_nil) (fun _ _ _ _ _ => pe_ix (r := rIxT K) ix_tup (pv 2) pe_int (fun _ _ => rfl))) (nomark _)) (pss_one (ps_ret pe_bl)) pss_nil) (pss_one (ps_ret (pe_callB (cr_all rfl) (by rfl) T.b_all (by decide +kernel) (pa_cons (pe_lc (own := [("_law_k", 3)]) (g := gName 3) (tt := tYes) rfl sc_l_parts_same.nd (pi_range1 rfl T.b_range (pa_cons (pe_callB call_len_seq (by rfl) T.b_len (by decide +kernel) (pa_cons (pv 1) pa_nil)) pa_nil)) (blkOk_by (N := ["_law_told", "_law_due", "_law_part_here", "_law_k"]) (sc := defScope s_l_parts_same) (by decide +kernel)) (fun _ _ _ _ _ => pg_name (i := 3) sc_l_parts_same.nd rfl (by first | exact Or.inl rfl | exact Or.inr rfl)) (fun _ _ _ _ _ => pts_nil) (fun _ _ _ _ _ => pe_ownm O_Ratio_same (pe_ix (r := rIxT K) ix_tup (pe_ix (r := rIxL K) ix_list (pv 0) (pv 3) (fun _ _ => rfl)) pe_int (fun _ _ => rfl)) (hr.mono (by decide)) pas0 (pa_cons (pe_ix (r := rIxT K) ix_tup (pe_ix (r := rIxL K) ix_list (pv 1) (pv 3) (fun _ _ => rfl)) pe_int (fun _ _ => rfl)) pa_nil))) pa_nil))))), ?_⟩
    have lx := hx.length
    have ly := hy.length
    have e62 : (2 : Int) ^ 62 = 4611686018427387904 := by decide
    fail "rd"
    intro A nA
    refine walkL (K := K) (a := l) (xs := xs) (fun i H' => Same H H' ∧ H' A = some (.lst ((List.replicate i true).map V.bl))) ⟨same_upd nA, upd_same⟩ (fun i H' _ s => SqL.of (s.1 _ _ hl)) ?_ ?_
    · rintro i v H1 hi ⟨s1, hA⟩
      have ci : i < ls.length := by rw [← lx]; exact (List.getElem?_eq_some_iff.mp hi).1
      have gl : ls[i]? = some ls[i] := List.getElem?_eq_getElem ci
      obtain ⟨ta, pa, rfl, hta, hpa⟩ := paired_get hx hi gl
      have hta1 := s1 _ _ hta
      fail "rd"
      dsimp only [tCons, tC, tNil]
      refine ⟨_, _, _, _, true, rfl, .ty "tuple", .base (.tup hta1), kit_ty (by decide +kernel), ?_⟩
      fail "rd"
      refine ⟨ta, _, rfl, .inr (SqT.of hta1), ?_⟩
      fail "rd"
      refine ⟨_, hA, Nat.lt_of_lt_of_le (show ((List.replicate i true).map V.bl).length < 5000 by rw [List.length_map, List.length_replicate]; omega) (line_le (by decide)), same_put nA s1, ?_⟩
      rw [upd_same, List.replicate_succ', List.map_append]
      rfl
    · rintro H1 ⟨s1, hA⟩
      have all1 : ∀ j, (List.replicate j true).all id = true := fun j => by
        rw [List.all_eq_true]
        intro b m
        rw [List.eq_of_mem_replicate m]
        rfl
      fail "rd"
      refine ⟨A, List.replicate xs.length true, rfl, SqL.of hA, ?_⟩
      rw [all1]
      fail "rd"
      intro B nB
      refine walkL (K := K) (a := l) (xs := xs) (fun i H' => Same H1 H' ∧ H' B = some (.lst (((ls.take i).map (·.1)).map V.str))) ⟨same_upd nB, upd_same⟩ (fun i H' _ s => SqL.of (s.1 _ _ (s1 _ _ hl))) ?_ ?_
      · rintro i v H2 hi ⟨s2, hB⟩
        have ci : i < ls.length := by rw [← lx]; exact (List.getElem?_eq_some_iff.mp hi).1
        have gl : ls[i]? = some ls[i] := List.getElem?_eq_getElem ci
        have tk : ls.take (i + 1) = ls.take i ++ [ls[i]] := by rw [List.take_add_one, gl]; rfl
        obtain ⟨ta, pa, rfl, hta, hpa⟩ := paired_get hx hi gl
        have hta1 := (s1.trans s2) _ _ hta
        rw [tk]
        generalize ls[i] = x at hta1 ⊢
        fail "rd"
        exact ⟨_, hB, Nat.lt_of_lt_of_le (show (((ls.take i).map (·.1)).map V.str).length < 5000 by rw [List.length_map, List.length_map, List.length_take]; omega) (line_le (by decide)), same_put nB s2, by rw [upd_same, List.map_append, List.map_append]; rfl⟩
      · rintro H2 ⟨s2, hB⟩
        rw [lx, List.take_length] at hB
        have s12 := s1.trans s2
        fail "rd"
        intro C nC
        refine walkL (K := K) (a := d) (xs := ys) (fun i H' => Same H2 H' ∧ H' C = some (.lst (((ls.take i).map (·.1)).map V.str))) ⟨same_upd nC, upd_same⟩ (fun i H' _ s => SqL.of (s.1 _ _ (s12 _ _ hd))) ?_ ?_
        · rintro i v H3 hi ⟨s3, hC⟩
          have ci : i < ls.length := by rw [← ly]; exact (List.getElem?_eq_some_iff.mp hi).1
          have gl : ls[i]? = some ls[i] := List.getElem?_eq_getElem ci
          have tk : ls.take (i + 1) = ls.take i ++ [ls[i]] := by rw [List.take_add_one, gl]; rfl
          obtain ⟨ta, pa, rfl, hta, hpa⟩ := paired_get hy hi gl
          have hta1 := (s12.trans s3) _ _ hta
          rw [tk]
          generalize ls[i] = x at hta1 ⊢
          fail "rd"
          exact ⟨_, hC, Nat.lt_of_lt_of_le (show (((ls.take i).map (·.1)).map V.str).length < 5000 by rw [List.length_map, List.length_map, List.length_take]; omega) (line_le (by decide)), same_put nC s3, by rw [upd_same, List.map_append, List.map_append]; rfl⟩
        · rintro H3 ⟨s3, hC⟩
          rw [ly, List.take_length] at hC
          have s13 := s12.trans s3
          have ok2 : ∀ z ∈ ls.map (·.1), PyData.strOk z = true := fun z m => by
            obtain ⟨x, mx, rfl⟩ := List.mem_map.mp m
            exact ok x mx
          have dA : DaAll K H3 ((ls.map (·.1)).map V.str) ((ls.map (·.1)).map PyData.str) 1 := DaAll.strs ok2
          refine Da.ne (Da.lst dA (SqL.of (s3 _ _ hB))) (Da.lst dA (SqL.of hC)) ?_
          fail "rd"
          rw [ly]
          refine ⟨by omega, by omega, fun D nD => ?_⟩
          refine lc_range (lo := 0) (n := ls.length) (fun i H' => Same H3 H' ∧ H' D = some (.lst ((List.replicate i true).map V.bl))) ⟨same_upd nD, upd_same⟩ ?_ ?_
          · rintro i H4 ci ⟨s4, hD⟩
            have z0 : (0 : Int) + (i : Int) = (i : Int) := Int.zero_add _
            rw [z0]
            have gl : ls[i]? = some ls[i] := List.getElem?_eq_getElem ci
            have gx : xs[i]? = some xs[i] := List.getElem?_eq_getElem (by omega)
            have gy : ys[i]? = some ys[i] := List.getElem?_eq_getElem (by omega)
            obtain ⟨ta, pa, ea, hta, hpa⟩ := paired_get hx gx gl
            obtain ⟨tb, pb, eb, htb, hpb⟩ := paired_get hy gy gl
            rw [ea] at gx
            rw [eb] at gy
            have s04 := s13.trans s4
            have hta4 := s04 _ _ hta
            have htb4 := s04 _ _ htb
            have hpa4 := hpa.same s04
            obtain ⟨_, hpi⟩ := id hpa4.ins
            fail "rd"
            refine ⟨_, _, _, _, rfl, rfl, SqL.of (s04 _ _ hl), atI_nat gx, ?_⟩
            fail "rd"
            refine ⟨_, _, _, _, rfl, rfl, SqL.of (s04 _ _ hd), atI_nat gy, ?_⟩
            fail "rd"
            refine q_same hpa4 (hpb.same s04).v fun H5 s5 => ?_
            rw [decide_eq_true rfl]
            refine ⟨_, s5 _ _ hD, Nat.lt_of_lt_of_le (show ((List.replicate i true).map V.bl).length < 5000 by rw [List.length_map, List.length_replicate]; omega) (line_le (by decide)), same_put nD (s4.trans s5), ?_⟩
            rw [upd_same, List.replicate_succ', List.map_append]
            rfl
          · rintro H4 ⟨s4, hD⟩
            fail "rd"
            refine ⟨D, List.replicate ls.length true, rfl, SqL.of hD, ?_⟩
            rw [all1]
            exact k H4 (s13.trans s4)

abbrev s_law : Stmt := top 38
theorem sc_law : FnScope ["_law_script", "_law_bag_here", "_law_rule_here", "_law_lots", "_law_layers_here", "_law_units", "_law_made_here", "_law_handed", "_law_due", "_law_turn", "_law_told", "_law_taken", "_law_left", "_law_other", "_law_second"] ["_law_script"] (defScope s_law) := ⟨rfl, rfl, rfl, by decide +kernel, rfl, by decide +kernel, by decide +kernel⟩
theorem ok_law {f : Addr} {fd : FuncData} (F : Fun K "law" "law" s_law f fd) (T : Txt K mg ca) (O__law_bag : Own P w K mg base 1 "_law_bag" ["_law_script"] (sp_l_bag K ca)) (O__law_rule : Own P w K mg base 2 "_law_rule" ["_law_bag_here"] (sp_l_rule K ca)) (O__law_names : Own P w K mg base 2 "_law_names" ["_law_bag_here", "_law_count", "_law_words"] (sp_l_names K ca)) (O__law_layers : Own P w K mg base 4 "_law_layers" ["_law_bag_here", "_law_lots", "_law_most"] (sp_l_layers K ca)) (O__law_wanted : Own P w K mg base 6 "_law_wanted" ["_law_bag_here", "_law_layers_here"] (sp_l_wanted K ca)) (O__law_made : Own P w K mg base 5 "_law_made" ["_law_rule_here"] (sp_l_made K ca)) (O__law_took : Own P w K mg base 7 "_law_took" ["_law_take", "_law_layers_here", "_law_units"] (sp_l_took K ca)) (O__law_total : Own P w K mg base 5 "_law_total" ["_law_parts"] (sp_l_total K ca)) (O__law_short : Own P w K mg base 9 "_law_short" ["_law_rule_here", "_law_layers_here", "_law_units"] (sp_l_short K ca)) (O__law_parts_same : Own P w K mg base 5 "_law_parts_same" ["_law_told", "_law_due"] (sp_l_parts_same K ca)) (O_Ratio_2 : OwnI P w K mg base 1 "Ratio" (ca 2) ["self", "top", "bottom"] [] (sp_Ratio_init K ca)) (O_Ratio_1 : OwnI P w K mg base 1 "Ratio" (ca 2) ["self", "top", "bottom"] [.int 1] (sp_Ratio_init K ca)) (O_Rule___call__ : OwnO P w K mg base 8 (ca 24) ["self", "layers", "units"] (sp_Rule_call K ca)) (O_Ratio_less : OwnM P w K mg base 4 (ca 2) "less" ["self", "other"] (sp_Ratio_less K ca)) (O_Ratio_same : OwnM P w K mg base 4 (ca 2) "same" ["self", "other"] (sp_Ratio_same K ca)) (O_Ratio___add__ : OwnM P w K mg base 4 (ca 2) "__add__" ["self", "other"] (sp_Ratio_add K ca)) : FnOk P w K mg base (L2N.CX P w) 10 f fd ["_law_script"] (sp_law K ca) := by
  refine okN F sc_law (fun vs H Q E h => ?_) (fun cdv A outer s H vs Q E hr h => ?_)
  · obtain ⟨_, _, rfl, _⟩ := h
    rfl
  · obtain ⟨s0, ns, rfl, hs, k⟩ := h
    refine ⟨_, pss_cons (ps_set (i := 1) sc_law.nd rfl (Or.inl rfl) (pe_own O__law_bag (hr.mono (by decide)) rfl pas0 (pa_cons (pv 0) pa_nil))) (pss_cons (ps_set (i := 2) sc_law.nd rfl (Or.inl rfl) (pe_own O__law_rule (hr.mono (by decide)) rfl pas0 (pa_cons (pv 1) pa_nil))) (pss_cons (ps_set (i := 3) sc_law.nd rfl (Or.inl rfl) (pe_own O__law_names (hr.mono (by decide)) rfl pas0 (pa_cons (pv 1) (pa_cons pe_int (pa_cons (pe_lst (pa_cons pe_str (pa_cons pe_str (pa_cons pe_str pa_nil)))) pa_nil))))) (pss_cons (ps_set (i := 4) sc_law.nd rfl (Or.inl rfl) (pe_own O__law_layers (hr.mono (by decide)) rfl pas0 (pa_cons (pv 1) (pa_cons (pv 3) (pa_cons pe_int pa_nil))))) (pss_cons (ps_set (i := 5) sc_law.nd rfl (Or.inl rfl) (pe_own O__law_wanted (hr.mono (by decide)) rfl pas0 (pa_cons (pv 1) (pa_cons (pv 4) pa_nil)))) (pss_cons (ps_set (i := 6) sc_law.nd rfl (Or.inl rfl) (pe_own O__law_made (hr.mono (by decide)) rfl pas0 (pa_cons (pv 2) pa_nil))) (pss_cons (ps_set (i := 7) sc_law.nd rfl (Or.inl rfl) (pe_callTy call_list_of (by rfl) T.b_list (by decide +kernel) (pa_cons (pv 4) pa_nil))) (Evl.pss_cut (ps_if (pt_val (pe_ownm O_Ratio_less (pe_own O__law_total (hr.mono (by decide)) rfl pas0 (pa_cons (pv 4) pa_nil)) (hr.mono (by decide)) pas0 (pa_cons (pv 5) pa_nil))) (pss_cons (ps_if (PW.pt (pw_or (pt_not (pt_val (pe_own O__law_short (hr.mono (by decide)) rfl pas0 (pa_cons (pv 6) (pa_cons (pv 7) (pa_cons (pv 5) pa_nil)))))) (pw_or (pt_not (pt_val (pe_own O__law_short (hr.mono (by decide)) rfl pas0 (pa_cons (pv 6) (pa_cons (pv 7) (pa_cons (pv 5) pa_nil)))))) (pw_or1 (pt_cmpR (op_neSame (Room.units0 (hr.mono (Nat.zero_le _)))) (pv 7) (pv 4) (nomark _)))))) (pss_one (ps_ret pe_bl)) pss_nil) (pss_cons (ps_if (pt_cmpR (op_eqNilL (Room.units0 (hr.mono (Nat.zero_le _)))) (pv 4) (pe_lst pa_nil) (nomark _)) (pss_one (ps_ret pe_bl)) pss_nil) (pss_one (ps_set (i := 5) sc_law.nd rfl (Or.inl rfl) (pe_own O__law_total (hr.mono (by decide)) rfl pas0 (pa_cons (pv 4) pa_nil)))))) pss_nil) (pss_cons (ps_set (i := 8) sc_law.nd rfl (Or.inl rfl) (pe_own O__law_took (hr.mono (by decide)) rfl pas0 (pa_cons (pe_ix ix_tup (pv 2) pe_int (fun _ _ => rfl)) (pa_cons (pv 4) (pa_cons (pv 5) pa_nil))))) (pss_cons (ps_for (passes_of rfl) rfl (pi_range1 rfl T.b_range (pa_cons pe_int pa_nil)) (pg_name (i := 9) sc_law.nd rfl (Or.inl rfl)) (pss_cons (ps_set (i := 10) sc_law.nd rfl (Or.inl rfl) (pe_ownO (i := 6) O_Rule___call__ (hr.mono (by decide)) rfl (.inl rfl) pas0 (pa_cons (pv 7) (pa_cons (pv 5) pa_nil)))) (pss_cons (ps_if (PW.pt (pw_or (pt_not (pt_val (pe_callB call_isi (by rfl) T.b_isinstance (by decide +kernel) (pa_cons (pv 10) (pa_cons (pe_bltn (v := .ty "tuple") (by rfl) T.b_tuple (by decide +kernel) rfl) pa_nil))))) (pw_or (pt_cmpR op_ne (pe_callB call_len_seq (by rfl) T.b_len (by decide +kernel) (pa_cons (pv 10) pa_nil)) pe_int (nomark _)) (pw_or1 (pt_cmpR (op_neSame (Room.units0 (hr.mono (Nat.zero_le _)))) (pv 7) (pv 4) (nomark _)))))) (pss_one (ps_ret pe_bl)) pss_nil) (pss_cons (ps_asg (pv 10) (pg_tup rfl (pgs_cons (pg_name (i := 11) sc_law.nd rfl (Or.inl rfl)) (pgs_cons (pg_name (i := 12) sc_law.nd rfl (Or.inl rfl)) pgs_nil)))) (pss_cons (ps_if (PW.pt (pw_or (pt_not (pt_val (pe_own O__law_parts_same (hr.mono (by decide)) rfl pas0 (pa_cons (pv 11) (pa_cons (pe_ix ix_tup (pv 8) pe_int (fun _ _ => rfl)) pa_nil))))) (pw_or1 (pt_not (pt_val (pe_own O__law_parts_same (hr.mono (by decide)) rfl pas0 (pa_cons (pv 12) (pa_cons (pe_ix ix_tup (pv 8) pe_int (fun _ _ => rfl)) pa_nil)))))))) (pss_one (ps_ret pe_bl)) pss_nil) (pss_cons (ps_if (PW.pt (pw_or (pt_not (pt_val (pe_ownm O_Ratio_same (pe_op (op_own .add T.ar_Ratio O_Ratio___add__ (hr.mono (by decide)) passN) (pe_own O__law_total (hr.mono (by decide)) rfl pas0 (pa_cons (pv 11) pa_nil)) (pe_own O__law_total (hr.mono (by decide)) rfl pas0 (pa_cons (pv 12) pa_nil))) (hr.mono (by decide)) pas0 (pa_cons (pe_own O__law_total (hr.mono (by decide)) rfl pas0 (pa_cons (pv 4) pa_nil)) pa_nil)))) (pw_or1 (pt_not (pt_val (pe_ownm O_Ratio_same (pe_own O__law_total (hr.mono (by decide)) rfl pas0 (pa_cons (pv 11) pa_nil)) (hr.mono (by decide)) pas0 (pa_cons (pv 5) pa_nil))))))) (pss_one (ps_ret pe_bl)) pss_nil) (pss_cons (ps_expr (pe_bm0 PySem.F.plainAttrs_list PySem.F.slot_list_clear PySem.F.type_list_clear mt_clear (pv 11))) (pss_cons (ps_expr (pe_bm0 PySem.F.plainAttrs_list PySem.F.slot_list_clear PySem.F.type_list_clear mt_clear (pv 12))) (pss_cons (ps_set (i := 13) sc_law.nd rfl (Or.inl rfl) (pe_op op_cat (pe_own O__law_layers (hr.mono (by decide)) rfl pas0 (pa_cons (pv 1) (pa_cons (pv 3) (pa_cons pe_int pa_nil)))) (pe_lst (pa_cons (pe_tup (pa_cons pe_str (pa_cons (pe_owni O_Ratio_1 (hr.mono (by decide)) rfl pas0 (pa_cons pe_int pa_nil)) pa_nil))) pa_nil)))) (pss_cons (ps_set (i := 10) sc_law.nd rfl (Or.inl rfl) (pe_ownO (i := 6) O_Rule___call__ (hr.mono (by decide)) rfl (.inl rfl) pas0 (pa_cons (pe_callTy call_list_of (by rfl) T.b_list (by decide +kernel) (pa_cons (pv 13) pa_nil)) (pa_cons pe_int pa_nil)))) (pss_cons (ps_set (i := 14) sc_law.nd rfl (Or.inl rfl) (pe_own O__law_took (hr.mono (by decide)) rfl pas0 (pa_cons (pe_ix ix_tup (pv 2) pe_int (fun _ _ => rfl)) (pa_cons (pv 13) (pa_cons pe_int pa_nil))))) (pss_one (ps_if (PW.pt (pw_or (pt_not (pt_val (pe_own O__law_parts_same (hr.mono (by decide)) rfl pas0 (pa_cons (pe_ix ix_tup (pv 10) pe_int (fun _ _ => rfl)) (pa_cons (pe_ix ix_tup (pv 14) pe_int (fun _ _ => rfl)) pa_nil))))) (pw_or1 (pt_not (pt_val (pe_own O__law_parts_same (hr.mono (by decide)) rfl pas0 (pa_cons (pe_ix ix_tup (pv 10) pe_int (fun _ _ => rfl)) (pa_cons (pe_ix ix_tup (pv 14) pe_int (fun _ _ => rfl)) pa_nil)))))))) (pss_one (ps_ret pe_bl)) pss_nil))))))))))))) (pss_one (ps_ret (pe_cmpR (op_eqD (Room.units (hr.mono (Nat.zero_le _)))) (pe_tup (pa_cons (pe_fld (pv 6) rfl) (pa_cons (pe_fld (pv 6) rfl) (pa_cons (pe_fld (pv 6) rfl) pa_nil)))) (pv 2) (nomark _))))))))))))), ?_⟩
    refine ⟨_, rfl, s0, ns, rfl, hs, fun L bag H1 nb nL s1 B1 => ?_⟩
    fail "rd"
    refine ⟨L, B1, fun ru z1 z2 c H2 k2 B2 hru hz1 hz2 hc0 hc1 => ?_⟩
    have nru : ru ≠ bag := by
      obtain ⟨xb, hxb⟩ := B2.lst
      exact fun e => by rw [e, hxb] at hru; cases hru
    fail "rd"
    intro lw n_lw
    generalize g_H3 : upd _ lw _ = H3
    obtain ⟨s_H3, e_lw⟩ := gen_new n_lw g_H3
    clear g_H3
    have B3 := B2.same s_H3
    have hru3 := s_H3 _ _ hru
    have lwb := B2.ne n_lw
    fail "rd"
    refine ⟨bag, lw, 5, ["own", "top", "even"], rfl, L, B3, e_lw, lwb, fun z m => ⟨namesB_ok (by decide +kernel) z m, (show ∀ z ∈ (["own", "top", "even"] : List Str), z.length ≠ 10 by decide +kernel) z m⟩, by simp, by decide, by omega, by omega, fun zs nm H4 hlen hz n4 k4 B4 e4 => ?_⟩
    have nmb := B3.ne n4
    have hru4 := k4 _ _ hru3 nru
    have zne : zs ≠ [] := fun e => by rw [e] at hlen; cases hlen
    fail "rd"
    refine ⟨bag, nm, zs, 7, rfl, L, B4, e4, nmb, zne, by omega, by omega, fun l xs ls H5 nl k5 B5 hl hx na hin ll => ?_⟩
    have nlb := B4.ne nl
    have e5 := k5 _ _ e4 nmb
    have hru5 := k5 _ _ hru4 nru
    have pos : ∀ x ∈ ls, 0 < x.2 := fun x m => (hin x m).2.1
    have zl : ZL 20 ls := fun x m => (hin x m).2.2
    have okz : ∀ x ∈ ls, PyData.strOk x.1 = true := fun x m => lets_ok (hz _ (hin x m).1).1.ls
    fail "rd"
    refine ⟨bag, l, xs, ls, rfl, L, B5, nlb, hl, hx, pos, zl, ll, fun x w H6 k6 B6 hw w0 zw => ?_⟩
    have hl6 := k6 _ _ hl nlb
    obtain ⟨xb5, hxb5⟩ := B5.lst
    have hx6 := hx.putL hxb5 k6
    have hru6 := k6 _ _ hru5 nru
    have e6 := k6 _ _ e5 nmb
    fail "rd"
    refine ⟨ru, z1, z2, c, rfl, hru6, hz1, hz2, hc0, hc1, fun r H7 nr s7 hR => ?_⟩
    fail "rd"
    have hl7 := s7 _ _ hl6
    fail "rd"
    intro hd n_hd
    generalize g_H8 : upd _ hd _ = H8
    obtain ⟨s_H8, e_hd⟩ := gen_new n_hd g_H8
    clear g_H8
    have s78 := s7.trans s_H8
    have hl8 := s78 _ _ hl6
    have hx8 := hx6.same s78
    have hw8 := hw.same s78
    have hru8 := s78 _ _ hru6
    have e8 := s78 _ _ e6
    have B8 := B6.same s78
    obtain ⟨dR, hR0⟩ := hR
    have hR8 := s_H8 _ _ hR0
    have nhb : hd ≠ bag := (B6.same s7).ne n_hd
    have nlh : l ≠ hd := ne_of_none (s7 _ _ hl6) n_hd
    have rfs : ∀ v ∈ xs, ∃ c : Addr, v = .ref c := fun v m => by
      obtain ⟨i, hi, rfl⟩ := List.mem_iff_getElem.mp m
      obtain ⟨t, p, e, _⟩ := paired_get hx8 (List.getElem?_eq_getElem hi) (List.getElem?_eq_getElem (by rw [← hx8.length]; exact hi))
      exact ⟨t, e⟩
    clear hl hl6 hx hx6 hxb5 hw hru hru3 hru4 hru5 hru6 e4 e5 e6 B1 B2 B3 B4 B5 B6 s7 s78 k2 k4 k5 k6 s_H8 s_H3 e_lw s1
    have lx := hx8.length
    have tot_pos : ∀ {ls : Ls}, ls ≠ [] → (∀ x ∈ ls, 0 < x.2) → 0 < tot ls := fun {ls} h pos => by
      cases ls with
      | nil => exact absurd rfl h
      | cons x r =>
        have h1 := pos x List.mem_cons_self
        have h2 : 0 ≤ tot r := tot_nonneg fun y m => by have := pos y (List.mem_cons_of_mem _ m); grind
        simp only [tot]
        grind
    have ztot : Zq 148 (tot ls) := (tot_zq zl).mono (by omega)
    fail "rd"
    refine ⟨fun σ' H' => ∃ (x' : V) (w' : Rat), σ' = [some (.ref s0), some (.ref bag), some (.ref ru), some (.ref nm), some (.ref l), some x', some (.ref r), some (.ref hd), none, none, none, none, none, none, none] ∧ Same H8 H' ∧ QV ca H' x' w' ∧ 0 < w' ∧ Zq 160 w' ∧ w' ≤ tot ls, ?_, ?_⟩
    · fail "rd"
      refine ⟨l, xs, ls, 20, rfl, hl8, hx8, zl, by omega, by omega, fun p H9 s9 hp => ?_⟩
      obtain ⟨_, hpi⟩ := hp.ins
      fail "rd"
      refine q_less hp (hw8.same s9) (ztot.mono (by decide)) (zw.mono (by decide)) fun H10 s10 => ?_
      have sA := s9.trans s10
      by_cases lt : tot ls < w
      · rw [decide_eq_true lt]
        fail "rd"
        refine ⟨r, hd, x, z1, z2, c, xs, ls, w, rfl, ⟨dR, sA _ _ hR8⟩, sA _ _ e_hd, hx8.same sA, hw8.same sA, pos, w0, zl, by omega, zw, lt, fun H11 s11 => ?_⟩
        have sB := sA.trans s11
        fail "rd"
        refine ⟨r, hd, x, z1, z2, c, xs, ls, w, rfl, ⟨dR, sB _ _ hR8⟩, sB _ _ e_hd, hx8.same sB, hw8.same sB, pos, w0, zl, by omega, zw, lt, fun H12 s12 => ?_⟩
        have sC := sB.trans s12
        fail "rd"
        refine ⟨hd, l, xs, rfl, rfl, sC _ _ e_hd, sC _ _ hl8, rfs, ?_⟩
        fail "rd"
        intro e n_e
        generalize g_H13 : upd _ e _ = H13
        obtain ⟨s_H13, e_e⟩ := gen_new n_e g_H13
        clear g_H13
        have sD := sC.trans s_H13
        refine ⟨l, e, xs, rfl, rfl, sD _ _ hl8, e_e, ?_⟩
        cases he : xs.isEmpty
        · fail "rd"
          refine ⟨l, xs, ls, 20, rfl, sD _ _ hl8, hx8.same sD, zl, by omega, by omega, fun p2 H14 s14 hp2 => ?_⟩
          have nls : ls ≠ [] := fun z => by
            rw [z] at lx
            have : xs = [] := List.eq_nil_of_length_eq_zero lx
            rw [this] at he
            cases he
          exact ⟨_, tot ls, rfl, sD.trans s14, hp2.v, tot_pos nls pos, ztot.mono (by decide), Rat.le_refl⟩
        · fail "rd"
          exact k _
      · rw [decide_eq_false lt]
        fail "rd"
        exact ⟨x, w, rfl, sA, hw8.same sA, w0, zw, Rat.not_lt.mp lt⟩
    rintro σ' H9 ⟨y, v, rfl, s9, hy, v0, zv, vt⟩
    have hl9 := s9 _ _ hl8
    have hx9 := hx8.same s9
    have hd9 := s9 _ _ e_hd
    have hR9 := s9 _ _ hR8
    have hru9 := s9 _ _ hru8
    have e9 := s9 _ _ e8
    have B9 := B8.same s9
    clear hw8 w0 zw hl8 hx8 e_hd hR8 hru8 e8 B8 s9
    fail "rd"
    refine ⟨z1, l, y, xs, ls, v, 20, 160, rfl, hz1, hl9, hx9, hy, pos, na, v0, vt, zl, zv, by omega, by omega, by omega, fun due H10 s10 hdue => ?_⟩
    obtain ⟨p1, p2, ys1, ys2, hd0, np1, np2, n12, hp1, hp2, hy1, hy2⟩ := hdue
    have np1b := B9.ne np1
    have np2b := B9.ne np2
    have ne_bag : ∀ {G : Hp} {q : Addr} {o : HO} {u : HO}, G bag = some u → G q = some o → u ≠ o → q ≠ bag := fun a b c e => c (by rw [e, a] at b; exact Option.some.inj b)
    have hl10 := s10 _ _ hl9
    have hx10 := hx9.same s10
    have hd10 := s10 _ _ hd9
    have hR10 := s10 _ _ hR9
    have hru10 := s10 _ _ hru9
    have e10 := s10 _ _ e9
    have B10 := B9.same s10
    have hv10 := hy.same s10
    clear hl9 hx9 hd9 hR9 hru9 e9 B9 hy s10
    fail "rd"
    obtain ⟨xb, hxb⟩ := B10.lst
    refine ⟨by decide, by decide, for_range (n := 2) (fun i σ' H' => ∃ (v9 v10 v11 v12 v13 v14 : Option V), σ' = [some (.ref s0), some (.ref bag), some (.ref ru), some (.ref nm), some (.ref l), some y, some (.ref r), some (.ref hd), some (.ref due), v9, v10, v11, v12, v13, v14] ∧ Keep bag H10 H' ∧ Bag H' L bag) ⟨_, _, _, _, _, _, rfl, Keep.of (Same.refl _), B10⟩ ?_ ?_⟩
    · rintro i σ' H11 hi ⟨v9, v10, v11, v12, v13, v14, rfl, k11, B11⟩
      have ne_b : ∀ {q : Addr} {ys : List V}, q = bag → H10 q = some (.lst ys) → ys = xb := fun e h => by rw [e, hxb] at h; cases h; rfl
      have hl11 := k11 _ _ hl10 nlb
      have hx11 := hx10.putL hxb k11
      have hd11 := k11 _ _ hd10 nhb
      have hR11 := k11 _ _ hR10 (ne_bag hxb hR10 (fun z => nomatch z))
      have hru11 := k11 _ _ hru10 nru
      have e11 := k11 _ _ e10 nmb
      have hv11 := hv10.keep hxb (fun _ _ _ z => nomatch z) k11
      have hd0' := k11 _ _ hd0 (ne_bag hxb hd0 (fun z => nomatch z))
      have hp1' := k11 _ _ hp1 np1b
      have hp2' := k11 _ _ hp2 np2b
      have hy1' := hy1.putL hxb k11
      have hy2' := hy2.putL hxb k11
      refine ⟨r, dR, _, rfl, hR11, ?_⟩
      fail "rd"
      refine ⟨⟨_, _, hR11⟩, r, hd, y, z1, z2, c, xs, ls, v, 20, 160, rfl, ⟨dR, hR11⟩, hd11, hx11, hv11, pos, v0, zl, zv, by omega, fun z => absurd z (Rat.not_lt.mpr vt), fun _ t1 H12 s12 ht1 => ?_⟩
      obtain ⟨a1, a2, xs1, xs2, ht1, na1, na2, a12, ha1, ha2, hL1, hL2⟩ := ht1
      have T := take_ok (z := z1) v0 vt zl zv (by omega)
      generalize takeR z1 ls v = tk at hL1 hL2 hy1' hy2' T
      fail "rd"
      dsimp only [tCons, tC, tNil]
      refine ⟨_, _, _, _, true, rfl, .ty "tuple", .base (.tup ht1), kit_ty (by decide +kernel), ?_⟩
      fail "rd"
      refine ⟨t1, _, rfl, .inr (SqT.of ht1), ?_⟩
      fail "rd"
      refine ⟨hd, l, xs, rfl, rfl, s12 _ _ hd11, s12 _ _ hl11, rfs, ?_⟩
      fail "rd"
      have okN : ∀ {a : Ls}, NIn a ls → ∀ x ∈ a, PyData.strOk x.1 = true := fun h y m => let ⟨x, mx, e⟩ := h y m; e ▸ okz x mx
      have l7 := Nat.le_trans T.l1 ll
      have m7 := Nat.le_trans T.l2 ll
      have w7 := Nat.mul_le_mul_right 381 l7
      have x7 := Nat.mul_le_mul_right 381 m7
      have u1 : Zq 4000 (tot tk.1) := (tot_zq T.z1).mono (by omega)
      have u2 : Zq 4000 (tot tk.2) := (tot_zq T.z2).mono (by omega)
      refine ⟨a1, p1, xs1, ys1, tk.1, rfl, ha1, s12 _ _ hp1', hL1, hy1'.same s12, by omega, okN T.n1, fun H13 s13 => ?_⟩
      fail "rd"
      have s23 := s12.trans s13
      refine ⟨a2, p2, xs2, ys2, tk.2, rfl, s13 _ _ ha2, s23 _ _ hp2', hL2.same s13, hy2'.same s23, by omega, okN T.n2, fun H14 s14 => ?_⟩
      have s24 := s23.trans s14
      have sA := s13.trans s14
      fail "rd"
      refine ⟨a1, xs1, tk.1, 380, rfl, sA _ _ ha1, hL1.same sA, T.z1, by omega, by decide, fun g1 H15 s15 hg1 => ?_⟩
      fail "rd"
      have sB := sA.trans s15
      refine ⟨a2, xs2, tk.2, 380, rfl, sB _ _ ha2, hL2.same sB, T.z2, by omega, by decide, fun g2 H16 s16 hg2 => ?_⟩
      have sC := sB.trans s16
      fail "rd"
      refine o_add (hg1.same s16) hg2.v u1 u2 fun g3 H17 _ s17 hg3 => ?_
      obtain ⟨_, hg3i⟩ := hg3.ins
      have sD := sC.trans s17
      have sE := s12.trans sD
      fail "rd"
      refine ⟨l, xs, ls, 20, rfl, sE _ _ hl11, hx11.same sE, zl, by omega, by omega, fun g4 H18 s18 hg4 => ?_⟩
      fail "rd"
      refine q_same (hg3.same s18) hg4.v fun H19 s19 => ?_
      rw [decide_eq_true (show tot tk.1 + tot tk.2 = tot ls by rw [T.t1, T.t2]; grind)]
      have sF := (sD.trans s18).trans s19
      fail "rd"
      refine ⟨a1, xs1, tk.1, 380, rfl, sF _ _ ha1, hL1.same sF, T.z1, by omega, by decide, fun g5 H20 s20 hg5 => ?_⟩
      obtain ⟨_, hg5i⟩ := hg5.ins
      fail "rd"
      refine q_same hg5 ((hv11.same s12).same (sF.trans s20)) fun H21 s21 => ?_
      rw [decide_eq_true T.t1]
      have sG := (sF.trans s20).trans s21
      have ha1' := sG _ _ ha1
      have ha2' := sG _ _ ha2
      have s121 := s12.trans sG
      clear hg1 hg2 hg3 hg4 hg5 hg3i hg5i s13 s14 s15 s16 s17 s18 s19 s20 s21 sA sB sC sD sE sF s23 s24 hL1 hL2 ha1 ha2 ht1 hy1' hy2' hp1' hp2' T u1 u2 w7 x7 l7 m7 sG s12
      fail "rd"
      refine ⟨a1, xs1, rfl, rfl, ha1', ?_⟩
      generalize g_H22 : upd _ a1 _ = H22
      obtain ⟨k_H22, e_H22⟩ := gen_put g_H22
      clear g_H22
      fail "rd"
      refine ⟨a2, xs2, rfl, rfl, k_H22 _ _ ha2' a12.symm, ?_⟩
      generalize g_H23 : upd _ a2 _ = H23
      obtain ⟨k_H23, e_H23⟩ := gen_put g_H23
      clear g_H23
      have sH : Same H11 H23 := fun a u e => k_H23 a u (k_H22 a u (s121 a u e) (ne_of_none e na1)) (ne_of_none e na2)
      clear k_H22 k_H23 e_H22 e_H23 s121 ha1' ha2'
      have B23 := B11.same sH
      fail "rd"
      refine ⟨bag, nm, zs, 4, rfl, L, B23, sH _ _ e11, nmb, zne, by omega, by omega, fun lo xo lso H24 nlo k24 B24 hlo hxo nao hino llo => ?_⟩
      have kH := k11.trans ((Keep.of sH).trans k24)
      have hl24 := kH _ _ hl10 nlb
      clear sH k24 B23 hl11 hx11 hd11 hR11 hru11 e11 hv11 hd0' B11 k11
      fail "rd"
      intro q1 dq nq1 ndq neq
      refine q_make nq1 ndq neq (by decide) (by decide) fun H25 s25 hq25 => ⟨rfl, ?_⟩
      have e11 : Rat.divInt 1 1 = ((1 : Int) : Rat) := by decide +kernel
      rw [e11] at hq25
      fail "rd"
      intro tt n_tt
      generalize g_H26 : upd _ tt _ = H26
      obtain ⟨s_H26, e_tt⟩ := gen_new n_tt g_H26
      clear g_H26
      fail "rd"
      intro sg n_sg
      generalize g_H27 : upd _ sg _ = H27
      obtain ⟨s_H27, e_sg⟩ := gen_new n_sg g_H27
      clear g_H27
      have s47 := s25.trans (s_H26.trans s_H27)
      fail "rd"
      refine ⟨_, _, _, _, rfl, rfl, s47 _ _ hlo, e_sg, Nat.le_trans (show xo.length + [V.ref tt].length ≤ 1000 by rw [hxo.length]; simp only [List.length_cons, List.length_nil]; omega) (line_le (by decide)), ?_⟩
      intro U n_U
      generalize g_H28 : upd _ U _ = H28
      obtain ⟨s_H28, e_U⟩ := gen_new n_U g_H28
      clear g_H28
      have s48 := s47.trans s_H28
      obtain ⟨lo2, hlo2⟩ : ∃ m : Ls, lso ++ [(("anotherlot" : Str), ((1 : Int) : Rat))] = m := ⟨_, rfl⟩
      have hxU : Lay ca H28 (xo ++ [.ref tt]) lo2 := hlo2 ▸ paired_app (hxo.same s48) (.cons ⟨tt, q1, rfl, s_H28 _ _ (s_H27 _ _ e_tt), hq25.same (s_H26.trans (s_H27.trans s_H28))⟩ .nil)
      have one0 : (0 : Rat) < ((1 : Int) : Rat) := by decide +kernel
      have zone : ∀ {n : Nat}, 1 ≤ n → Zq n ((1 : Int) : Rat) := fun h => (Zq.int (show (1 : Int).natAbs < 2 ^ 1 by decide)).mono h
      have inO : ∀ x ∈ lo2, x ∈ lso ∨ x = (("anotherlot" : Str), ((1 : Int) : Rat)) := fun x m => by
        rw [← hlo2] at m
        rcases List.mem_append.mp m with m | m
        · exact .inl m
        · exact .inr (List.mem_singleton.mp m)
      have posO : ∀ x ∈ lo2, 0 < x.2 := fun x m => by
        rcases inO x m with m | rfl
        · exact (hino x m).2.1
        · exact one0
      have zlO : ZL 20 lo2 := fun x m => by
        rcases inO x m with m | rfl
        · exact (hino x m).2.2
        · exact zone (by decide)
      have okO : ∀ x ∈ lo2, PyData.strOk x.1 = true := fun x m => by
        rcases inO x m with m | rfl
        · exact lets_ok (hz _ (hino x m).1).1.ls
        · exact (show PyData.strOk "anotherlot" = true by decide +kernel)
      have naO : NoAdj lo2 := by
        rw [← hlo2]
        refine noAdj_snoc nao fun y hy e => ?_
        have := (hz _ (hino y (List.mem_of_getLast? hy)).1).2
        rw [e] at this
        exact this (by decide +kernel)
      have llO : lo2.length ≤ 5 := by
        rw [← hlo2, List.length_append]
        show lso.length + 1 ≤ 5
        omega
      have totO : ((1 : Int) : Rat) ≤ tot lo2 := by
        rw [← hlo2, tot_app, tot_one]
        have h2 : 0 ≤ tot lso := tot_nonneg fun x m => by have := (hino x m).2.1; grind
        show ((1 : Int) : Rat) ≤ tot lso + ((1 : Int) : Rat)
        grind
      have hR28 := s48 _ _ (kH _ _ hR10 (ne_bag hxb hR10 (fun z => nomatch z)))
      have hru28 := s48 _ _ (kH _ _ hru10 nru)
      refine ⟨r, dR, _, rfl, hR28, ?_⟩
      fail "rd"
      intro cp n_cp
      generalize g_H29 : upd _ cp _ = H29
      obtain ⟨s_H29, e_cp⟩ := gen_new n_cp g_H29
      clear g_H29
      have hR29 := s_H29 _ _ hR28
      fail "rd"
      refine ⟨⟨_, _, hR29⟩, r, cp, .int 1, z1, z2, c, _, lo2, ((1 : Int) : Rat), 20, 160, rfl, ⟨dR, hR29⟩, e_cp, hxU.same s_H29, QV.int, posO, one0, zlO, zone (by decide), by omega, fun z => absurd z (Rat.not_lt.mpr totO), fun _ t2 H30 s30 ht2 => ?_⟩
      obtain ⟨b1, b2, us1, us2, ht2, _, _, _, hb1, hb2, hM1, hM2⟩ := ht2
      have hru30 := s30 _ _ (s_H29 _ _ hru28)
      fail "rd"
      refine ⟨z1, U, .int 1, _, lo2, ((1 : Int) : Rat), 20, 160, rfl, hz1, s30 _ _ (s_H29 _ _ e_U), hxU.same (s_H29.trans s30), QV.int, posO, naO, one0, totO, zlO, zone (by decide), by omega, by omega, by omega, fun t3 H31 s31 ht3 => ?_⟩
      obtain ⟨d1, d2, vs1, vs2, ht3, _, _, _, hd1, hd2, hN1, hN2⟩ := ht3
      have T := take_ok (z := z1) one0 totO zlO (zone (by decide)) (by omega)
      generalize takeR z1 lo2 ((1 : Int) : Rat) = tk2 at hM1 hM2 hN1 hN2 T
      have okM : ∀ {a : Ls}, NIn a lo2 → ∀ x ∈ a, PyData.strOk x.1 = true := fun h y m => let ⟨x, mx, e⟩ := h y m; e ▸ okO x mx
      have i5 := Nat.le_trans T.l1 llO
      have j5 := Nat.le_trans T.l2 llO
      have ht2' := s31 _ _ ht2
      fail "rd"
      refine ⟨b1, d1, us1, vs1, tk2.1, rfl, s31 _ _ hb1, hd1, hM1.same s31, hN1, by omega, okM T.n1, fun H32 s32 => ?_⟩
      have ht2'' := s32 _ _ ht2'
      have ht3'' := s32 _ _ ht3
      fail "rd"
      refine ⟨b2, d2, us2, vs2, tk2.2, rfl, s32 _ _ (s31 _ _ hb2), s32 _ _ hd2, (hM2.same s31).same s32, hN2.same s32, by omega, okM T.n2, fun H33 s33 => ?_⟩
      have sZ := s48.trans (s_H29.trans (s30.trans (s31.trans (s32.trans s33))))
      fail "rd"
      exact ⟨_, _, _, _, _, _, rfl, kH.trans (Keep.of sZ), B24.same sZ⟩
    · rintro σ' H11 ⟨v9, v10, v11, v12, v13, v14, rfl, k11, B11⟩
      have hR11 := k11 _ _ hR10 (ne_bag hxb hR10 (fun z => nomatch z))
      have hru11 := k11 _ _ hru10 nru
      fail "rd"
      intro tp n_tp
      generalize g_H12 : upd _ tp _ = H12
      obtain ⟨s_H12, e_tp⟩ := gen_new n_tp g_H12
      clear g_H12
      have okz1 : PyData.strOk z1 = true := by
        simp only [List.mem_cons, List.not_mem_nil, or_false] at hz1
        rcases hz1 with rfl | rfl | rfl <;> decide +kernel
      have okz2 : PyData.strOk z2 = true := by
        simp only [List.mem_cons, List.not_mem_nil, or_false] at hz2
        rcases hz2 with rfl | rfl | rfl <;> decide +kernel
      fail "rd"
      refine Da.eq (n := 2) (m := 2) (.tup (.cons (.str okz1) (.cons (.str okz2) (.cons .int .nil))) (SqT.of e_tp)) (.tup (.cons (.str okz1) (.cons (.str okz2) (.cons .int .nil))) (SqT.of (s_H12 _ _ hru11))) ?_
      exact k _

end
theorem all_mk {l : PySem.W.OpenLaw} {w : World} {K : PySem.W.Frag} {h : Heap} {mg : Str → Option Value} {fa : Addr} (X : K.In h) (G : h.Ns mainGlobals mg) (hfa : mg "law" = some (.ref fa))
    {C0 C1 C9 C10 C2 C24 : Addr}
    {vi0 vi1 vi2 vi3 vi4 vi5 : Option Value}
    {tkc__MOST : Tok}
    {xnm9 xq9 : Str} {xN9 : Addr} {xbs9 : List Value} {xsn9 : List Str} {xsub9 : List Value} {xab9 : Bool} {xcol9 : Option Bool} {xdd9 : Option Addr} {xm09 xm19 xm29 xm39 xm59 : Option Value}
    {xnm10 xq10 : Str} {xN10 : Addr} {xbs10 : List Value} {xsn10 : List Str} {xsub10 : List Value} {xab10 : Bool} {xcol10 : Option Bool} {xdd10 : Option Addr} {xm010 xm110 xm210 xm310 xm510 : Option Value}
    {kd2 : ClassData} {vr2_0 vr2_1 vr2_2 : Option Value} {vh2_0 vh2_1 vh2_2 : Addr}
    {f0 : Addr} {od0 an0 : Option Addr} {sl0 : Array (Option Value)} {oc0 kV0 dc0 pm0 cd0 ct0 : Value}
    {f1 : Addr} {od1 an1 : Option Addr} {sl1 : Array (Option Value)} {oc1 kV1 dc1 pm1 cd1 ct1 : Value}
    {f2 : Addr} {od2 an2 : Option Addr} {sl2 : Array (Option Value)} {oc2 kV2 dc2 pm2 cd2 ct2 : Value}
    {f3 : Addr} {od3 an3 : Option Addr} {sl3 : Array (Option Value)} {oc3 kV3 dc3 pm3 cd3 ct3 : Value}
    {f4 : Addr} {od4 an4 : Option Addr} {sl4 : Array (Option Value)} {oc4 kV4 dc4 pm4 cd4 ct4 : Value}
    {f5 : Addr} {od5 an5 : Option Addr} {sl5 : Array (Option Value)} {oc5 kV5 dc5 pm5 cd5 ct5 : Value}
    {T5 : Addr} {tk5_0 : Tok} {oT5 : Value} {dT5 : Option Addr} {nT5 : Nat} {sT5 : Array (Option Value)}
    {f6 : Addr} {od6 an6 : Option Addr} {sl6 : Array (Option Value)} {oc6 kV6 dc6 pm6 cd6 ct6 : Value}
    {f7 : Addr} {od7 an7 : Option Addr} {sl7 : Array (Option Value)} {oc7 kV7 dc7 pm7 cd7 ct7 : Value}
    {f8 : Addr} {od8 an8 : Option Addr} {sl8 : Array (Option Value)} {oc8 kV8 dc8 pm8 cd8 ct8 : Value}
    {f9 : Addr} {od9 an9 : Option Addr} {sl9 : Array (Option Value)} {oc9 kV9 dc9 pm9 cd9 ct9 : Value}
    {f10 : Addr} {od10 an10 : Option Addr} {sl10 : Array (Option Value)} {oc10 kV10 dc10 pm10 cd10 ct10 : Value}
    {f11 : Addr} {od11 an11 : Option Addr} {sl11 : Array (Option Value)} {oc11 kV11 dc11 pm11 cd11 ct11 : Value}
    {f12 : Addr} {od12 an12 : Option Addr} {sl12 : Array (Option Value)} {oc12 kV12 dc12 pm12 cd12 ct12 : Value}
    {f13 : Addr} {od13 an13 : Option Addr} {sl13 : Array (Option Value)} {oc13 kV13 dc13 pm13 cd13 ct13 : Value}
    {f14 : Addr} {od14 an14 : Option Addr} {sl14 : Array (Option Value)} {oc14 kV14 dc14 pm14 cd14 ct14 : Value}
    {f15 : Addr} {od15 an15 : Option Addr} {sl15 : Array (Option Value)} {oc15 kV15 dc15 pm15 cd15 ct15 : Value}
    {f16 : Addr} {od16 an16 : Option Addr} {sl16 : Array (Option Value)} {oc16 dc16 pm16 cd16 ct16 : Value}
    {D16 : Addr}
    {kk16_0 : Tok}
    {kk16_1 : Tok}
    {f17 : Addr} {od17 an17 : Option Addr} {sl17 : Array (Option Value)} {oc17 kV17 dc17 pm17 cd17 ct17 : Value}
    {f18 : Addr} {od18 an18 : Option Addr} {sl18 : Array (Option Value)} {oc18 kV18 dc18 pm18 cd18 ct18 : Value}
    {f19 : Addr} {od19 an19 : Option Addr} {sl19 : Array (Option Value)} {oc19 kV19 dc19 pm19 cd19 ct19 : Value}
    {f20 : Addr} {od20 an20 : Option Addr} {sl20 : Array (Option Value)} {oc20 kV20 dc20 pm20 cd20 ct20 : Value}
    {f21 : Addr} {od21 an21 : Option Addr} {sl21 : Array (Option Value)} {oc21 kV21 dc21 pm21 cd21 ct21 : Value}
    {f22 : Addr} {od22 an22 : Option Addr} {sl22 : Array (Option Value)} {oc22 kV22 dc22 pm22 cd22 ct22 : Value}
    {f23 : Addr} {od23 an23 : Option Addr} {sl23 : Array (Option Value)} {oc23 kV23 dc23 pm23 cd23 ct23 : Value}
    {f24 : Addr} {od24 an24 : Option Addr} {sl24 : Array (Option Value)} {oc24 kV24 dc24 pm24 cd24 ct24 : Value}
    {f25 : Addr} {od25 an25 : Option Addr} {sl25 : Array (Option Value)} {oc25 kV25 dc25 pm25 cd25 ct25 : Value}
    {f26 : Addr} {od26 an26 : Option Addr} {sl26 : Array (Option Value)} {oc26 kV26 dc26 pm26 cd26 ct26 : Value}
    {f27 : Addr} {od27 an27 : Option Addr} {sl27 : Array (Option Value)} {oc27 kV27 dc27 pm27 cd27 ct27 : Value}
    {p27 : Addr} {rest27 : List Value}
    {f28 : Addr} {od28 an28 : Option Addr} {sl28 : Array (Option Value)} {oc28 kV28 dc28 pm28 cd28 ct28 : Value}
    {f29 : Addr} {od29 an29 : Option Addr} {sl29 : Array (Option Value)} {oc29 kV29 dc29 pm29 cd29 ct29 : Value}
    {f30 : Addr} {od30 an30 : Option Addr} {sl30 : Array (Option Value)} {oc30 kV30 dc30 pm30 cd30 ct30 : Value}
    {f31 : Addr} {od31 an31 : Option Addr} {sl31 : Array (Option Value)} {oc31 kV31 dc31 pm31 cd31 ct31 : Value}
    {f32 : Addr} {od32 an32 : Option Addr} {sl32 : Array (Option Value)} {oc32 kV32 dc32 pm32 cd32 ct32 : Value}
    {f33 : Addr} {od33 an33 : Option Addr} {sl33 : Array (Option Value)} {oc33 kV33 dc33 pm33 cd33 ct33 : Value}
    {f34 : Addr} {od34 an34 : Option Addr} {sl34 : Array (Option Value)} {oc34 kV34 dc34 pm34 cd34 ct34 : Value}
    {f35 : Addr} {od35 an35 : Option Addr} {sl35 : Array (Option Value)} {oc35 kV35 dc35 pm35 cd35 ct35 : Value}
    {f36 : Addr} {od36 an36 : Option Addr} {sl36 : Array (Option Value)} {oc36 kV36 dc36 pm36 cd36 ct36 : Value}
    {f37 : Addr} {od37 an37 : Option Addr} {sl37 : Array (Option Value)} {oc37 kV37 dc37 pm37 cd37 ct37 : Value}
    (aC0 : PySem.W.nsIn K mainGlobals "CostError" = some (some (.ref C0)))
    (aC1 : PySem.W.nsIn K mainGlobals "NoRatio" = some (some (.ref C1)))
    (aC9 : PySem.W.nsIn K mainGlobals "BadRule" = some (some (.ref C9)))
    (aC10 : PySem.W.nsIn K mainGlobals "Short" = some (some (.ref C10)))
    (aC2 : PySem.W.nsIn K mainGlobals "Ratio" = some (some (.ref C2)))
    (aC24 : PySem.W.nsIn K mainGlobals "Rule" = some (some (.ref C24)))
    (pg2 : PySem.W.plainGet K C2 Str.empty = true)
    (hd2 : PySem.W.hasDictIn K C2 = true)
    (po2 : PySem.W.plainOver K C2 = true)
    (sa2 : PySem.W.findIn K (.ref C2) "__setattr__" = some (some (.builtin "object.__setattr__")))
    (mk2 : PySem.W.makesIn K C2 = true)
    (kc2 : PySem.W.keepIn K (.ref C2) = true)
    (pg24 : PySem.W.plainGet K C24 Str.empty = true)
    (hd24 : PySem.W.hasDictIn K C24 = true)
    (po24 : PySem.W.plainOver K C24 = true)
    (sa24 : PySem.W.findIn K (.ref C24) "__setattr__" = some (some (.builtin "object.__setattr__")))
    (mk24 : PySem.W.makesIn K C24 = true)
    (kc24 : PySem.W.keepIn K (.ref C24) = true)
    (z_abs : PySem.W.nsIn K mainGlobals "abs" = some none)
    (z_all : PySem.W.nsIn K mainGlobals "all" = some none)
    (z_bool : PySem.W.nsIn K mainGlobals "bool" = some none)
    (z_int : PySem.W.nsIn K mainGlobals "int" = some none)
    (z_isinstance : PySem.W.nsIn K mainGlobals "isinstance" = some none)
    (z_len : PySem.W.nsIn K mainGlobals "len" = some none)
    (z_list : PySem.W.nsIn K mainGlobals "list" = some none)
    (z_range : PySem.W.nsIn K mainGlobals "range" = some none)
    (z_tuple : PySem.W.nsIn K mainGlobals "tuple" = some none)
    (z_gcd : PySem.W.nsIn K mainGlobals "gcd" = some (some (.builtin "math.gcd")))
    (zc__MOST : PySem.W.nsIn K mainGlobals "_MOST" = some (some (.int 1000000 tkc__MOST)))
    (fkp_NoRatio : PySem.W.keepIn K (.ref C1) = true)
    (fex_NoRatio : PySem.W.excIn K C1 [.type "ValueError", .type "Exception", .type "BaseException", .type "object"] "ValueError.__new__" = true)
    (fsb_NoRatio : PySem.W.subIn K (.ref C1) (.type "BaseException") = some true)
    (fty_NoRatio : PySem.W.typeIn K (.ref C1) = some (.type "type"))
    (xl_BadRule : K.lookup C9 = some (excClassObj xnm9 xq9 C9 xN9 xbs9 [.ref C0, .type "ValueError", .type "Exception", .type "BaseException", .type "object"] true xsn9 xsub9 xab9 xcol9 xdd9 xm09 xm19 xm29 xm39 xm59 "ValueError.__new__"))
    (fxr_BadRule : PySem.HandSPX.refsVE [.ref C0, .type "ValueError", .type "Exception", .type "BaseException", .type "object"] = true)
    (sa_BadRule : PySem.W.findIn K (.ref C9) "__setattr__" = some (some (.builtin "object.__setattr__")))
    (kpr_BadRule : PySem.W.keepIn K (.ref C9) = true)
    (fsb_BadRule : PySem.W.subIn K (.ref C9) (.type "BaseException") = some true)
    (fty_BadRule : PySem.W.typeIn K (.ref C9) = some (.type "type"))
    (fnf_BadRule_word : PySem.W.findIn K (.ref C9) "word" = some none)
    (fsb_Short : PySem.W.subIn K (.ref C10) (.type "BaseException") = some true)
    (fxi_Short : PySem.W.isClsIn K C10 = true)
    (fty_Short : PySem.W.typeIn K (.ref C10) = some (.type "type"))
    (fxs_Short : PySem.W.subIn K (.ref C10) (.ref C10) = some true)
    (fy1_Short : PySem.W.findIn K (.ref C10) "__getattribute__" = some (some (.builtin "BaseException.__getattribute__")))
    (fy2_Short : PySem.W.findIn K (.ref C10) "__getattr__" = some none)
    (fy3_Short : PySem.W.hasDictIn K C10 = true)
    (fy4_Short : PySem.W.findIn K (.ref C10) "__class__" = some (some (.builtin "object.__class__")))
    (fo5 : PySem.W.specialIn K (.builtin "object.__class__") "__get__" = some (some (.builtin "getset_descriptor.__get__")))
    (fo6 : PySem.W.takesIn K (.builtin "object.__class__") = some true)
    (fy7_Short : PySem.W.mroIn K C10 (.type "object") = some true)
    (xl_Short : K.lookup C10 = some (excClassObj xnm10 xq10 C10 xN10 xbs10 [.ref C0, .type "ValueError", .type "Exception", .type "BaseException", .type "object"] true xsn10 xsub10 xab10 xcol10 xdd10 xm010 xm110 xm210 xm310 xm510 "ValueError.__new__"))
    (fxr_Short : PySem.HandSPX.refsVE [.ref C0, .type "ValueError", .type "Exception", .type "BaseException", .type "object"] = true)
    (sa_Short : PySem.W.findIn K (.ref C10) "__setattr__" = some (some (.builtin "object.__setattr__")))
    (kpr_Short : PySem.W.keepIn K (.ref C10) = true)
    (fnf_Short_missing : PySem.W.findIn K (.ref C10) "missing" = some none)
    (fna_Ratio_top : PySem.W.findIn K (.ref C2) "top" = some none)
    (fna_Ratio_bottom : PySem.W.findIn K (.ref C2) "bottom" = some none)
    (fic_Ratio : PySem.W.findIn K (.ref C2) "__class__" = some (some (.builtin "object.__class__")))
    (fim_Ratio : PySem.W.mroIn K C2 (.type "object") = some true)
    (fr1_Ratio : PySem.W.selfFirst K C2 = true)
    (fr2_Ratio : PySem.W.subIn K (.type "int") (.ref C2) = some false)
    (fr3_Ratio : PySem.W.subIn K (.ref C2) (.type "int") = some false)
    (fr4_Ratio : PySem.W.clsIn K C2 = some kd2)
    (fmro_Ratio : kd2.mro = [.ref C2, .type "object"])
    (fr_iadd_Ratio : PySem.W.findIn K (.ref C2) "__iadd__" = some none)
    (fro_iadd : PySem.W.findIn K (.type "object") "__iadd__" = some none)
    (fr_isub_Ratio : PySem.W.findIn K (.ref C2) "__isub__" = some none)
    (fro_isub : PySem.W.findIn K (.type "object") "__isub__" = some none)
    (fr_imul_Ratio : PySem.W.findIn K (.ref C2) "__imul__" = some none)
    (fro_imul : PySem.W.findIn K (.type "object") "__imul__" = some none)
    (fri_add : PySem.W.findIn K (.type "int") "__add__" = some vi0)
    (fri_radd : PySem.W.findIn K (.type "int") "__radd__" = some vi1)
    (fri_sub : PySem.W.findIn K (.type "int") "__sub__" = some vi2)
    (fri_rsub : PySem.W.findIn K (.type "int") "__rsub__" = some vi3)
    (fri_mul : PySem.W.findIn K (.type "int") "__mul__" = some vi4)
    (fri_rmul : PySem.W.findIn K (.type "int") "__rmul__" = some vi5)
    (frr_radd_Ratio : PySem.W.findIn K (.ref C2) "__radd__" = some vr2_0)
    (frs_radd_Ratio : refOr vr2_0 = true)
    (frr_rsub_Ratio : PySem.W.findIn K (.ref C2) "__rsub__" = some vr2_1)
    (frs_rsub_Ratio : refOr vr2_1 = true)
    (frr_rmul_Ratio : PySem.W.findIn K (.ref C2) "__rmul__" = some vr2_2)
    (frs_rmul_Ratio : refOr vr2_2 = true)
    (frh_add_Ratio : PySem.W.findIn K (.ref C2) "__add__" = some (some (.ref vh2_0)))
    (frh_sub_Ratio : PySem.W.findIn K (.ref C2) "__sub__" = some (some (.ref vh2_1)))
    (frh_mul_Ratio : PySem.W.findIn K (.ref C2) "__mul__" = some (some (.ref vh2_2)))
    (fna_Rule_take : PySem.W.findIn K (.ref C24) "take" = some none)
    (fna_Rule_place : PySem.W.findIn K (.ref C24) "place" = some none)
    (fna_Rule_period : PySem.W.findIn K (.ref C24) "period" = some none)
    (fki_Short_CostError : PySem.W.kitOne K (.ref C10) (.ref C0) = some true)
    (fki_int_Ratio : PySem.W.kitOne K (.type "int") (.ref C2) = some false)
    (a0 : PySem.W.nsIn K mainGlobals "_law_bag" = some (some (.ref f0)))
    (l0 : K.lookup f0 = some ⟨oc0, od0, .func (PySem.W.fnOf "_law_bag" "_law_bag" (defArgs s_l_bag) (defBody s_l_bag) (defScope s_l_bag) .none kV0 dc0 pm0 an0 cd0 ct0), sl0⟩)
    (c0 : PySem.W.codeIn K cd0 "_law_bag" = true)
    (k0 : PySem.W.keepIn K (.ref f0) = true)
    (a1 : PySem.W.nsIn K mainGlobals "_law_draw" = some (some (.ref f1)))
    (l1 : K.lookup f1 = some ⟨oc1, od1, .func (PySem.W.fnOf "_law_draw" "_law_draw" (defArgs s_l_draw) (defBody s_l_draw) (defScope s_l_draw) .none kV1 dc1 pm1 an1 cd1 ct1), sl1⟩)
    (c1 : PySem.W.codeIn K cd1 "_law_draw" = true)
    (k1 : PySem.W.keepIn K (.ref f1) = true)
    (a2 : PySem.W.nsIn K mainGlobals "_law_rule" = some (some (.ref f2)))
    (l2 : K.lookup f2 = some ⟨oc2, od2, .func (PySem.W.fnOf "_law_rule" "_law_rule" (defArgs s_l_rule) (defBody s_l_rule) (defScope s_l_rule) .none kV2 dc2 pm2 an2 cd2 ct2), sl2⟩)
    (c2 : PySem.W.codeIn K cd2 "_law_rule" = true)
    (k2 : PySem.W.keepIn K (.ref f2) = true)
    (a3 : PySem.W.nsIn K mainGlobals "_law_names" = some (some (.ref f3)))
    (l3 : K.lookup f3 = some ⟨oc3, od3, .func (PySem.W.fnOf "_law_names" "_law_names" (defArgs s_l_names) (defBody s_l_names) (defScope s_l_names) .none kV3 dc3 pm3 an3 cd3 ct3), sl3⟩)
    (c3 : PySem.W.codeIn K cd3 "_law_names" = true)
    (k3 : PySem.W.keepIn K (.ref f3) = true)
    (a4 : PySem.W.nsIn K mainGlobals "_law_pick" = some (some (.ref f4)))
    (l4 : K.lookup f4 = some ⟨oc4, od4, .func (PySem.W.fnOf "_law_pick" "_law_pick" (defArgs s_l_pick) (defBody s_l_pick) (defScope s_l_pick) .none kV4 dc4 pm4 an4 cd4 ct4), sl4⟩)
    (c4 : PySem.W.codeIn K cd4 "_law_pick" = true)
    (k4 : PySem.W.keepIn K (.ref f4) = true)
    (a5 : PySem.W.findIn K (.ref C2) "__init__" = some (some (.ref f5)))
    (i5 : PySem.W.isFn K (.ref f5) = true)
    (l5 : K.lookup f5 = some ⟨oc5, od5, .func (PySem.W.fnOf "__init__" "Ratio.__init__" (defArgs s_Ratio_init) (defBody s_Ratio_init) (defScope s_Ratio_init) (.ref T5) kV5 dc5 pm5 an5 cd5 ct5), sl5⟩)
    (c5 : PySem.W.codeIn K cd5 "Ratio.__init__" = true)
    (k5 : PySem.W.keepIn K (.ref f5) = true)
    (t5 : K.lookup T5 = some ⟨oT5, dT5, .seq #[.int 1 tk5_0] nT5, sT5⟩)
    (a6 : PySem.W.nsIn K mainGlobals "_law_amount" = some (some (.ref f6)))
    (l6 : K.lookup f6 = some ⟨oc6, od6, .func (PySem.W.fnOf "_law_amount" "_law_amount" (defArgs s_l_amount) (defBody s_l_amount) (defScope s_l_amount) .none kV6 dc6 pm6 an6 cd6 ct6), sl6⟩)
    (c6 : PySem.W.codeIn K cd6 "_law_amount" = true)
    (k6 : PySem.W.keepIn K (.ref f6) = true)
    (a7 : PySem.W.nsIn K mainGlobals "_law_layers" = some (some (.ref f7)))
    (l7 : K.lookup f7 = some ⟨oc7, od7, .func (PySem.W.fnOf "_law_layers" "_law_layers" (defArgs s_l_layers) (defBody s_l_layers) (defScope s_l_layers) .none kV7 dc7 pm7 an7 cd7 ct7), sl7⟩)
    (c7 : PySem.W.codeIn K cd7 "_law_layers" = true)
    (k7 : PySem.W.keepIn K (.ref f7) = true)
    (a8 : PySem.W.nsIn K mainGlobals "as_ratio" = some (some (.ref f8)))
    (l8 : K.lookup f8 = some ⟨oc8, od8, .func (PySem.W.fnOf "as_ratio" "as_ratio" (defArgs s_as_ratio) (defBody s_as_ratio) (defScope s_as_ratio) .none kV8 dc8 pm8 an8 cd8 ct8), sl8⟩)
    (c8 : PySem.W.codeIn K cd8 "as_ratio" = true)
    (k8 : PySem.W.keepIn K (.ref f8) = true)
    (a9 : PySem.W.findIn K (.ref C2) "__add__" = some (some (.ref f9)))
    (i9 : PySem.W.isFn K (.ref f9) = true)
    (l9 : K.lookup f9 = some ⟨oc9, od9, .func (PySem.W.fnOf "__add__" "Ratio.__add__" (defArgs s_Ratio_add) (defBody s_Ratio_add) (defScope s_Ratio_add) .none kV9 dc9 pm9 an9 cd9 ct9), sl9⟩)
    (c9 : PySem.W.codeIn K cd9 "Ratio.__add__" = true)
    (k9 : PySem.W.keepIn K (.ref f9) = true)
    (a10 : PySem.W.nsIn K mainGlobals "_law_total" = some (some (.ref f10)))
    (l10 : K.lookup f10 = some ⟨oc10, od10, .func (PySem.W.fnOf "_law_total" "_law_total" (defArgs s_l_total) (defBody s_l_total) (defScope s_l_total) .none kV10 dc10 pm10 an10 cd10 ct10), sl10⟩)
    (c10 : PySem.W.codeIn K cd10 "_law_total" = true)
    (k10 : PySem.W.keepIn K (.ref f10) = true)
    (a11 : PySem.W.findIn K (.ref C2) "over" = some (some (.ref f11)))
    (i11 : PySem.W.isFn K (.ref f11) = true)
    (l11 : K.lookup f11 = some ⟨oc11, od11, .func (PySem.W.fnOf "over" "Ratio.over" (defArgs s_Ratio_over) (defBody s_Ratio_over) (defScope s_Ratio_over) .none kV11 dc11 pm11 an11 cd11 ct11), sl11⟩)
    (c11 : PySem.W.codeIn K cd11 "Ratio.over" = true)
    (k11 : PySem.W.keepIn K (.ref f11) = true)
    (a12 : PySem.W.findIn K (.ref C2) "floor" = some (some (.ref f12)))
    (i12 : PySem.W.isFn K (.ref f12) = true)
    (l12 : K.lookup f12 = some ⟨oc12, od12, .func (PySem.W.fnOf "floor" "Ratio.floor" (defArgs s_Ratio_floor) (defBody s_Ratio_floor) (defScope s_Ratio_floor) .none kV12 dc12 pm12 an12 cd12 ct12), sl12⟩)
    (c12 : PySem.W.codeIn K cd12 "Ratio.floor" = true)
    (k12 : PySem.W.keepIn K (.ref f12) = true)
    (a13 : PySem.W.nsIn K mainGlobals "_law_wanted" = some (some (.ref f13)))
    (l13 : K.lookup f13 = some ⟨oc13, od13, .func (PySem.W.fnOf "_law_wanted" "_law_wanted" (defArgs s_l_wanted) (defBody s_l_wanted) (defScope s_l_wanted) .none kV13 dc13 pm13 an13 cd13 ct13), sl13⟩)
    (c13 : PySem.W.codeIn K cd13 "_law_wanted" = true)
    (k13 : PySem.W.keepIn K (.ref f13) = true)
    (a14 : PySem.W.nsIn K mainGlobals "is_whole" = some (some (.ref f14)))
    (l14 : K.lookup f14 = some ⟨oc14, od14, .func (PySem.W.fnOf "is_whole" "is_whole" (defArgs s_is_whole) (defBody s_is_whole) (defScope s_is_whole) .none kV14 dc14 pm14 an14 cd14 ct14), sl14⟩)
    (c14 : PySem.W.codeIn K cd14 "is_whole" = true)
    (k14 : PySem.W.keepIn K (.ref f14) = true)
    (a15 : PySem.W.findIn K (.ref C9) "__init__" = some (some (.ref f15)))
    (i15 : PySem.W.isFn K (.ref f15) = true)
    (ti15 : PySem.W.typeIn K (.ref f15) = some (.type "function"))
    (l15 : K.lookup f15 = some ⟨oc15, od15, .func (PySem.W.fnOf "__init__" "BadRule.__init__" (defArgs s_BadRule_init) (defBody s_BadRule_init) (defScope s_BadRule_init) .none kV15 dc15 pm15 an15 cd15 ct15), sl15⟩)
    (c15 : PySem.W.codeIn K cd15 "BadRule.__init__" = true)
    (k15 : PySem.W.keepIn K (.ref f15) = true)
    (a16 : PySem.W.findIn K (.ref C24) "__init__" = some (some (.ref f16)))
    (i16 : PySem.W.isFn K (.ref f16) = true)
    (l16 : K.lookup f16 = some ⟨oc16, od16, .func (PySem.W.fnOf "__init__" "Rule.__init__" (defArgs s_Rule_init) (defBody s_Rule_init) (defScope s_Rule_init) .none (.ref D16) dc16 pm16 an16 cd16 ct16), sl16⟩)
    (q16_0 : PySem.W.nsIn K D16 "place" = some (some (.str "own" kk16_0)))
    (q16_1 : PySem.W.nsIn K D16 "period" = some (some (.int 0 kk16_1)))
    (c16 : PySem.W.codeIn K cd16 "Rule.__init__" = true)
    (k16 : PySem.W.keepIn K (.ref f16) = true)
    (a17 : PySem.W.nsIn K mainGlobals "_law_made" = some (some (.ref f17)))
    (l17 : K.lookup f17 = some ⟨oc17, od17, .func (PySem.W.fnOf "_law_made" "_law_made" (defArgs s_l_made) (defBody s_l_made) (defScope s_l_made) .none kV17 dc17 pm17 an17 cd17 ct17), sl17⟩)
    (c17 : PySem.W.codeIn K cd17 "_law_made" = true)
    (k17 : PySem.W.keepIn K (.ref f17) = true)
    (a18 : PySem.W.findIn K (.ref C2) "at_most" = some (some (.ref f18)))
    (i18 : PySem.W.isFn K (.ref f18) = true)
    (l18 : K.lookup f18 = some ⟨oc18, od18, .func (PySem.W.fnOf "at_most" "Ratio.at_most" (defArgs s_Ratio_at_most) (defBody s_Ratio_at_most) (defScope s_Ratio_at_most) .none kV18 dc18 pm18 an18 cd18 ct18), sl18⟩)
    (c18 : PySem.W.codeIn K cd18 "Ratio.at_most" = true)
    (k18 : PySem.W.keepIn K (.ref f18) = true)
    (a19 : PySem.W.findIn K (.ref C2) "__sub__" = some (some (.ref f19)))
    (i19 : PySem.W.isFn K (.ref f19) = true)
    (l19 : K.lookup f19 = some ⟨oc19, od19, .func (PySem.W.fnOf "__sub__" "Ratio.__sub__" (defArgs s_Ratio_sub) (defBody s_Ratio_sub) (defScope s_Ratio_sub) .none kV19 dc19 pm19 an19 cd19 ct19), sl19⟩)
    (c19 : PySem.W.codeIn K cd19 "Ratio.__sub__" = true)
    (k19 : PySem.W.keepIn K (.ref f19) = true)
    (a20 : PySem.W.nsIn K mainGlobals "_law_first" = some (some (.ref f20)))
    (l20 : K.lookup f20 = some ⟨oc20, od20, .func (PySem.W.fnOf "_law_first" "_law_first" (defArgs s_l_first) (defBody s_l_first) (defScope s_l_first) .none kV20 dc20 pm20 an20 cd20 ct20), sl20⟩)
    (c20 : PySem.W.codeIn K cd20 "_law_first" = true)
    (k20 : PySem.W.keepIn K (.ref f20) = true)
    (a21 : PySem.W.findIn K (.ref C2) "__mul__" = some (some (.ref f21)))
    (i21 : PySem.W.isFn K (.ref f21) = true)
    (l21 : K.lookup f21 = some ⟨oc21, od21, .func (PySem.W.fnOf "__mul__" "Ratio.__mul__" (defArgs s_Ratio_mul) (defBody s_Ratio_mul) (defScope s_Ratio_mul) .none kV21 dc21 pm21 an21 cd21 ct21), sl21⟩)
    (c21 : PySem.W.codeIn K cd21 "Ratio.__mul__" = true)
    (k21 : PySem.W.keepIn K (.ref f21) = true)
    (a22 : PySem.W.findIn K (.ref C2) "same" = some (some (.ref f22)))
    (i22 : PySem.W.isFn K (.ref f22) = true)
    (l22 : K.lookup f22 = some ⟨oc22, od22, .func (PySem.W.fnOf "same" "Ratio.same" (defArgs s_Ratio_same) (defBody s_Ratio_same) (defScope s_Ratio_same) .none kV22 dc22 pm22 an22 cd22 ct22), sl22⟩)
    (c22 : PySem.W.codeIn K cd22 "Ratio.same" = true)
    (k22 : PySem.W.keepIn K (.ref f22) = true)
    (a23 : PySem.W.nsIn K mainGlobals "_law_part" = some (some (.ref f23)))
    (l23 : K.lookup f23 = some ⟨oc23, od23, .func (PySem.W.fnOf "_law_part" "_law_part" (defArgs s_l_part) (defBody s_l_part) (defScope s_l_part) .none kV23 dc23 pm23 an23 cd23 ct23), sl23⟩)
    (c23 : PySem.W.codeIn K cd23 "_law_part" = true)
    (k23 : PySem.W.keepIn K (.ref f23) = true)
    (a24 : PySem.W.nsIn K mainGlobals "_law_joined" = some (some (.ref f24)))
    (l24 : K.lookup f24 = some ⟨oc24, od24, .func (PySem.W.fnOf "_law_joined" "_law_joined" (defArgs s_l_joined) (defBody s_l_joined) (defScope s_l_joined) .none kV24 dc24 pm24 an24 cd24 ct24), sl24⟩)
    (c24 : PySem.W.codeIn K cd24 "_law_joined" = true)
    (k24 : PySem.W.keepIn K (.ref f24) = true)
    (a25 : PySem.W.nsIn K mainGlobals "_law_took" = some (some (.ref f25)))
    (l25 : K.lookup f25 = some ⟨oc25, od25, .func (PySem.W.fnOf "_law_took" "_law_took" (defArgs s_l_took) (defBody s_l_took) (defScope s_l_took) .none kV25 dc25 pm25 an25 cd25 ct25), sl25⟩)
    (c25 : PySem.W.codeIn K cd25 "_law_took" = true)
    (k25 : PySem.W.keepIn K (.ref f25) = true)
    (a26 : PySem.W.findIn K (.ref C10) "__init__" = some (some (.ref f26)))
    (i26 : PySem.W.isFn K (.ref f26) = true)
    (ti26 : PySem.W.typeIn K (.ref f26) = some (.type "function"))
    (l26 : K.lookup f26 = some ⟨oc26, od26, .func (PySem.W.fnOf "__init__" "Short.__init__" (defArgs s_Short_init) (defBody s_Short_init) (defScope s_Short_init) .none kV26 dc26 pm26 an26 cd26 ct26), sl26⟩)
    (c26 : PySem.W.codeIn K cd26 "Short.__init__" = true)
    (k26 : PySem.W.keepIn K (.ref f26) = true)
    (rd2 : PySem.W.readsIn K C2 (.type "type") = true)
    (ga2 : PySem.W.specialIn K (.ref C2) "__getattribute__" = some (some (.builtin "type.__getattribute__")))
    (a27 : PySem.W.findCls K (.ref C2) (.type "type") "sum_of" = some (.get (.builtin "staticmethod.__get__") (.ref p27) .none (.ref C2)))
    (i27 : PySem.W.recIn K p27 "staticmethod" = some (.ref f27 :: rest27))
    (l27 : K.lookup f27 = some ⟨oc27, od27, .func (PySem.W.fnOf "sum_of" "Ratio.sum_of" (defArgs s_Ratio_sum_of) (defBody s_Ratio_sum_of) (defScope s_Ratio_sum_of) .none kV27 dc27 pm27 an27 cd27 ct27), sl27⟩)
    (c27 : PySem.W.codeIn K cd27 "Ratio.sum_of" = true)
    (k27 : PySem.W.keepIn K (.ref f27) = true)
    (a28 : PySem.W.findIn K (.ref C2) "less" = some (some (.ref f28)))
    (i28 : PySem.W.isFn K (.ref f28) = true)
    (l28 : K.lookup f28 = some ⟨oc28, od28, .func (PySem.W.fnOf "less" "Ratio.less" (defArgs s_Ratio_less) (defBody s_Ratio_less) (defScope s_Ratio_less) .none kV28 dc28 pm28 an28 cd28 ct28), sl28⟩)
    (c28 : PySem.W.codeIn K cd28 "Ratio.less" = true)
    (k28 : PySem.W.keepIn K (.ref f28) = true)
    (a29 : PySem.W.findIn K (.ref C2) "__rsub__" = some (some (.ref f29)))
    (i29 : PySem.W.isFn K (.ref f29) = true)
    (l29 : K.lookup f29 = some ⟨oc29, od29, .func (PySem.W.fnOf "__rsub__" "Ratio.__rsub__" (defArgs s_Ratio_rsub) (defBody s_Ratio_rsub) (defScope s_Ratio_rsub) .none kV29 dc29 pm29 an29 cd29 ct29), sl29⟩)
    (c29 : PySem.W.codeIn K cd29 "Ratio.__rsub__" = true)
    (k29 : PySem.W.keepIn K (.ref f29) = true)
    (a30 : PySem.W.nsIn K mainGlobals "_even_units" = some (some (.ref f30)))
    (l30 : K.lookup f30 = some ⟨oc30, od30, .func (PySem.W.fnOf "_even_units" "_even_units" (defArgs s__even_units) (defBody s__even_units) (defScope s__even_units) .none kV30 dc30 pm30 an30 cd30 ct30), sl30⟩)
    (c30 : PySem.W.codeIn K cd30 "_even_units" = true)
    (k30 : PySem.W.keepIn K (.ref f30) = true)
    (a31 : PySem.W.nsIn K mainGlobals "_first_units" = some (some (.ref f31)))
    (l31 : K.lookup f31 = some ⟨oc31, od31, .func (PySem.W.fnOf "_first_units" "_first_units" (defArgs s__first_units) (defBody s__first_units) (defScope s__first_units) .none kV31 dc31 pm31 an31 cd31 ct31), sl31⟩)
    (c31 : PySem.W.codeIn K cd31 "_first_units" = true)
    (k31 : PySem.W.keepIn K (.ref f31) = true)
    (a32 : PySem.W.nsIn K mainGlobals "_last_units" = some (some (.ref f32)))
    (l32 : K.lookup f32 = some ⟨oc32, od32, .func (PySem.W.fnOf "_last_units" "_last_units" (defArgs s__last_units) (defBody s__last_units) (defScope s__last_units) .none kV32 dc32 pm32 an32 cd32 ct32), sl32⟩)
    (c32 : PySem.W.codeIn K cd32 "_last_units" = true)
    (k32 : PySem.W.keepIn K (.ref f32) = true)
    (a33 : PySem.W.findIn K (.ref C24) "parted" = some (some (.ref f33)))
    (i33 : PySem.W.isFn K (.ref f33) = true)
    (l33 : K.lookup f33 = some ⟨oc33, od33, .func (PySem.W.fnOf "parted" "Rule.parted" (defArgs s_Rule_parted) (defBody s_Rule_parted) (defScope s_Rule_parted) .none kV33 dc33 pm33 an33 cd33 ct33), sl33⟩)
    (c33 : PySem.W.codeIn K cd33 "Rule.parted" = true)
    (k33 : PySem.W.keepIn K (.ref f33) = true)
    (fn34 : PySem.W.fnIn K f34 = true)
    (a34 : PySem.W.findIn K (.ref C24) "__call__" = some (some (.ref f34)))
    (i34 : PySem.W.isFn K (.ref f34) = true)
    (l34 : K.lookup f34 = some ⟨oc34, od34, .func (PySem.W.fnOf "__call__" "Rule.__call__" (defArgs s_Rule_call) (defBody s_Rule_call) (defScope s_Rule_call) .none kV34 dc34 pm34 an34 cd34 ct34), sl34⟩)
    (c34 : PySem.W.codeIn K cd34 "Rule.__call__" = true)
    (k34 : PySem.W.keepIn K (.ref f34) = true)
    (a35 : PySem.W.nsIn K mainGlobals "_law_short" = some (some (.ref f35)))
    (l35 : K.lookup f35 = some ⟨oc35, od35, .func (PySem.W.fnOf "_law_short" "_law_short" (defArgs s_l_short) (defBody s_l_short) (defScope s_l_short) .none kV35 dc35 pm35 an35 cd35 ct35), sl35⟩)
    (c35 : PySem.W.codeIn K cd35 "_law_short" = true)
    (k35 : PySem.W.keepIn K (.ref f35) = true)
    (a36 : PySem.W.nsIn K mainGlobals "_law_parts_same" = some (some (.ref f36)))
    (l36 : K.lookup f36 = some ⟨oc36, od36, .func (PySem.W.fnOf "_law_parts_same" "_law_parts_same" (defArgs s_l_parts_same) (defBody s_l_parts_same) (defScope s_l_parts_same) .none kV36 dc36 pm36 an36 cd36 ct36), sl36⟩)
    (c36 : PySem.W.codeIn K cd36 "_law_parts_same" = true)
    (k36 : PySem.W.keepIn K (.ref f36) = true)
    (a37 : PySem.W.nsIn K mainGlobals "law" = some (some (.ref f37)))
    (l37 : K.lookup f37 = some ⟨oc37, od37, .func (PySem.W.fnOf "law" "law" (defArgs s_law) (defBody s_law) (defScope s_law) .none kV37 dc37 pm37 an37 cd37 ct37), sl37⟩)
    (c37 : PySem.W.codeIn K cd37 "law" = true)
    (k37 : PySem.W.keepIn K (.ref f37) = true)
    : ∃ fd : FuncData, (∀ (s : Shared) (v : Value), BindsTo s fd ⟨[v], []⟩ [("_law_script", v)]) ∧ ∀ base : Heap, K.In base → base.Ns mainGlobals mg → FnOk l.prog w K mg base (L2N.CX l.prog w) 10 fa fd ["_law_script"] (sp_law K fun _ => 0) := by
  have e := hfa.symm.trans (PySem.W.mg_of X G a37)
  cases e
  have T : Txt K mg (fun n => if n = 0 then C0 else if n = 1 then C1 else if n = 9 then C9 else if n = 10 then C10 else if n = 2 then C2 else if n = 24 then C24 else 0) := ⟨PySem.W.mg_none_of X G z_abs, PySem.W.mg_none_of X G z_all, PySem.W.mg_none_of X G z_bool, PySem.W.mg_none_of X G z_int, PySem.W.mg_none_of X G z_isinstance, PySem.W.mg_none_of X G z_len, PySem.W.mg_none_of X G z_list, PySem.W.mg_none_of X G z_range, PySem.W.mg_none_of X G z_tuple, PySem.W.mg_of X G z_gcd, ⟨_, PySem.W.mg_of X G zc__MOST⟩, PySem.W.mg_of X G aC0, PySem.W.mg_of X G aC1, fkp_NoRatio, fex_NoRatio, fsb_NoRatio, fty_NoRatio, ⟨⟨_, _, _, _, _, _, _, _, _, _, _, _, _, _, _, xl_BadRule, fxr_BadRule⟩, sa_BadRule, fsb_BadRule, fty_BadRule, kpr_BadRule⟩, fnf_BadRule_word, PySem.W.mg_of X G aC10, exm1 fsb_Short fxi_Short fty_Short fxs_Short, ⟨fy1_Short, fy2_Short, fsb_Short, fy3_Short, fy4_Short, fo5, fo6, fy7_Short⟩, ⟨⟨_, _, _, _, _, _, _, _, _, _, _, _, _, _, _, xl_Short, fxr_Short⟩, sa_Short, fsb_Short, fty_Short, kpr_Short⟩, ⟨fy1_Short, fy2_Short, fsb_Short, fy3_Short⟩, fnf_Short_missing, PySem.W.mg_of X G aC2, ⟨pg2, hd2, po2, sa2⟩, fna_Ratio_top, fna_Ratio_bottom, fic_Ratio, fo5, fo6, fim_Ratio, ⟨fr1_Ratio, fr2_Ratio, fr3_Ratio, ⟨_, fr4_Ratio, fmro_Ratio⟩, ⟨fr_iadd_Ratio, fro_iadd⟩, ⟨fr_isub_Ratio, fro_isub⟩, ⟨fr_imul_Ratio, fro_imul⟩, ⟨_, _, _, _, _, _, fri_add, fri_radd, fri_sub, fri_rsub, fri_mul, fri_rmul⟩, ⟨_, _, _, ⟨frr_radd_Ratio, frs_radd_Ratio⟩, ⟨frr_rsub_Ratio, frs_rsub_Ratio⟩, frr_rmul_Ratio, frs_rmul_Ratio⟩, ⟨_, _, _, frh_add_Ratio, frh_sub_Ratio, frh_mul_Ratio⟩⟩, ⟨pg24, hd24, po24, sa24⟩, fna_Rule_take, fna_Rule_place, fna_Rule_period, fki_Short_CostError, fki_int_Ratio⟩
  have F0 := fun_mk (st := s_l_bag) l0 c0 k0
  have b0 := F0.binds (ps := ["_law_script"]) fun _ _ _ _ _ _ us hl => match us, hl with | [_], _ => rfl
  have F1 := fun_mk (st := s_l_draw) l1 c1 k1
  have b1 := F1.binds (ps := ["_law_bag_here", "_law_size"]) fun _ _ _ _ _ _ us hl => match us, hl with | [_, _], _ => rfl
  have F2 := fun_mk (st := s_l_rule) l2 c2 k2
  have b2 := F2.binds (ps := ["_law_bag_here"]) fun _ _ _ _ _ _ us hl => match us, hl with | [_], _ => rfl
  have F3 := fun_mk (st := s_l_names) l3 c3 k3
  have b3 := F3.binds (ps := ["_law_bag_here", "_law_count", "_law_words"]) fun _ _ _ _ _ _ us hl => match us, hl with | [_, _, _], _ => rfl
  have F4 := fun_mk (st := s_l_pick) l4 c4 k4
  have b4 := F4.binds (ps := ["_law_bag_here", "_law_items"]) fun _ _ _ _ _ _ us hl => match us, hl with | [_, _], _ => rfl
  have F5 : FunD K "__init__" "Ratio.__init__" (defArgs s_Ratio_init) (defBody s_Ratio_init) (defScope s_Ratio_init) [.int 1] [] f5 _ := ⟨⟨_, _, _, _, _, _, _, _, _, _, rfl, l5, c5, .inr ⟨by simp, T5, _, [.int 1 tk5_0], nT5, rfl, t5, rfl, (.cons ⟨_, rfl⟩ .nil)⟩, .inl rfl⟩, k5⟩
  have b5_2 := F5.binds1 (ps := ["self", "top", "bottom"]) 3 1 (by simp) (by decide) fun _ _ _ _ _ _ _ us its hl hi => match us, hl, its, hi with | [_, _, _], _, [_], _ => ⟨_, rfl, rfl⟩
  have b5_1 := F5.binds1 (ps := ["self", "top", "bottom"]) 2 0 (by simp) (by decide) fun _ _ _ _ _ _ _ us its hl hi => match us, hl, its, hi with | [_, _], _, [_], _ => ⟨_, rfl, rfl⟩
  have F6 := fun_mk (st := s_l_amount) l6 c6 k6
  have b6 := F6.binds (ps := ["_law_bag_here"]) fun _ _ _ _ _ _ us hl => match us, hl with | [_], _ => rfl
  have F7 := fun_mk (st := s_l_layers) l7 c7 k7
  have b7 := F7.binds (ps := ["_law_bag_here", "_law_lots", "_law_most"]) fun _ _ _ _ _ _ us hl => match us, hl with | [_, _, _], _ => rfl
  have F8 := fun_mk (st := s_as_ratio) l8 c8 k8
  have b8 := F8.binds (ps := ["number"]) fun _ _ _ _ _ _ us hl => match us, hl with | [_], _ => rfl
  have F9 := fun_mk (st := s_Ratio_add) l9 c9 k9
  have b9 := F9.binds (ps := ["self", "other"]) fun _ _ _ _ _ _ us hl => match us, hl with | [_, _], _ => rfl
  have F10 := fun_mk (st := s_l_total) l10 c10 k10
  have b10 := F10.binds (ps := ["_law_parts"]) fun _ _ _ _ _ _ us hl => match us, hl with | [_], _ => rfl
  have F11 := fun_mk (st := s_Ratio_over) l11 c11 k11
  have b11 := F11.binds (ps := ["self", "other"]) fun _ _ _ _ _ _ us hl => match us, hl with | [_, _], _ => rfl
  have F12 := fun_mk (st := s_Ratio_floor) l12 c12 k12
  have b12 := F12.binds (ps := ["self"]) fun _ _ _ _ _ _ us hl => match us, hl with | [_], _ => rfl
  have F13 := fun_mk (st := s_l_wanted) l13 c13 k13
  have b13 := F13.binds (ps := ["_law_bag_here", "_law_layers_here"]) fun _ _ _ _ _ _ us hl => match us, hl with | [_, _], _ => rfl
  have F14 := fun_mk (st := s_is_whole) l14 c14 k14
  have b14 := F14.binds (ps := ["number", "least"]) fun _ _ _ _ _ _ us hl => match us, hl with | [_, _], _ => rfl
  have F15 := fun_mk (st := s_BadRule_init) l15 c15 k15
  have b15 := F15.binds (ps := ["self", "word"]) fun _ _ _ _ _ _ us hl => match us, hl with | [_, _], _ => rfl
  have F16 : FunD K "__init__" "Rule.__init__" (defArgs s_Rule_init) (defBody s_Rule_init) (defScope s_Rule_init) [] [("place", .str "own"), ("period", .int 0)] f16 _ := ⟨⟨_, _, _, _, _, _, _, _, _, _, rfl, l16, c16, .inl ⟨rfl, rfl⟩, .inr ⟨D16, rfl, (hq_cons ⟨_, q16_0, ⟨_, rfl⟩⟩ (hq_cons ⟨_, q16_1, ⟨_, rfl⟩⟩ hq_nil))⟩⟩, k16⟩
  have e16_0 := F16.kbinds0 (ps := ["self", "take", "place", "period"]) 2 ["place", "period"] [] (fun vs mz zs => vs ++ (mz ++ zs)) (by simp) (by simp) (fun r1 r2 r3 => r1.append (r2.append r3)) fun _ _ _ _ _ _ us mv ws l1 l2 l3 => match us, l1, mv, l2, ws, l3 with | [_, _], _, [], _, [_, _], _ => rfl
  have F17 := fun_mk (st := s_l_made) l17 c17 k17
  have b17 := F17.binds (ps := ["_law_rule_here"]) fun _ _ _ _ _ _ us hl => match us, hl with | [_], _ => rfl
  have F18 := fun_mk (st := s_Ratio_at_most) l18 c18 k18
  have b18 := F18.binds (ps := ["self", "other"]) fun _ _ _ _ _ _ us hl => match us, hl with | [_, _], _ => rfl
  have F19 := fun_mk (st := s_Ratio_sub) l19 c19 k19
  have b19 := F19.binds (ps := ["self", "other"]) fun _ _ _ _ _ _ us hl => match us, hl with | [_, _], _ => rfl
  have F20 := fun_mk (st := s_l_first) l20 c20 k20
  have b20 := F20.binds (ps := ["_law_parts", "_law_units"]) fun _ _ _ _ _ _ us hl => match us, hl with | [_, _], _ => rfl
  have F21 := fun_mk (st := s_Ratio_mul) l21 c21 k21
  have b21 := F21.binds (ps := ["self", "other"]) fun _ _ _ _ _ _ us hl => match us, hl with | [_, _], _ => rfl
  have F22 := fun_mk (st := s_Ratio_same) l22 c22 k22
  have b22 := F22.binds (ps := ["self", "other"]) fun _ _ _ _ _ _ us hl => match us, hl with | [_, _], _ => rfl
  have F23 := fun_mk (st := s_l_part) l23 c23 k23
  have b23 := F23.binds (ps := ["_law_parts", "_law_units"]) fun _ _ _ _ _ _ us hl => match us, hl with | [_, _], _ => rfl
  have F24 := fun_mk (st := s_l_joined) l24 c24 k24
  have b24 := F24.binds (ps := ["_law_layers_here"]) fun _ _ _ _ _ _ us hl => match us, hl with | [_], _ => rfl
  have F25 := fun_mk (st := s_l_took) l25 c25 k25
  have b25 := F25.binds (ps := ["_law_take", "_law_layers_here", "_law_units"]) fun _ _ _ _ _ _ us hl => match us, hl with | [_, _, _], _ => rfl
  have F26 := fun_mk (st := s_Short_init) l26 c26 k26
  have b26 := F26.binds (ps := ["self", "missing"]) fun _ _ _ _ _ _ us hl => match us, hl with | [_, _], _ => rfl
  have F27 := fun_mk (st := s_Ratio_sum_of) l27 c27 k27
  have b27 := F27.binds (ps := ["items"]) fun _ _ _ _ _ _ us hl => match us, hl with | [_], _ => rfl
  have F28 := fun_mk (st := s_Ratio_less) l28 c28 k28
  have b28 := F28.binds (ps := ["self", "other"]) fun _ _ _ _ _ _ us hl => match us, hl with | [_, _], _ => rfl
  have F29 := fun_mk (st := s_Ratio_rsub) l29 c29 k29
  have b29 := F29.binds (ps := ["self", "other"]) fun _ _ _ _ _ _ us hl => match us, hl with | [_, _], _ => rfl
  have F30 := fun_mk (st := s__even_units) l30 c30 k30
  have b30 := F30.binds (ps := ["parts", "units"]) fun _ _ _ _ _ _ us hl => match us, hl with | [_, _], _ => rfl
  have F31 := fun_mk (st := s__first_units) l31 c31 k31
  have b31 := F31.binds (ps := ["parts", "units"]) fun _ _ _ _ _ _ us hl => match us, hl with | [_, _], _ => rfl
  have F32 := fun_mk (st := s__last_units) l32 c32 k32
  have b32 := F32.binds (ps := ["parts", "units"]) fun _ _ _ _ _ _ us hl => match us, hl with | [_, _], _ => rfl
  have F33 := fun_mk (st := s_Rule_parted) l33 c33 k33
  have b33 := F33.binds (ps := ["self", "layers", "units"]) fun _ _ _ _ _ _ us hl => match us, hl with | [_, _, _], _ => rfl
  have F34 := fun_mk (st := s_Rule_call) l34 c34 k34
  have b34 := F34.binds (ps := ["self", "layers", "units"]) fun _ _ _ _ _ _ us hl => match us, hl with | [_, _, _], _ => rfl
  have F35 := fun_mk (st := s_l_short) l35 c35 k35
  have b35 := F35.binds (ps := ["_law_rule_here", "_law_layers_here", "_law_units"]) fun _ _ _ _ _ _ us hl => match us, hl with | [_, _, _], _ => rfl
  have F36 := fun_mk (st := s_l_parts_same) l36 c36 k36
  have b36 := F36.binds (ps := ["_law_told", "_law_due"]) fun _ _ _ _ _ _ us hl => match us, hl with | [_, _], _ => rfl
  have F37 := fun_mk (st := s_law) l37 c37 k37
  have b37 := F37.binds (ps := ["_law_script"]) fun _ _ _ _ _ _ us hl => match us, hl with | [_], _ => rfl
  refine ⟨PySem.W.fnOf "law" "law" (defArgs s_law) (defBody s_law) (defScope s_law) .none kV37 dc37 pm37 an37 cd37 ct37, fun s v => .of_eq rfl, fun base _ _ => ?_⟩
  have O0 : Own l.prog w K mg base 1 "_law_bag" ["_law_script"] (sp_l_bag K (fun n => if n = 0 then C0 else if n = 1 then C1 else if n = 9 then C9 else if n = 10 then C10 else if n = 2 then C2 else if n = 24 then C24 else 0)) := ⟨⟨f0, _, ok_l_bag F0 T , PySem.W.mg_of X G a0, k0, b0⟩⟩
  have O1 : Own l.prog w K mg base 1 "_law_draw" ["_law_bag_here", "_law_size"] (sp_l_draw K (fun n => if n = 0 then C0 else if n = 1 then C1 else if n = 9 then C9 else if n = 10 then C10 else if n = 2 then C2 else if n = 24 then C24 else 0)) := ⟨⟨f1, _, ok_l_draw F1 T , PySem.W.mg_of X G a1, k1, b1⟩⟩
  have O2 : Own l.prog w K mg base 2 "_law_rule" ["_law_bag_here"] (sp_l_rule K (fun n => if n = 0 then C0 else if n = 1 then C1 else if n = 9 then C9 else if n = 10 then C10 else if n = 2 then C2 else if n = 24 then C24 else 0)) := ⟨⟨f2, _, ok_l_rule F2 T O1, PySem.W.mg_of X G a2, k2, b2⟩⟩
  have O3 : Own l.prog w K mg base 2 "_law_names" ["_law_bag_here", "_law_count", "_law_words"] (sp_l_names K (fun n => if n = 0 then C0 else if n = 1 then C1 else if n = 9 then C9 else if n = 10 then C10 else if n = 2 then C2 else if n = 24 then C24 else 0)) := ⟨⟨f3, _, ok_l_names F3 T O1, PySem.W.mg_of X G a3, k3, b3⟩⟩
  have O4 : Own l.prog w K mg base 2 "_law_pick" ["_law_bag_here", "_law_items"] (sp_l_pick K (fun n => if n = 0 then C0 else if n = 1 then C1 else if n = 9 then C9 else if n = 10 then C10 else if n = 2 then C2 else if n = 24 then C24 else 0)) := ⟨⟨f4, _, ok_l_pick F4 T O1, PySem.W.mg_of X G a4, k4, b4⟩⟩
  obtain ⟨ds5_2, vd5_2, bd5_2⟩ := b5_2
  have O5_2 : OwnI l.prog w K mg base 1 "Ratio" C2 ["self", "top", "bottom"] [] (sp_Ratio_init K (fun n => if n = 0 then C0 else if n = 1 then C1 else if n = 9 then C9 else if n = 10 then C10 else if n = 2 then C2 else if n = 24 then C24 else 0)) := ⟨⟨f5, _, _, ok_Ratio_init F5 T , ⟨mk2, a5, i5, kc2⟩, PySem.W.mg_of X G aC2, bd5_2, vd5_2⟩⟩
  obtain ⟨ds5_1, vd5_1, bd5_1⟩ := b5_1
  have O5_1 : OwnI l.prog w K mg base 1 "Ratio" C2 ["self", "top", "bottom"] [.int 1] (sp_Ratio_init K (fun n => if n = 0 then C0 else if n = 1 then C1 else if n = 9 then C9 else if n = 10 then C10 else if n = 2 then C2 else if n = 24 then C24 else 0)) := ⟨⟨f5, _, _, ok_Ratio_init F5 T , ⟨mk2, a5, i5, kc2⟩, PySem.W.mg_of X G aC2, bd5_1, vd5_1⟩⟩
  have OH5_2 : OwnIH l.prog w K mg base 1 "Ratio" C2 ["self", "top", "bottom"] [] (sp_Ratio_init K (fun n => if n = 0 then C0 else if n = 1 then C1 else if n = 9 then C9 else if n = 10 then C10 else if n = 2 then C2 else if n = 24 then C24 else 0)) := ⟨⟨f5, _, _, hot_Ratio_init F5 T , ⟨mk2, a5, i5, kc2⟩, PySem.W.mg_of X G aC2, bd5_2, vd5_2⟩⟩
  have OH5_1 : OwnIH l.prog w K mg base 1 "Ratio" C2 ["self", "top", "bottom"] [.int 1] (sp_Ratio_init K (fun n => if n = 0 then C0 else if n = 1 then C1 else if n = 9 then C9 else if n = 10 then C10 else if n = 2 then C2 else if n = 24 then C24 else 0)) := ⟨⟨f5, _, _, hot_Ratio_init F5 T , ⟨mk2, a5, i5, kc2⟩, PySem.W.mg_of X G aC2, bd5_1, vd5_1⟩⟩
  have O6 : Own l.prog w K mg base 3 "_law_amount" ["_law_bag_here"] (sp_l_amount K (fun n => if n = 0 then C0 else if n = 1 then C1 else if n = 9 then C9 else if n = 10 then C10 else if n = 2 then C2 else if n = 24 then C24 else 0)) := ⟨⟨f6, _, ok_l_amount F6 T O1 O5_2 O5_1, PySem.W.mg_of X G a6, k6, b6⟩⟩
  have O7 : Own l.prog w K mg base 4 "_law_layers" ["_law_bag_here", "_law_lots", "_law_most"] (sp_l_layers K (fun n => if n = 0 then C0 else if n = 1 then C1 else if n = 9 then C9 else if n = 10 then C10 else if n = 2 then C2 else if n = 24 then C24 else 0)) := ⟨⟨f7, _, ok_l_layers F7 T O1 O4 O6, PySem.W.mg_of X G a7, k7, b7⟩⟩
  have O8 : Own l.prog w K mg base 3 "as_ratio" ["number"] (sp_as_ratio K (fun n => if n = 0 then C0 else if n = 1 then C1 else if n = 9 then C9 else if n = 10 then C10 else if n = 2 then C2 else if n = 24 then C24 else 0)) := ⟨⟨f8, _, ok_as_ratio F8 T O5_2 O5_1, PySem.W.mg_of X G a8, k8, b8⟩⟩
  have OH8 : OwnH l.prog w K mg base 3 "as_ratio" ["number"] (sp_as_ratio K (fun n => if n = 0 then C0 else if n = 1 then C1 else if n = 9 then C9 else if n = 10 then C10 else if n = 2 then C2 else if n = 24 then C24 else 0)) := ⟨⟨f8, _, hot_as_ratio F8 T OH5_2 OH5_1, PySem.W.mg_of X G a8, k8, b8⟩⟩
  have O9 : OwnM l.prog w K mg base 4 C2 "__add__" ["self", "other"] (sp_Ratio_add K (fun n => if n = 0 then C0 else if n = 1 then C1 else if n = 9 then C9 else if n = 10 then C10 else if n = 2 then C2 else if n = 24 then C24 else 0)) := ⟨⟨pg2, hd2, po2, sa2⟩, ⟨f9, _, ok_Ratio_add F9 T O8 O5_2 O5_1, ⟨a9, i9, k9⟩, b9⟩⟩
  have OH9 : OwnMH l.prog w K mg base 4 C2 "__add__" ["self", "other"] (sp_Ratio_add K (fun n => if n = 0 then C0 else if n = 1 then C1 else if n = 9 then C9 else if n = 10 then C10 else if n = 2 then C2 else if n = 24 then C24 else 0)) := ⟨⟨pg2, hd2, po2, sa2⟩, ⟨f9, _, hot_Ratio_add F9 T OH8 OH5_2 OH5_1, ⟨a9, i9, k9⟩, b9⟩⟩
  have O10 : Own l.prog w K mg base 5 "_law_total" ["_law_parts"] (sp_l_total K (fun n => if n = 0 then C0 else if n = 1 then C1 else if n = 9 then C9 else if n = 10 then C10 else if n = 2 then C2 else if n = 24 then C24 else 0)) := ⟨⟨f10, _, ok_l_total F10 T O5_2 O5_1 O9, PySem.W.mg_of X G a10, k10, b10⟩⟩
  have OH10 : OwnH l.prog w K mg base 5 "_law_total" ["_law_parts"] (sp_l_total K (fun n => if n = 0 then C0 else if n = 1 then C1 else if n = 9 then C9 else if n = 10 then C10 else if n = 2 then C2 else if n = 24 then C24 else 0)) := ⟨⟨f10, _, hot_l_total F10 T OH5_2 OH5_1 OH9, PySem.W.mg_of X G a10, k10, b10⟩⟩
  have O11 : OwnM l.prog w K mg base 4 C2 "over" ["self", "other"] (sp_Ratio_over K (fun n => if n = 0 then C0 else if n = 1 then C1 else if n = 9 then C9 else if n = 10 then C10 else if n = 2 then C2 else if n = 24 then C24 else 0)) := ⟨⟨pg2, hd2, po2, sa2⟩, ⟨f11, _, ok_Ratio_over F11 T O8 O5_2 O5_1, ⟨a11, i11, k11⟩, b11⟩⟩
  have O12 : OwnM l.prog w K mg base 1 C2 "floor" ["self"] (sp_Ratio_floor K (fun n => if n = 0 then C0 else if n = 1 then C1 else if n = 9 then C9 else if n = 10 then C10 else if n = 2 then C2 else if n = 24 then C24 else 0)) := ⟨⟨pg2, hd2, po2, sa2⟩, ⟨f12, _, ok_Ratio_floor F12 T , ⟨a12, i12, k12⟩, b12⟩⟩
  have O13 : Own l.prog w K mg base 6 "_law_wanted" ["_law_bag_here", "_law_layers_here"] (sp_l_wanted K (fun n => if n = 0 then C0 else if n = 1 then C1 else if n = 9 then C9 else if n = 10 then C10 else if n = 2 then C2 else if n = 24 then C24 else 0)) := ⟨⟨f13, _, ok_l_wanted F13 T O1 O10 O5_2 O5_1 O11 O12 O9, PySem.W.mg_of X G a13, k13, b13⟩⟩
  have O14 : Own l.prog w K mg base 1 "is_whole" ["number", "least"] (sp_is_whole K (fun n => if n = 0 then C0 else if n = 1 then C1 else if n = 9 then C9 else if n = 10 then C10 else if n = 2 then C2 else if n = 24 then C24 else 0)) := ⟨⟨f14, _, ok_is_whole F14 T , PySem.W.mg_of X G a14, k14, b14⟩⟩
  have O15 : OwnE l.prog w K mg base "BadRule" C9 ["word"] := ⟨T.ox_BadRule, ⟨f15, _, _, ok_BadRule_init F15 T , a15, ti15, PySem.W.mg_of X G aC9, b15⟩⟩
  obtain ⟨mv16_0, kb16_0⟩ := e16_0
  have O16_0 : OwnK l.prog w K mg base 3 "Rule" C24 ["self", "take", "place", "period"] 1 ["place", "period"] (fun vs zs => vs ++ ([] ++ zs)) (sp_Rule_init K (fun n => if n = 0 then C0 else if n = 1 then C1 else if n = 9 then C9 else if n = 10 then C10 else if n = 2 then C2 else if n = 24 then C24 else 0)) := ⟨⟨f16, _, _, ok_Rule_init F16 T O14 O15, ⟨mk24, a16, i16, kc24⟩, PySem.W.mg_of X G aC24, kb16_0⟩⟩
  have O17 : Own l.prog w K mg base 5 "_law_made" ["_law_rule_here"] (sp_l_made K (fun n => if n = 0 then C0 else if n = 1 then C1 else if n = 9 then C9 else if n = 10 then C10 else if n = 2 then C2 else if n = 24 then C24 else 0)) := ⟨⟨f17, _, ok_l_made F17 T O16_0, PySem.W.mg_of X G a17, k17, b17⟩⟩
  have O18 : OwnM l.prog w K mg base 4 C2 "at_most" ["self", "other"] (sp_Ratio_at_most K (fun n => if n = 0 then C0 else if n = 1 then C1 else if n = 9 then C9 else if n = 10 then C10 else if n = 2 then C2 else if n = 24 then C24 else 0)) := ⟨⟨pg2, hd2, po2, sa2⟩, ⟨f18, _, ok_Ratio_at_most F18 T O8, ⟨a18, i18, k18⟩, b18⟩⟩
  have O19 : OwnM l.prog w K mg base 4 C2 "__sub__" ["self", "other"] (sp_Ratio_sub K (fun n => if n = 0 then C0 else if n = 1 then C1 else if n = 9 then C9 else if n = 10 then C10 else if n = 2 then C2 else if n = 24 then C24 else 0)) := ⟨⟨pg2, hd2, po2, sa2⟩, ⟨f19, _, ok_Ratio_sub F19 T O8 O5_2 O5_1, ⟨a19, i19, k19⟩, b19⟩⟩
  have OH19 : OwnMH l.prog w K mg base 4 C2 "__sub__" ["self", "other"] (sp_Ratio_sub K (fun n => if n = 0 then C0 else if n = 1 then C1 else if n = 9 then C9 else if n = 10 then C10 else if n = 2 then C2 else if n = 24 then C24 else 0)) := ⟨⟨pg2, hd2, po2, sa2⟩, ⟨f19, _, hot_Ratio_sub F19 T OH8 OH5_2 OH5_1, ⟨a19, i19, k19⟩, b19⟩⟩
  have O20 : Own l.prog w K mg base 5 "_law_first" ["_law_parts", "_law_units"] (sp_l_first K (fun n => if n = 0 then C0 else if n = 1 then C1 else if n = 9 then C9 else if n = 10 then C10 else if n = 2 then C2 else if n = 24 then C24 else 0)) := ⟨⟨f20, _, ok_l_first F20 T O5_2 O5_1 O9 O18 O19, PySem.W.mg_of X G a20, k20, b20⟩⟩
  have O21 : OwnM l.prog w K mg base 4 C2 "__mul__" ["self", "other"] (sp_Ratio_mul K (fun n => if n = 0 then C0 else if n = 1 then C1 else if n = 9 then C9 else if n = 10 then C10 else if n = 2 then C2 else if n = 24 then C24 else 0)) := ⟨⟨pg2, hd2, po2, sa2⟩, ⟨f21, _, ok_Ratio_mul F21 T O8 O5_2 O5_1, ⟨a21, i21, k21⟩, b21⟩⟩
  have O22 : OwnM l.prog w K mg base 4 C2 "same" ["self", "other"] (sp_Ratio_same K (fun n => if n = 0 then C0 else if n = 1 then C1 else if n = 9 then C9 else if n = 10 then C10 else if n = 2 then C2 else if n = 24 then C24 else 0)) := ⟨⟨pg2, hd2, po2, sa2⟩, ⟨f22, _, ok_Ratio_same F22 T O8, ⟨a22, i22, k22⟩, b22⟩⟩
  have OH22 : OwnMH l.prog w K mg base 4 C2 "same" ["self", "other"] (sp_Ratio_same K (fun n => if n = 0 then C0 else if n = 1 then C1 else if n = 9 then C9 else if n = 10 then C10 else if n = 2 then C2 else if n = 24 then C24 else 0)) := ⟨⟨pg2, hd2, po2, sa2⟩, ⟨f22, _, hot_Ratio_same F22 T OH8, ⟨a22, i22, k22⟩, b22⟩⟩
  have O23 : Own l.prog w K mg base 6 "_law_part" ["_law_parts", "_law_units"] (sp_l_part K (fun n => if n = 0 then C0 else if n = 1 then C1 else if n = 9 then C9 else if n = 10 then C10 else if n = 2 then C2 else if n = 24 then C24 else 0)) := ⟨⟨f23, _, ok_l_part F23 T O10 O5_2 O5_1 O9 O11 O21 O19 O22, PySem.W.mg_of X G a23, k23, b23⟩⟩
  have O24 : Own l.prog w K mg base 5 "_law_joined" ["_law_layers_here"] (sp_l_joined K (fun n => if n = 0 then C0 else if n = 1 then C1 else if n = 9 then C9 else if n = 10 then C10 else if n = 2 then C2 else if n = 24 then C24 else 0)) := ⟨⟨f24, _, ok_l_joined F24 T O9, PySem.W.mg_of X G a24, k24, b24⟩⟩
  have O25 : Own l.prog w K mg base 7 "_law_took" ["_law_take", "_law_layers_here", "_law_units"] (sp_l_took K (fun n => if n = 0 then C0 else if n = 1 then C1 else if n = 9 then C9 else if n = 10 then C10 else if n = 2 then C2 else if n = 24 then C24 else 0)) := ⟨⟨f25, _, ok_l_took F25 T O20 O23 O24, PySem.W.mg_of X G a25, k25, b25⟩⟩
  have O26 : OwnE l.prog w K mg base "Short" C10 ["missing"] := ⟨T.ox_Short, ⟨f26, _, _, ok_Short_init F26 T , a26, ti26, PySem.W.mg_of X G aC10, b26⟩⟩
  have O27 : OwnS l.prog w K mg base 5 C2 "sum_of" ["items"] (sp_Ratio_sum_of K (fun n => if n = 0 then C0 else if n = 1 then C1 else if n = 9 then C9 else if n = 10 then C10 else if n = 2 then C2 else if n = 24 then C24 else 0)) := ⟨⟨f27, _, p27, .type "type", ok_Ratio_sum_of F27 T O5_2 O5_1 O9, ⟨rd2, ga2⟩, a27, ⟨_, i27⟩, k27, b27⟩⟩
  have O28 : OwnM l.prog w K mg base 4 C2 "less" ["self", "other"] (sp_Ratio_less K (fun n => if n = 0 then C0 else if n = 1 then C1 else if n = 9 then C9 else if n = 10 then C10 else if n = 2 then C2 else if n = 24 then C24 else 0)) := ⟨⟨pg2, hd2, po2, sa2⟩, ⟨f28, _, ok_Ratio_less F28 T O8, ⟨a28, i28, k28⟩, b28⟩⟩
  have O29 : OwnM l.prog w K mg base 5 C2 "__rsub__" ["self", "other"] (sp_Ratio_rsub K (fun n => if n = 0 then C0 else if n = 1 then C1 else if n = 9 then C9 else if n = 10 then C10 else if n = 2 then C2 else if n = 24 then C24 else 0)) := ⟨⟨pg2, hd2, po2, sa2⟩, ⟨f29, _, ok_Ratio_rsub F29 T O8 O19, ⟨a29, i29, k29⟩, b29⟩⟩
  have OH29 : OwnMH l.prog w K mg base 5 C2 "__rsub__" ["self", "other"] (sp_Ratio_rsub K (fun n => if n = 0 then C0 else if n = 1 then C1 else if n = 9 then C9 else if n = 10 then C10 else if n = 2 then C2 else if n = 24 then C24 else 0)) := ⟨⟨pg2, hd2, po2, sa2⟩, ⟨f29, _, hot_Ratio_rsub F29 T OH8 OH19, ⟨a29, i29, k29⟩, b29⟩⟩
  have O30 : Own l.prog w K mg base 6 "_even_units" ["parts", "units"] (sp__even_units K (fun n => if n = 0 then C0 else if n = 1 then C1 else if n = 9 then C9 else if n = 10 then C10 else if n = 2 then C2 else if n = 24 then C24 else 0)) := ⟨⟨f30, _, ok__even_units F30 T O26 O27 O28 O22 O11 O29 O19 O21, PySem.W.mg_of X G a30, k30, b30⟩⟩
  have O31 : Own l.prog w K mg base 5 "_first_units" ["parts", "units"] (sp__first_units K (fun n => if n = 0 then C0 else if n = 1 then C1 else if n = 9 then C9 else if n = 10 then C10 else if n = 2 then C2 else if n = 24 then C24 else 0)) := ⟨⟨f31, _, ok__first_units F31 T O26 O18 O19 O22, PySem.W.mg_of X G a31, k31, b31⟩⟩
  have O32 : Own l.prog w K mg base 6 "_last_units" ["parts", "units"] (sp__last_units K (fun n => if n = 0 then C0 else if n = 1 then C1 else if n = 9 then C9 else if n = 10 then C10 else if n = 2 then C2 else if n = 24 then C24 else 0)) := ⟨⟨f32, _, ok__last_units F32 T O31, PySem.W.mg_of X G a32, k32, b32⟩⟩
  have O33 : OwnM l.prog w K mg base 7 C24 "parted" ["self", "layers", "units"] (sp_Rule_parted K (fun n => if n = 0 then C0 else if n = 1 then C1 else if n = 9 then C9 else if n = 10 then C10 else if n = 2 then C2 else if n = 24 then C24 else 0)) := ⟨⟨pg24, hd24, po24, sa24⟩, ⟨f33, _, ok_Rule_parted F33 T O8 O30 O31 O32, ⟨a33, i33, k33⟩, b33⟩⟩
  have O34 : OwnO l.prog w K mg base 8 C24 ["self", "layers", "units"] (sp_Rule_call K (fun n => if n = 0 then C0 else if n = 1 then C1 else if n = 9 then C9 else if n = 10 then C10 else if n = 2 then C2 else if n = 24 then C24 else 0)) := ⟨⟨f34, _, ok_Rule_call F34 T O33, ⟨a34, i34, k34⟩, fn34, b34⟩⟩
  have O35 : Own l.prog w K mg base 9 "_law_short" ["_law_rule_here", "_law_layers_here", "_law_units"] (sp_l_short K (fun n => if n = 0 then C0 else if n = 1 then C1 else if n = 9 then C9 else if n = 10 then C10 else if n = 2 then C2 else if n = 24 then C24 else 0)) := ⟨⟨f35, _, ok_l_short F35 T O10 O34 O22 O19 O29 O26 OH22 OH19 OH29 OH10, PySem.W.mg_of X G a35, k35, b35⟩⟩
  have O36 : Own l.prog w K mg base 5 "_law_parts_same" ["_law_told", "_law_due"] (sp_l_parts_same K (fun n => if n = 0 then C0 else if n = 1 then C1 else if n = 9 then C9 else if n = 10 then C10 else if n = 2 then C2 else if n = 24 then C24 else 0)) := ⟨⟨f36, _, ok_l_parts_same F36 T O22, PySem.W.mg_of X G a36, k36, b36⟩⟩
  have z : FnOk l.prog w K mg base (L2N.CX l.prog w) 10 _ _ ["_law_script"] (sp_law K (fun n => if n = 0 then C0 else if n = 1 then C1 else if n = 9 then C9 else if n = 10 then C10 else if n = 2 then C2 else if n = 24 then C24 else 0)) := ok_law F37 T O0 O2 O3 O7 O13 O17 O25 O10 O35 O36 O5_2 O5_1 O34 O28 O22 O9
  exact z
end Lo
open PySem PySem.W PyProof.Rows in
set_option maxRecDepth 100000 in
set_option maxHeartbeats 0 in
theorem PySem.Challenge.cw_lotcosts_k41_units_taken_holds : PySem.Challenge.rw_lotcosts_k41_units_taken.Holds := by
  w_on; o_law; k_head; (case hw => w_witness2)
  k_fill
  refine Lo.walk (l := PySem.Challenge.rw_lotcosts_k41_units_taken) 10 ⟨rfl, by decide, by decide⟩ rfl rfl (fun w h Y => PySem.W.kIn_of Y) ?F
  case F =>
    intro w mg fa h KX G hmg
    refine' Lo.all_mk KX G hmg ?aC0 ?aC1 ?aC9 ?aC10 ?aC2 ?aC24 ?pg2 ?hd2 ?po2 ?sa2 ?mk2 ?kc2 ?pg24 ?hd24 ?po24 ?sa24 ?mk24 ?kc24 ?z_abs ?z_all ?z_bool ?z_int ?z_isinstance ?z_len ?z_list ?z_range ?z_tuple ?z_gcd ?zc__MOST ?fkp_NoRatio ?fex_NoRatio ?fsb_NoRatio ?fty_NoRatio ?xl_BadRule ?fxr_BadRule ?sa_BadRule ?kpr_BadRule ?fsb_BadRule ?fty_BadRule ?fnf_BadRule_word ?fsb_Short ?fxi_Short ?fty_Short ?fxs_Short ?fy1_Short ?fy2_Short ?fy3_Short ?fy4_Short ?fo5 ?fo6 ?fy7_Short ?xl_Short ?fxr_Short ?sa_Short ?kpr_Short ?fnf_Short_missing ?fna_Ratio_top ?fna_Ratio_bottom ?fic_Ratio ?fim_Ratio ?fr1_Ratio ?fr2_Ratio ?fr3_Ratio ?fr4_Ratio ?fmro_Ratio ?fr_iadd_Ratio ?fro_iadd ?fr_isub_Ratio ?fro_isub ?fr_imul_Ratio ?fro_imul ?fri_add ?fri_radd ?fri_sub ?fri_rsub ?fri_mul ?fri_rmul ?frr_radd_Ratio ?frs_radd_Ratio ?frr_rsub_Ratio ?frs_rsub_Ratio ?frr_rmul_Ratio ?frs_rmul_Ratio ?frh_add_Ratio ?frh_sub_Ratio ?frh_mul_Ratio ?fna_Rule_take ?fna_Rule_place ?fna_Rule_period ?fki_Short_CostError ?fki_int_Ratio ?a0 ?l0 ?c0 ?k0 ?a1 ?l1 ?c1 ?k1 ?a2 ?l2 ?c2 ?k2 ?a3 ?l3 ?c3 ?k3 ?a4 ?l4 ?c4 ?k4 ?a5 ?i5 ?l5 ?c5 ?k5 ?t5 ?a6 ?l6 ?c6 ?k6 ?a7 ?l7 ?c7 ?k7 ?a8 ?l8 ?c8 ?k8 ?a9 ?i9 ?l9 ?c9 ?k9 ?a10 ?l10 ?c10 ?k10 ?a11 ?i11 ?l11 ?c11 ?k11 ?a12 ?i12 ?l12 ?c12 ?k12 ?a13 ?l13 ?c13 ?k13 ?a14 ?l14 ?c14 ?k14 ?a15 ?i15 ?ti15 ?l15 ?c15 ?k15 ?a16 ?i16 ?l16 ?q16_0 ?q16_1 ?c16 ?k16 ?a17 ?l17 ?c17 ?k17 ?a18 ?i18 ?l18 ?c18 ?k18 ?a19 ?i19 ?l19 ?c19 ?k19 ?a20 ?l20 ?c20 ?k20 ?a21 ?i21 ?l21 ?c21 ?k21 ?a22 ?i22 ?l22 ?c22 ?k22 ?a23 ?l23 ?c23 ?k23 ?a24 ?l24 ?c24 ?k24 ?a25 ?l25 ?c25 ?k25 ?a26 ?i26 ?ti26 ?l26 ?c26 ?k26 ?rd2 ?ga2 ?a27 ?i27 ?l27 ?c27 ?k27 ?a28 ?i28 ?l28 ?c28 ?k28 ?a29 ?i29 ?l29 ?c29 ?k29 ?a30 ?l30 ?c30 ?k30 ?a31 ?l31 ?c31 ?k31 ?a32 ?l32 ?c32 ?k32 ?a33 ?i33 ?l33 ?c33 ?k33 ?fn34 ?a34 ?i34 ?l34 ?c34 ?k34 ?a35 ?l35 ?c35 ?k35 ?a36 ?l36 ?c36 ?k36 ?a37 ?l37 ?c37 ?k37
    (case aC0 => k_is)
    (case aC1 => k_is)
    (case aC9 => k_is)
    (case aC10 => k_is)
    (case aC2 => k_is)
    (case aC24 => k_is)
    (case pg2 => k_is)
    (case hd2 => k_is)
    (case po2 => k_is)
    (case sa2 => k_is)
    (case mk2 => k_is)
    (case kc2 => k_is)
    (case pg24 => k_is)
    (case hd24 => k_is)
    (case po24 => k_is)
    (case sa24 => k_is)
    (case mk24 => k_is)
    (case kc24 => k_is)
    (case z_abs => k_is)
    (case z_all => k_is)
    (case z_bool => k_is)
    (case z_int => k_is)
    (case z_isinstance => k_is)
    (case z_len => k_is)
    (case z_list => k_is)
    (case z_range => k_is)
    (case z_tuple => k_is)
    (case z_gcd => k_is)
    (case zc__MOST => k_is)
    (case fkp_NoRatio => k_is)
    (case fex_NoRatio => k_exc)
    (case fsb_NoRatio => k_is)
    (case fty_NoRatio => k_is)
    (case xl_BadRule => k_is)
    (case fxr_BadRule => rfl)
    (case sa_BadRule => k_is)
    (case kpr_BadRule => k_is)
    (case fsb_BadRule => k_is)
    (case fty_BadRule => k_is)
    (case fnf_BadRule_word => k_is)
    (case fsb_Short => k_is)
    (case fxi_Short => k_is)
    (case fty_Short => k_is)
    (case fxs_Short => first | rfl | k_is)
    (case fy1_Short => k_is)
    (case fy2_Short => k_is)
    (case fy3_Short => k_is)
    (case fy4_Short => k_is)
    (case fo5 => k_is)
    (case fo6 => k_is)
    (case fy7_Short => k_is)
    (case xl_Short => k_is)
    (case fxr_Short => rfl)
    (case sa_Short => k_is)
    (case kpr_Short => k_is)
    (case fnf_Short_missing => k_is)
    (case fna_Ratio_top => k_is)
    (case fna_Ratio_bottom => k_is)
    (case fic_Ratio => k_is)
    (case fim_Ratio => k_is)
    (case fr1_Ratio => k_is)
    (case fr2_Ratio => k_is)
    (case fr3_Ratio => k_is)
    (case fr4_Ratio => k_is)
    (case fmro_Ratio => rfl)
    (case fr_iadd_Ratio => k_is)
    (case fro_iadd => k_is)
    (case fr_isub_Ratio => k_is)
    (case fro_isub => k_is)
    (case fr_imul_Ratio => k_is)
    (case fro_imul => k_is)
    (case fri_add => k_is)
    (case fri_radd => k_is)
    (case fri_sub => k_is)
    (case fri_rsub => k_is)
    (case fri_mul => k_is)
    (case fri_rmul => k_is)
    (case frr_radd_Ratio => k_is)
    (case frs_radd_Ratio => rfl)
    (case frr_rsub_Ratio => k_is)
    (case frs_rsub_Ratio => rfl)
    (case frr_rmul_Ratio => k_is)
    (case frs_rmul_Ratio => rfl)
    (case frh_add_Ratio => k_is)
    (case frh_sub_Ratio => k_is)
    (case frh_mul_Ratio => k_is)
    (case fna_Rule_take => k_is)
    (case fna_Rule_place => k_is)
    (case fna_Rule_period => k_is)
    (case fki_Short_CostError => kit_is)
    (case fki_int_Ratio => kit_is)
    (case a0 => k_is)
    (case l0 => k_is)
    (case c0 => k_is)
    (case k0 => k_is)
    (case a1 => k_is)
    (case l1 => k_is)
    (case c1 => k_is)
    (case k1 => k_is)
    (case a2 => k_is)
    (case l2 => k_is)
    (case c2 => k_is)
    (case k2 => k_is)
    (case a3 => k_is)
    (case l3 => k_is)
    (case c3 => k_is)
    (case k3 => k_is)
    (case a4 => k_is)
    (case l4 => k_is)
    (case c4 => k_is)
    (case k4 => k_is)
    (case a5 => k_is)
    (case i5 => k_is)
    (case l5 => k_is)
    (case c5 => k_is)
    (case k5 => k_is)
    (case t5 => k_is)
    (case a6 => k_is)
    (case l6 => k_is)
    (case c6 => k_is)
    (case k6 => k_is)
    (case a7 => k_is)
    (case l7 => k_is)
    (case c7 => k_is)
    (case k7 => k_is)
    (case a8 => k_is)
    (case l8 => k_is)
    (case c8 => k_is)
    (case k8 => k_is)
    (case a9 => k_is)
    (case i9 => k_is)
    (case l9 => k_is)
    (case c9 => k_is)
    (case k9 => k_is)
    (case a10 => k_is)
    (case l10 => k_is)
    (case c10 => k_is)
    (case k10 => k_is)
    (case a11 => k_is)
    (case i11 => k_is)
    (case l11 => k_is)
    (case c11 => k_is)
    (case k11 => k_is)
    (case a12 => k_is)
    (case i12 => k_is)
    (case l12 => k_is)
    (case c12 => k_is)
    (case k12 => k_is)
    (case a13 => k_is)
    (case l13 => k_is)
    (case c13 => k_is)
    (case k13 => k_is)
    (case a14 => k_is)
    (case l14 => k_is)
    (case c14 => k_is)
    (case k14 => k_is)
    (case a15 => k_is)
    (case i15 => k_is)
    (case ti15 => k_is)
    (case l15 => k_is)
    (case c15 => k_is)
    (case k15 => k_is)
    (case a16 => k_is)
    (case i16 => k_is)
    (case l16 => k_is)
    (case q16_0 => k_is)
    (case q16_1 => k_is)
    (case c16 => k_is)
    (case k16 => k_is)
    (case a17 => k_is)
    (case l17 => k_is)
    (case c17 => k_is)
    (case k17 => k_is)
    (case a18 => k_is)
    (case i18 => k_is)
    (case l18 => k_is)
    (case c18 => k_is)
    (case k18 => k_is)
    (case a19 => k_is)
    (case i19 => k_is)
    (case l19 => k_is)
    (case c19 => k_is)
    (case k19 => k_is)
    (case a20 => k_is)
    (case l20 => k_is)
    (case c20 => k_is)
    (case k20 => k_is)
    (case a21 => k_is)
    (case i21 => k_is)
    (case l21 => k_is)
    (case c21 => k_is)
    (case k21 => k_is)
    (case a22 => k_is)
    (case i22 => k_is)
    (case l22 => k_is)
    (case c22 => k_is)
    (case k22 => k_is)
    (case a23 => k_is)
    (case l23 => k_is)
    (case c23 => k_is)
    (case k23 => k_is)
    (case a24 => k_is)
    (case l24 => k_is)
    (case c24 => k_is)
    (case k24 => k_is)
    (case a25 => k_is)
    (case l25 => k_is)
    (case c25 => k_is)
    (case k25 => k_is)
    (case a26 => k_is)
    (case i26 => k_is)
    (case ti26 => k_is)
    (case l26 => k_is)
    (case c26 => k_is)
    (case k26 => k_is)
    (case rd2 => k_is)
    (case ga2 => k_is)
    (case a27 => k_is)
    (case i27 => k_is)
    (case l27 => k_is)
    (case c27 => k_is)
    (case k27 => k_is)
    (case a28 => k_is)
    (case i28 => k_is)
    (case l28 => k_is)
    (case c28 => k_is)
    (case k28 => k_is)
    (case a29 => k_is)
    (case i29 => k_is)
    (case l29 => k_is)
    (case c29 => k_is)
    (case k29 => k_is)
    (case a30 => k_is)
    (case l30 => k_is)
    (case c30 => k_is)
    (case k30 => k_is)
    (case a31 => k_is)
    (case l31 => k_is)
    (case c31 => k_is)
    (case k31 => k_is)
    (case a32 => k_is)
    (case l32 => k_is)
    (case c32 => k_is)
    (case k32 => k_is)
    (case a33 => k_is)
    (case i33 => k_is)
    (case l33 => k_is)
    (case c33 => k_is)
    (case k33 => k_is)
    (case a34 => k_is)
    (case fn34 => k_is)
    (case i34 => k_is)
    (case l34 => k_is)
    (case c34 => k_is)
    (case k34 => k_is)
    (case a35 => k_is)
    (case l35 => k_is)
    (case c35 => k_is)
    (case k35 => k_is)
    (case a36 => k_is)
    (case l36 => k_is)
    (case c36 => k_is)
    (case k36 => k_is)
    (case a37 => k_is)
    (case l37 => k_is)
    (case c37 => k_is)
    (case k37 => k_is)
#print axioms PySem.Challenge.cw_lotcosts_k41_units_taken_holds
