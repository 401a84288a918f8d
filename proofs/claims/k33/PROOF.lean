import PyProof.Rows.All
import Wide.All
import OpenK.AllK
import Wide.FinOn
import HandS.ForMost
import HandS.ForExc
import HandS.Flow
import HandS.Wide
import HandS.Gcd
import HandS.IsInst
import HandS.EndBits
import HandS.Defaults
import HandS.Style
import HandS.TryMany
import HandS.ExcIs
import HandS.ExcCtx
import HandS.Small
import HandS.ClsMeth
import HandS.Evl
import KE.RegKIsAll
import KE.KOpsOwn
import HandS.OwnEq
import HandS.DictComp
import HandS.Walk
import HandS.StrMore
import HandS.More
import HandS.Finally
import HandS.NoneIn
import HandS.ExcInit
import HandS.ExcField
import HandS.SetKeys
import HandS.TupSets
import HandS.MakeKwOnly
import KE.KExcIs
import HandS.ExcValue
import PyProof.SumWalkG
import PyProof.WalkInts
import PyProof.TwoTypesSub
import PyProof.MinMaxWalk
import HandS.Hot
import HandS.HotCalls
import PyProof.CallStr
import HandS.RaiseMore
import PyProof.Walks
import KE.KMathG
import PyProof.NeKinds
import HandS.Conv
import HandS.TupLen
import HandS.DictTup
import KE.KDictSum
import PyProof.DictMoreH
import HandS.SortOrd
import HandS.SortRule
import HandS.Deep
import KE.DataMinMax
import KE.SortData
import PySem.Challenge.RW_lotcosts_k33_books_joined
set_option Elab.async false
set_option linter.all false
set_option maxRecDepth 100000
set_option maxHeartbeats 4000000
namespace Lo
open PySem PySem.Spec PyProof.Rows L2

/-! ### heaps -/
theorem sget {H H' : Hp} {a : Addr} {o : HO} (s : Same H H') (h : H a = some o) : H' a = some o := s a o h
/-- all but what stands at b is as it was -/
def Keep (b : Addr) (H H' : Hp) : Prop := ∀ a o, H a = some o → a ≠ b → H' a = some o
theorem Keep.of {b : Addr} {H H' : Hp} (s : Same H H') : Keep b H H' := fun a o h _ => s a o h
theorem Keep.trans {b : Addr} {H H1 H2 : Hp} (s : Keep b H H1) (t : Keep b H1 H2) : Keep b H H2 := fun a o h n => t a o (s a o h n) n
theorem kget {b : Addr} {H H' : Hp} {a : Addr} {o : HO} (s : Keep b H H') (n : a ≠ b) (h : H a = some o) : H' a = some o := s a o h n
theorem same_upd {H : Hp} {p : Addr} {o : HO} (h : H p = none) : Same H (upd H p o) := fun a u e => by rw [upd_ne (ne_of_none e h)]; exact e
theorem keep_upd {H : Hp} {p : Addr} {o : HO} : Keep p H (upd H p o) := fun a u e n => by rw [upd_ne n]; exact e
theorem same_put {H H' : Hp} {p : Addr} {o : HO} (n : H p = none) (s : Same H H') : Same H (upd H' p o) := fun a u e => by rw [upd_ne (ne_of_none e n)]; exact s a u e
theorem gen_new {H G : Hp} {p : Addr} {o : HO} (n : H p = none) (g : upd H p o = G) : Same H G ∧ G p = some o := by
  subst g
  exact ⟨same_upd n, upd_same⟩
theorem gen_put {H G : Hp} {p : Addr} {o : HO} (g : upd H p o = G) : Keep p H G ∧ G p = some o := by
  subst g
  exact ⟨keep_upd, upd_same⟩
theorem SqL.same {K : PySem.W.Frag} {H H' : Hp} {a : Addr} {xs : List V} (s : Same H H') (h : SqL K H a xs) : SqL K H' a xs := s.seq h

/-! ### a word between an expression and what follows -/
def tMid (t : TE) : TE := fun σ H Q => ∃ M : V → Hp → Prop, t σ H M ∧ ∀ v H', M v H' → Q v H'
theorem pe_mid {X : Cx} {e : Expr} {t : TE} (h : PE X e t) : PE X e (tMid t) := ⟨fun pins s σ H Q I ⟨M, hm, hq⟩ => thn (h.run pins s σ H M I hm) fun u s1 ⟨v, H1, I1, r, m⟩ => ⟨v, H1, I1, r, hq v H1 m⟩⟩
def tMidT (t : TT) : TT := fun σ H Q => ∃ M : Bool → Hp → Prop, t σ H M ∧ ∀ v H', M v H' → Q v H'
theorem pt_mid {X : Cx} {e : Expr} {t : TT} (h : PT X e t) : PT X e (tMidT t) := ⟨fun pins s σ H Q I ⟨M, hm, hq⟩ => thn (h.run pins s σ H M I hm) fun b s1 ⟨H1, I1, m⟩ => ⟨H1, I1, hq b H1 m⟩⟩
/-! ### own defs, as their callers see them -/
structure Own (P : Program) (w : World) (K : PySem.W.Frag) (mg : Str → Option Value) (base : Heap) (k : Nat) (x : Str) (ps : List Str) (sp : Sp) : Prop where
  ex : ∃ f fd, FnOk P w K mg base (L2N.CX P w) k f fd ps sp ∧ mg x = some (.ref f) ∧ PySem.W.keepIn K (.ref f) = true ∧ Binds K fd ps []
structure OwnM (P : Program) (w : World) (K : PySem.W.Frag) (mg : Str → Option Value) (base : Heap) (k : Nat) (C : Addr) (m : Str) (ps : List Str) (sp : Sp) : Prop where
  cl : Cls K C
  ex : ∃ f fd, FnOk P w K mg base (L2N.CX P w) k f fd ps sp ∧ Meth K C m f ∧ Binds K fd ps []
structure OwnI (P : Program) (w : World) (K : PySem.W.Frag) (mg : Str → Option Value) (base : Heap) (k : Nat) (x : Str) (C : Addr) (ps : List Str) (dvs : List V) (sp : Sp) : Prop where
  ex : ∃ f fd ds, FnOk P w K mg base (L2N.CX P w) k f fd ps sp ∧ Mk K C f ∧ mg x = some (.ref C) ∧ Binds K fd ps ds ∧ Vals dvs ds

section
variable {X : Cx} {k : Nat} {C : Addr} {ps : List Str} {sp : Sp} {E : L2.St → XK} {x m : Str} {p pos apos : Pos} {e o : Expr} {es : List Expr} {ta : TE} {t : TA} {dvs : List V}

theorem pas0 {X : Cx} : ∀ σ, PassesAt (L2N.CX X.prog X.w) X σ ((fun _ => E0) σ) := fun σ pins H s e s' I h => by
  obtain ⟨_, _, _, _, _, _, _, _, _, _, _, _, z⟩ := h
  exact z.elim
/-- a def by its body, whatever its callers learn of what leaves it -/
theorem okN {P : Program} {w : World} {K : PySem.W.Frag} {mg : Str → Option Value} {base : Heap} {x qual : Str} {st : Stmt} {f : Addr} {fd : FuncData} {N ps : List Str} {k : Nat} {sp : Sp} (F : Fun K x qual st f fd) (sc : FnScope N ps (defScope st))
    (ln : ∀ vs H Q E, sp vs H Q E → vs.length = ps.length) (bd : ∀ (cv : Value) (A : Around) (outer : List Env) (s : Shared) (H : Hp) (vs : List V) (Q : VK) (E : XK), Room k (A.deeper (envOfC qual (defScope st) s.heap.objs.size f cv)) → sp vs H Q E →
      ∃ t, PSs (cxOf (L2N.CX P w) P w K mg base N qual (defScope st) f cv A outer s H E) (defBody st) t ∧ t { nx := fun _ H' => Q .non H', rt := Q } (start N vs) H) :
    FnOk P w K mg base (L2N.CX P w) (k + 1) f fd ps sp := by
  have ⟨_, _, _, _, _, _, _, _, _, e, look, hcd⟩ := F.ex
  subst e
  exact fn_of look hcd sc ln fun A outer s H vs Q E hr h => bd _ A outer s H vs Q E hr h
theorem takesN {X : Cx} : L2N.Takes X (fun _ _ _ _ => False) := fun _ _ ⟨_, _, _, _, _, _, _, _, _, _, _, _, _, _, _, _, z⟩ => z.elim
theorem passN {X : Cx} : Passes (L2N.CX X.prog X.w) X E0 := fun pins σ => pas0 σ pins
theorem pasE {X : Cx} {E : XK} (tk : L2N.Takes X (fun cls d _ H => E cls d H)) : ∀ σ, PassesAt (L2N.CX X.prog X.w) X σ ((fun _ => E) σ) := fun σ => L2N.passAt (W := fun cls d _ H => E cls d H) tk σ
theorem pe_own (O : Own X.prog X.w X.K X.mg X.base k x ps sp) (hr : Room k X.A) (hg : Gl X x) (hx : ∀ σ, PassesAt (L2N.CX X.prog X.w) X σ (E σ)) (ha : PA X (e :: es) t)
    (hdb : (x == ("__debug__" : Str)) = false := by decide) (he : starEach (e :: es) X.env = (false, eval e X.env) :: starEach es X.env := by rfl) (hpl : (backTo pos (starEach es X.env)).any (·.1) = false := by rfl) :
    PE X (.Call (.Name x p) (e :: es) [] pos) (tCallS sp E t) := by
  obtain ⟨f, fd, F, hm, hk, hb⟩ := O.ex
  exact pe_callS F hr hg hm hk hb hx ha hdb he hpl

def tMethS (C : Addr) (m : Str) (sp : Sp) (E : L2.St → XK) (ta : TE) (t : TA) : TE := fun σ H Q => ta σ H fun x H1 => ∃ a dx fs, x = .ref a ∧ H1 a = some (.ins C dx fs) ∧ fs.lookup m = none ∧
  t σ H1 fun vs H2 => sp (x :: vs) H2 Q (E σ)
theorem pe_ownm {pl : Sem Bool} (O : OwnM X.prog X.w X.K X.mg X.base k C m ps sp) (he : PE X o ta) (hr : Room k X.A) (hx : ∀ σ, PassesAt (L2N.CX X.prog X.w) X σ (E σ)) (ha : PA X (e :: es) t)
    (hst : starEach (e :: es) X.env = (false, eval e X.env) :: starEach es X.env := by rfl) (hpl : (backTo pos (starEach es X.env)).any (·.1) = false := by rfl)
    (ht : eval (.Call (.Attribute o m apos) (e :: es) [] pos) X.env = (do
      let ov ← eval o X.env
      standAt apos.atName
      let (f, first) ← holding [ov] (getMethod ov m pl)
      callWith pos f first (backTo pos (starEach (e :: es) X.env)) (backToKw pos (keywordEach [] X.env))) := by rfl) :
    PE X (.Call (.Attribute o m apos) (e :: es) [] pos) (tMethS C m sp E ta t) := by
  obtain ⟨f, fd, F, hm, hb⟩ := O.ex
  refine ⟨fun pins s σ H Q I h => ?_⟩
  refine PySem.W.methodCall_KW (pl := pl) (thn (he.run pins s σ H _ I h) fun u s1 ⟨x, H1, I1, rx, a, dx, fs, ex, ea, l, q⟩ => ?_) ht
  subst ex
  obtain rfl : u = Value.ref a := rx
  refine getmeth_ok I1 ea O.cl hm l ?_
  refine PySem.W.callWith_K (first := [.ref a]) (h₀ := X.base) I.ok.mod.kin hm.kp (thn (ha.run pos pins s1 σ H1 _ I1 q) fun us s2 ⟨vs, H2, I2, r, q2⟩ => ⟨I2.kIn, ?_⟩) hst hpl
  exact run_fnS (us := .ref a :: us) (vs := .ref a :: vs) F hr hb (hx σ) I2 (.cons rfl r) q2
theorem pe_ownm0 {pl : Sem Bool} (O : OwnM X.prog X.w X.K X.mg X.base k C m ps sp) (he : PE X o ta) (hr : Room k X.A) (hx : ∀ σ, PassesAt (L2N.CX X.prog X.w) X σ (E σ))
    (ht : eval (.Call (.Attribute o m apos) [] [] pos) X.env = (do
      let ov ← eval o X.env
      standAt apos.atName
      let (f, first) ← holding [ov] (getMethod ov m pl)
      callWith pos f first (backTo pos (starEach [] X.env)) (backToKw pos (keywordEach [] X.env))) := by rfl) :
    PE X (.Call (.Attribute o m apos) [] [] pos) (tMethS C m sp E ta tNil) := by
  obtain ⟨f, fd, F, hm, hb⟩ := O.ex
  refine ⟨fun pins s σ H Q I h => ?_⟩
  refine PySem.W.methodCall_KW (pl := pl) (thn (he.run pins s σ H _ I h) fun u s1 ⟨x, H1, I1, rx, a, dx, fs, ex, ea, l, q⟩ => ?_) ht
  subst ex
  obtain rfl : u = Value.ref a := rx
  refine getmeth_ok I1 ea O.cl hm l ?_
  exact PySem.W.callWith_K0 (first := [.ref a]) I1.kIn hm.kp (run_fnS (us := [.ref a]) (vs := [.ref a]) F hr hb (hx σ) I1 (.cons rfl .nil) q)

def tMakeS (C : Addr) (sp : Sp) (dvs : List V) (E : L2.St → XK) (t : TA) : TE := fun σ H Q => t σ H fun vs H1 => ∀ x dx, H1 x = none → H1 dx = none → dx ≠ x →
  sp (.ref x :: (vs ++ dvs)) (upd (upd H1 dx (.own x)) x (.ins C dx [])) (fun v H2 => v = .non ∧ Q (.ref x) H2) (E σ)
theorem run_makeS {f : Addr} {fd : FuncData} {ds : List Value} {pins : List (Addr × Obj)} {σ : L2.St} {H : Hp} {s : Shared} {Q : VK} {us : List Value} {vs : List V} (M : Mk X.K C f) (F : FnOk X.prog X.w X.K X.mg X.base (L2N.CX X.prog X.w) k f fd ps sp)
    (hr : Room (k + 1) X.A) (hb : Binds X.K fd ps ds) (hd : Vals dvs ds) (hx : PassesAt (L2N.CX X.prog X.w) X σ (E σ)) (I : Inv X pins σ H s) (r : Vals vs us)
    (h : ∀ x dx, H x = none → H dx = none → dx ≠ x → sp (.ref x :: (vs ++ dvs)) (upd (upd H dx (.own x)) x (.ins C dx [])) (fun v H2 => v = .non ∧ Q (.ref x) H2) (E σ)) :
    wpAny (model X.prog X.w) X.A (call (.ref C) us) (EP X pins σ Q) X.xe s := by
  have hq := h (s.heap.objs.size + 1) s.heap.objs.size (I.hok.fresh (Nat.le_succ _)) (I.hok.fresh (Nat.le_refl _)) (Nat.ne_of_lt (Nat.lt_succ_self _))
  have I2 := Inv.made (C := C) I
  have r2 : Vals (V.ref (s.heap.objs.size + 1) :: (vs ++ dvs)) (Value.ref (s.heap.objs.size + 1) :: (us ++ ds)) := .cons rfl (r.append hd)
  have hl : (Value.ref (s.heap.objs.size + 1) :: us ++ ds).length = ps.length := by
    have e := r2.length
    rw [F.len _ _ _ _ hq] at e
    exact e.symm
  refine wpAny_call (make_map (f := f) I.kIn M.makes M.init (beq_iff_eq.mp M.fn) (codeAny_mono (F.run _ X.stack _ _ ⟨Value.ref (s.heap.objs.size + 1) :: us, []⟩ (Value.ref (s.heap.objs.size + 1) :: (us ++ ds)) _ _ (E σ) (hr.make C us [])
    (I2.env0.make C us []) (hb _ (Value.ref (s.heap.objs.size + 1) :: us) I2.kIn hl) r2 hq) fun r s' hq' => ?_))
  cases r with
  | error e => exact hx pins _ _ e s' I2 hq'
  | ok fl =>
    cases fl with
    | ret u =>
      obtain ⟨v, H', I3, rv, ev, q3⟩ := I2.after hq'
      subst ev
      exact ⟨rv, ⟨V.ref (s.heap.objs.size + 1), H', I3, rfl, q3⟩⟩
    | next => exact False.elim hq'
    | brk => exact False.elim hq'
    | cont => exact False.elim hq'
theorem pe_owni (O : OwnI X.prog X.w X.K X.mg X.base k x C ps dvs sp) (hr : Room (k + 1) X.A) (hg : Gl X x) (hx : ∀ σ, PassesAt (L2N.CX X.prog X.w) X σ (E σ)) (ha : PA X (e :: es) t)
    (hdb : (x == ("__debug__" : Str)) = false := by decide) (he : starEach (e :: es) X.env = (false, eval e X.env) :: starEach es X.env := by rfl) (hpl : (backTo pos (starEach es X.env)).any (·.1) = false := by rfl) :
    PE X (.Call (.Name x p) (e :: es) [] pos) (tMakeS C sp dvs E t) := by
  obtain ⟨f, fd, ds, F, M, hm, hb, hd⟩ := O.ex
  refine ⟨fun pins s σ H Q I h => ?_⟩
  refine wpAny_Call_Name_kw (ld_glob I hg hm ?_ hdb)
  refine PySem.W.callWith_K (h₀ := X.base) I.ok.mod.kin M.kp (thn (ha.run pos pins s σ H _ I h) fun us s1 ⟨vs, H1, I1, r, q⟩ => ⟨I1.kIn, ?_⟩) he hpl
  exact run_makeS M F hr hb hd (hx σ) I1 r q
end

def rLenSeq (K : PySem.W.Frag) : List V → Hp → VK → Prop := fun xs H Q => ∃ p ys, xs = [V.ref p] ∧ (SqL K H p ys ∨ SqT K H p ys) ∧ Q (.int ys.length) H
/-! ### own operators -/
section
open PySem.W
section
variable {prog : Program} {w : World} {A : Around} {E : Value → Shared → Prop} {s : Shared} {i : Int} {t : Tok} {x C dx f g : Addr} {K : Frag} {ox : Obj} {od : Option Obj} {nm : String} {Q : Option Value → Shared → Prop} {rc fo ro : Option Value}
theorem slot_fills {M : Model} {h : Heap} (X : K.In h) (hc : selfFirst K C = true) (hs : findIn K (.ref C) (PySem.dunder nm) = some (some (.ref f))) : Looks M h (fillsNumberSlot (.ref C) nm) true := by
  obtain ⟨cd, rest, hcd, hm⟩ := ksp_first hc
  exact fills_K X hcd hm hs
/-- what an own method answers is no NotImplemented -/
theorem bin1_same {b : Value} (X : K.In s.heap) (I : InstAt s.heap x ox C od) (hb : Looks (model prog w) s.heap (typeOf b) (.ref C)) (hc : selfFirst K C = true) (hs : findIn K (.ref C) (PySem.dunder nm) = some (some (.ref f))) (hf : isFn K (.ref f) = true)
    (h : wpAny (model prog w) A (call (.ref f) [.ref x, b]) (PySem.W.CmpBack fun v => Q (some v)) E s) : wpAny (model prog w) A (binaryOp1 nm (.ref x) b) Q E s := by
  have one := ksp_try X I hs hf h
  have L3 : Looks (model prog w) s.heap (fillsNumberSlot (.ref C) nm) true := slot_fills X hc hs
  have L1 : Looks (model prog w) s.heap (typeOf (.ref x)) (.ref C) := I.type
  obtain ⟨hh, gg, d, tt, os⟩ := s
  unfold binaryOp1
  refine wpAny_bind (L1.at (wpAny_bind (hb.at (wpAny_bind (L3.at ?_)))))
  simp only [beq_self_eq_true, if_true]
  ksp_lk
  refine wpAny_mono one (fun r s' hr => ?_) fun _ _ e => e
  obtain ⟨v, rfl, hq⟩ := hr
  ksp_lk
  exact hq
theorem bin1_int (X : K.In s.heap) (I : InstAt s.heap x ox C od) (hc : selfFirst K C = true) (hs : findIn K (.ref C) (PySem.dunder nm) = some (some (.ref f))) (hf : isFn K (.ref f) = true) (hr : findIn K (.ref C) (dunderR nm) = some rc) (hp : rc = none ∨ ∃ g : Addr, rc = some (.ref g))
    (h1 : findIn K (.type "int") (PySem.dunder nm) = some fo) (h2 : findIn K (.type "int") (dunderR nm) = some ro) (hsub : subIn K (.type "int") (.ref C) = some false)
    (h : wpAny (model prog w) A (call (.ref f) [.ref x, .int i t]) (PySem.W.CmpBack fun v => Q (some v)) E s) : wpAny (model prog w) A (binaryOp1 nm (.ref x) (.int i t)) Q E s := by
  have one := ksp_try X I hs hf h
  have L3 : Looks (model prog w) s.heap (fillsNumberSlot (.ref C) nm) true := slot_fills X hc hs
  have L1 : Looks (model prog w) s.heap (typeOf (.ref x)) (.ref C) := I.type
  have L2 : Looks (model prog w) s.heap (typeOf (.int i t)) (.type "int") := Looks.of_pure rfl
  have L4 : Looks (model prog w) s.heap (fillsNumberSlot (.type "int") nm) ((fo.isSome && !isSeqSlot fo) || (ro.isSome && !isSeqSlot ro)) := ksp_fillsT X h1 h2
  have L5 : Looks (model prog w) s.heap (isSubtype (.type "int") (.ref C)) false := looks_subIn X hsub
  have L6 : Looks (model prog w) s.heap (numberSlotInPython (.ref C) nm) true := ksp_inPy X hs hr hp
  have L7 : Looks (model prog w) s.heap (numberSlotInPython (.type "int") nm) false := Looks.of_pure rfl
  have L8 : Looks (model prog w) s.heap (typeLookup (.type "int") (dunderR nm)) ro := looks_findIn X h2
  have hne : (Value.ref C == Value.type "int") = false := Bool.eq_false_iff.mpr fun q => by cases beq_iff_eq.mp q
  obtain ⟨hh, gg, d, tt, os⟩ := s
  generalize ((fo.isSome && !isSeqSlot fo) || (ro.isSome && !isSeqSlot ro)) = right at L4
  unfold binaryOp1
  refine wpAny_bind (L1.at (wpAny_bind (L2.at (wpAny_bind (L3.at ?_)))))
  simp only [hne, Bool.false_eq_true, if_false]
  cases right <;>
  · ksp_lk
    refine wpAny_mono one (fun r s' hr => ?_) fun _ _ e => e
    obtain ⟨v, rfl, hq⟩ := hr
    ksp_lk
    exact hq
theorem bin1_refl (X : K.In s.heap) (I : InstAt s.heap x ox C od) (hc : selfFirst K C = true) (hs : findIn K (.ref C) (PySem.dunder nm) = some (some (.ref g))) (hr : findIn K (.ref C) (dunderR nm) = some (some (.ref f))) (hf : isFn K (.ref f) = true)
    (fills : fillsNumberSlot (.type "int") nm = pure true) (hsub : subIn K (.ref C) (.type "int") = some false)
    (decl : ∀ Q : Option Value → Shared → Prop, Q none s → wpAny (model prog w) A (tryMethod (.int i t) (PySem.dunder nm) (.ref x)) Q E s)
    (h : wpAny (model prog w) A (call (.ref f) [.ref x, .int i t]) (PySem.W.CmpBack fun v => Q (some v)) E s) : wpAny (model prog w) A (binaryOp1 nm (.int i t) (.ref x)) Q E s := by
  have one := ksp_try X I hr hf h
  have L3 : Looks (model prog w) s.heap (fillsNumberSlot (.ref C) nm) true := slot_fills X hc hs
  have L1 : Looks (model prog w) s.heap (typeOf (.ref x)) (.ref C) := I.type
  have L2 : Looks (model prog w) s.heap (typeOf (.int i t)) (.type "int") := Looks.of_pure rfl
  have L4 : Looks (model prog w) s.heap (fillsNumberSlot (.type "int") nm) true := Looks.of_pure fills
  have L5 : Looks (model prog w) s.heap (isSubtype (.ref C) (.type "int")) false := looks_subIn X hsub
  have L7 : Looks (model prog w) s.heap (numberSlotInPython (.type "int") nm) false := Looks.of_pure rfl
  have hne : (Value.type "int" == Value.ref C) = false := Bool.eq_false_iff.mpr fun q => by cases beq_iff_eq.mp q
  obtain ⟨hh, gg, d, tt, os⟩ := s
  unfold binaryOp1
  refine wpAny_bind (L2.at (wpAny_bind (L1.at (wpAny_bind (L4.at ?_)))))
  simp only [hne, Bool.false_eq_true, if_false]
  ksp_lk
  refine decl _ ?_
  ksp_lk
  refine wpAny_mono one (fun r s' hr => ?_) fun _ _ e => e
  obtain ⟨v, rfl, hq⟩ := hr
  ksp_lk
  exact hq
end
end

/-! ### own arithmetic -/
section
variable {prog : Program} {w : World} {A : Around} {E : Value → Shared → Prop} {s : Shared} {i : Int} {t : Tok} {x C dx : Addr}
theorem int_declines {id : String} {B : Builtin} {nm : Str} {name : String} {f : Int → Int → Sem Fin} (slot : Slot "int" nm id) (entry : entryFor table id = some B) (args : ∀ a b : Value, argsOk id ⟨[a, b], []⟩) (hB : B = Builtin.Int.intBinary name f) (hx : s.heap.get? x = some (PySem.W.instObj C dx))
    (Q : Option Value → Shared → Prop) (h : Q none s) : wpAny (model prog w) A (tryMethod (.int i t) nm (.ref x)) Q E s := by
  refine wpAny_tryMethod_declines (typeIs_int s i t) slot (wpAny_call_entry slot (typeIs_int s i t) entry ?_ (args _ _))
  rw [hB]
  unfold Builtin.Int.intBinary
  obtain ⟨hp, g, d, tk, os⟩ := s
  wp_walk using wpAny_load' hx
  exact ⟨_, rfl, rfl, h⟩
theorem bin_of1 {op : Operator} {a b : Value} {Q : Value → Shared → Prop} (h : wpAny (model prog w) A (binaryOp1 op.info.2 a b) (fun r s' => ∃ v, r = some v ∧ Q v s') E s) : wpAny (model prog w) A (binaryOp op a b) Q E s := by
  unfold binaryOp
  refine wpAny_holding (wpAny_bind (wpAny_mono h (fun r s' hr => ?_) fun _ _ e => e))
  obtain ⟨v, rfl, hq⟩ := hr
  exact wpAny_pure hq
theorem inp_of1 {op : Operator} {a b ta : Value} {Q : Value → Shared → Prop} (ht : PySem.W.Looks (model prog w) s.heap (typeOf a) ta) (hn : PySem.W.Looks (model prog w) s.heap (fillsInplaceSlot ta op.info.2 (op == .Add)) false)
    (h : wpAny (model prog w) A (binaryOp1 op.info.2 a b) (fun r s' => ∃ v, r = some v ∧ Q v s') E s) : wpAny (model prog w) A (inplaceOp op a b) Q E s := by
  unfold inplaceOp
  refine wpAny_holding (wpAny_bind (ht.here (wpAny_bind (hn.here ?_))))
  simp only [Bool.false_eq_true, if_false]
  refine wpAny_bind (wpAny_mono h (fun r s' hr => ?_) fun _ _ e => e)
  obtain ⟨v, rfl, hq⟩ := hr
  exact wpAny_pure hq
end
section
variable {prog : Program} {w : World} {A : Around} {E : Value → Shared → Prop} {s : Shared} {x C : Addr} {K : PySem.W.Frag} {cd : ClassData}
theorem no_inplace {M : Model} {h : Heap} {nm : String} {add : Bool} (X : K.In h) (hc : PySem.W.clsIn K C = some cd) (hm : cd.mro = [.ref C, .type "object"]) (h1 : PySem.W.findIn K (.ref C) (dunderI nm) = some none) (h2 : PySem.W.findIn K (.type "object") (dunderI nm) = some none) :
    PySem.W.Looks M h (fillsInplaceSlot (.ref C) nm add) false := by
  intro A Q E s k q
  have Lm : PySem.W.Looks M h (mroOf (.ref C)) cd.mro := (PySem.W.looks_clsIn X hc).andThen (f := fun cd => pure cd.mro) .now
  have L1 : PySem.W.Looks M h (typeLookup (.ref C) (dunderI nm)) none := PySem.W.looks_findIn X h1
  have L2 : PySem.W.Looks M h (typeLookup (.type "object") (dunderI nm)) none := PySem.W.looks_findIn X h2
  unfold fillsInplaceSlot
  refine wpAny_bind (Lm.keeps k |>.here ?_)
  rw [hm, List.anyM_cons]
  refine wpAny_bind (wpAny_bind ((L1.keeps k).here ?_))
  refine wpAny_pure ?_
  rw [List.anyM_cons]
  refine wpAny_bind (wpAny_bind ((L2.keeps k).here ?_))
  refine wpAny_pure ?_
  exact wpAny_pure q
end

/-- what the written part says of a class with own + - * -/
def refOr : Option Value → Bool
  | none => true
  | some (.ref _) => true
  | _ => false
theorem refOr_of {r : Option Value} (h : refOr r = true) : r = none ∨ ∃ g : Addr, r = some (.ref g) := by
  unfold refOr at h
  split at h
  · exact .inl rfl
  · exact .inr ⟨_, rfl⟩
  · cases h
structure Arith (K : PySem.W.Frag) (C : Addr) : Prop where
  sf : PySem.W.selfFirst K C = true
  s1 : PySem.W.subIn K (.type "int") (.ref C) = some false
  s2 : PySem.W.subIn K (.ref C) (.type "int") = some false
  mro : ∃ cd, PySem.W.clsIn K C = some cd ∧ cd.mro = [.ref C, .type "object"]
  ia : PySem.W.findIn K (.ref C) "__iadd__" = some none ∧ PySem.W.findIn K (.type "object") "__iadd__" = some none
  isb : PySem.W.findIn K (.ref C) "__isub__" = some none ∧ PySem.W.findIn K (.type "object") "__isub__" = some none
  im : PySem.W.findIn K (.ref C) "__imul__" = some none ∧ PySem.W.findIn K (.type "object") "__imul__" = some none
  ofInt : ∃ a b c d e f, PySem.W.findIn K (.type "int") "__add__" = some a ∧ PySem.W.findIn K (.type "int") "__radd__" = some b ∧ PySem.W.findIn K (.type "int") "__sub__" = some c ∧ PySem.W.findIn K (.type "int") "__rsub__" = some d ∧
    PySem.W.findIn K (.type "int") "__mul__" = some e ∧ PySem.W.findIn K (.type "int") "__rmul__" = some f
  refl : ∃ a b c, (PySem.W.findIn K (.ref C) "__radd__" = some a ∧ refOr a = true) ∧ (PySem.W.findIn K (.ref C) "__rsub__" = some b ∧ refOr b = true) ∧ PySem.W.findIn K (.ref C) "__rmul__" = some c ∧ refOr c = true
  has : ∃ a b c : Addr, PySem.W.findIn K (.ref C) "__add__" = some (some (.ref a)) ∧ PySem.W.findIn K (.ref C) "__sub__" = some (some (.ref b)) ∧ PySem.W.findIn K (.ref C) "__mul__" = some (some (.ref c))
inductive AOp | add | sub | mul
def AOp.op : AOp → Operator | .add => .Add | .sub => .Sub | .mul => .Mult
def AOp.m : AOp → Str | .add => "__add__" | .sub => "__sub__" | .mul => "__mul__"
def AOp.r : AOp → Str | .add => "__radd__" | .sub => "__rsub__" | .mul => "__rmul__"
def AOp.i : AOp → Str | .add => "__iadd__" | .sub => "__isub__" | .mul => "__imul__"
theorem AOp.em (o : AOp) : PySem.dunder o.op.info.2 = o.m := by cases o <;> decide +kernel
theorem AOp.er (o : AOp) : dunderR o.op.info.2 = o.r := by cases o <;> decide +kernel
theorem AOp.ei (o : AOp) : dunderI o.op.info.2 = o.i := by cases o <;> decide +kernel
theorem AOp.fills (o : AOp) : fillsNumberSlot (.type "int") o.op.info.2 = pure true := by
  cases o
  · exact F.fills_int_add
  · exact F.fills_int_sub
  · exact F.fills_int_mul
theorem AOp.decl {prog : Program} {w : World} {A : Around} {E : Value → Shared → Prop} {s : Shared} {i : Int} {t : Tok} {x C dx : Addr} (o : AOp) (hx : s.heap.get? x = some (PySem.W.instObj C dx)) (Q : Option Value → Shared → Prop) (h : Q none s) :
    wpAny (model prog w) A (tryMethod (.int i t) (PySem.dunder o.op.info.2) (.ref x)) Q E s := by
  cases o
  · exact int_declines F.slot_int_add F.entry_int_add F.args_int_add_2 rfl hx Q h
  · exact int_declines F.slot_int_sub F.entry_int_sub F.args_int_sub_2 rfl hx Q h
  · exact int_declines F.slot_int_mul F.entry_int_mul F.args_int_mul_2 rfl hx Q h
section
variable {X : Cx} {k k' : Nat} {C : Addr} {m : Str} {ps ps' : List Str} {sp sp' : Sp} {E : XK}
/-- an instance of C on the left, an int or such an instance on the right -/
def rOwn (C : Addr) (sp : Sp) (E : XK) : R2 := fun x y H Q => ∃ a dx fs, x = .ref a ∧ H a = some (.ins C dx fs) ∧ ((∃ i, y = .int i) ∨ ∃ b dy gs, y = .ref b ∧ H b = some (.ins C dy gs)) ∧ sp [x, y] H Q E
/-- an int on the left -/
def rRefl (C : Addr) (sp : Sp) (E : XK) : R2 := fun x y H Q => ∃ i b dy gs, x = .int i ∧ y = .ref b ∧ H b = some (.ins C dy gs) ∧ sp [y, x] H Q E
def rUna (C : Addr) (sp : Sp) (E : XK) : V → Hp → VK → Prop := fun x H Q => ∃ a dx fs, x = .ref a ∧ H a = some (.ins C dx fs) ∧ sp [x] H Q E
theorem back_of {pins : List (Addr × Obj)} {σ : L2.St} {Q : VK} {u : Value} {s' : Shared} {R : Value → Shared → Prop} (h : EP X pins σ Q u s') (k : ∀ u s', EP X pins σ Q u s' → R u s') : PySem.W.CmpBack R u s' := by
  obtain ⟨v, H', I, r, q⟩ := id h
  cases u with
  | notImplemented =>
    cases v <;> simp [L2.RelV] at r
  | _ => exact k _ _ h
theorem inst_at {pins : List (Addr × Obj)} {σ : L2.St} {H : Hp} {s : Shared} {a dx : Addr} {fs : List (Str × V)} (I : Inv X pins σ H s) (e : H a = some (.ins C dx fs)) : s.heap.get? a = some (PySem.W.instObj C dx) ∧ ∃ od, PySem.W.InstAt s.heap a (PySem.W.instObj C dx) C (some od) := by
  obtain ⟨mA, J, _⟩ := ins_get I.hok e
  obtain ⟨od, J2, _⟩ := J.look
  exact ⟨J.obj, od, J2⟩
theorem bin1_own (o : AOp) (A : Arith X.K C) (O : OwnM X.prog X.w X.K X.mg X.base k C o.m ps sp) (hr : Room k X.A) (hx : Passes (L2N.CX X.prog X.w) X E)
    {pins : List (Addr × Obj)} {s : Shared} {σ : L2.St} {H : Hp} {x y : V} {v u : Value} {Q : VK} (I : Inv X pins σ H s) (rx : RelV x v) (ry : RelV y u) (h : rOwn C sp E x y H Q) :
    wpAny (model X.prog X.w) X.A (binaryOp1 o.op.info.2 v u) (fun r s' => ∃ z, r = some z ∧ EP X pins σ Q z s') X.xe s := by
  obtain ⟨a, dx, fs, rfl, ha, hy, hsp⟩ := h
  obtain rfl : v = Value.ref a := rx
  obtain ⟨f, fd, Fo, hm, hb⟩ := O.ex
  obtain ⟨_, od, J⟩ := inst_at I ha
  have h1 : PySem.W.findIn X.K (.ref C) (PySem.dunder o.op.info.2) = some (some (.ref f)) := by rw [o.em]; exact hm.at_
  obtain ⟨rc, h2, hrc⟩ : ∃ rc, PySem.W.findIn X.K (.ref C) (dunderR o.op.info.2) = some rc ∧ refOr rc = true := by
    rw [o.er]
    obtain ⟨a, b, c, q1, q2, q3⟩ := A.refl
    cases o
    · exact ⟨_, q1⟩
    · exact ⟨_, q2⟩
    · exact ⟨_, q3⟩
  have run := run_fn (us := [.ref a, u]) (vs := [.ref a, y]) (dvs := []) Fo hr hb .nil hx I (.cons rfl (.cons ry .nil)) hsp
  have run2 := wpAny_mono run (fun u s' q => back_of (R := fun v s' => ∃ z, some v = some z ∧ EP X pins σ Q z s') q fun v s' q => ⟨v, rfl, q⟩) fun _ _ e => e
  rcases hy with ⟨i, rfl⟩ | ⟨b, dy, gs, rfl, hb'⟩
  · obtain ⟨t, rfl⟩ := ry
    obtain ⟨fo, ro, e1, e2⟩ : ∃ fo ro, PySem.W.findIn X.K (.type "int") (PySem.dunder o.op.info.2) = some fo ∧ PySem.W.findIn X.K (.type "int") (dunderR o.op.info.2) = some ro := by
      rw [o.em, o.er]
      obtain ⟨p1, p2, p3, p4, p5, p6, q1, q2, q3, q4, q5, q6⟩ := A.ofInt
      cases o
      · exact ⟨_, _, q1, q2⟩
      · exact ⟨_, _, q3, q4⟩
      · exact ⟨_, _, q5, q6⟩
    exact bin1_int I.kIn J A.sf h1 hm.fn h2 (refOr_of hrc) e1 e2 A.s1 run2
  · obtain rfl : u = Value.ref b := ry
    obtain ⟨_, od', J'⟩ := inst_at I hb'
    exact bin1_same I.kIn J J'.type A.sf h1 hm.fn run2
theorem op_own (o : AOp) (A : Arith X.K C) (O : OwnM X.prog X.w X.K X.mg X.base k C o.m ps sp) (hr : Room k X.A) (hx : Passes (L2N.CX X.prog X.w) X E) : OpR X (binaryOp o.op) (rOwn C sp E) :=
  fun _ _ _ _ _ _ _ _ _ I rx ry h => bin_of1 (bin1_own o A O hr hx I rx ry h)
theorem iop_own (o : AOp) (A : Arith X.K C) (O : OwnM X.prog X.w X.K X.mg X.base k C o.m ps sp) (hr : Room k X.A) (hx : Passes (L2N.CX X.prog X.w) X E) : OpR X (inplaceOp o.op) (rOwn C sp E) := by
  intro pins s σ H x y v u Q I rx ry h
  have one := bin1_own o A O hr hx I rx ry h
  obtain ⟨a, dx, fs, rfl, ha, _, _⟩ := h
  obtain rfl : v = Value.ref a := rx
  obtain ⟨_, od, J⟩ := inst_at I ha
  obtain ⟨cd, hcd, hmro⟩ := A.mro
  refine inp_of1 J.type (no_inplace I.kIn hcd hmro ?_ ?_) one
  · rw [o.ei]
    cases o
    · exact A.ia.1
    · exact A.isb.1
    · exact A.im.1
  · rw [o.ei]
    cases o
    · exact A.ia.2
    · exact A.isb.2
    · exact A.im.2
theorem op_refl (o : AOp) (A : Arith X.K C) (R : OwnM X.prog X.w X.K X.mg X.base k C o.r ps sp) (hr : Room k X.A) (hx : Passes (L2N.CX X.prog X.w) X E) : OpR X (binaryOp o.op) (rRefl C sp E) := by
  intro pins s σ H x y v u Q I rx ry h
  obtain ⟨i, b, dy, gs, rfl, rfl, hb, hsp⟩ := h
  obtain ⟨t, rfl⟩ := rx
  obtain rfl : u = Value.ref b := ry
  obtain ⟨f, fd, Fo, hm, hbd⟩ := R.ex
  obtain ⟨hobj, od, J⟩ := inst_at I hb
  obtain ⟨g, h1⟩ : ∃ g : Addr, PySem.W.findIn X.K (.ref C) (PySem.dunder o.op.info.2) = some (some (.ref g)) := by
    rw [o.em]
    obtain ⟨a, b, c, q1, q2, q3⟩ := A.has
    cases o
    · exact ⟨_, q1⟩
    · exact ⟨_, q2⟩
    · exact ⟨_, q3⟩
  have h2 : PySem.W.findIn X.K (.ref C) (dunderR o.op.info.2) = some (some (.ref f)) := by rw [o.er]; exact hm.at_
  have run := run_fn (us := [.ref b, .int i t]) (vs := [.ref b, .int i]) (dvs := []) Fo hr hbd .nil hx I (.cons rfl (.cons ⟨t, rfl⟩ .nil)) hsp
  exact bin_of1 (bin1_refl I.kIn J A.sf h1 h2 hm.fn o.fills A.s2 (fun Q h => o.decl hobj Q h) (wpAny_mono run (fun u s' q => back_of (R := fun v s' => ∃ z, some v = some z ∧ EP X pins σ Q z s') q fun v s' q => ⟨v, rfl, q⟩) fun _ _ e => e))
theorem un_negOwn (O : OwnM X.prog X.w X.K X.mg X.base k C "__neg__" ps sp) (hr : Room k X.A) (hx : Passes (L2N.CX X.prog X.w) X E) : UnR X (unaryOp .USub) (rUna C sp E) := by
  intro pins s σ H x v Q I rx h
  obtain ⟨a, dx, fs, rfl, ha, hsp⟩ := h
  obtain rfl : v = Value.ref a := rx
  obtain ⟨f, fd, Fo, hm, hb⟩ := O.ex
  obtain ⟨_, od, J⟩ := inst_at I ha
  have run := run_fn (us := [.ref a]) (vs := [.ref a]) (dvs := []) Fo hr hb .nil hx I (.cons rfl .nil) hsp
  unfold unaryOp
  refine wpAny_holding ?_
  exact wpAny_bind (PySem.W.special_fn I.kIn J hm.at_ (beq_iff_eq.mp hm.fn) (wpAny_mono run (fun _ _ z => wpAny_pure z) fun _ _ z => z))
theorem call_absOwn (O : OwnM X.prog X.w X.K X.mg X.base k C "__abs__" ps sp) (hr : Room (k + 1) X.A) (hx : Passes (L2N.CX X.prog X.w) X E) : CallR X (.builtin "abs") (fun xs H Q => ∃ a dx fs, xs = [.ref a] ∧ H a = some (.ins C dx fs) ∧ sp [.ref a] H Q E) := by
  intro pins s σ H xs us Q I r h
  obtain ⟨a, dx, fs, rfl, ha, hsp⟩ := h
  obtain ⟨u, rfl, r1⟩ := vals1 r
  obtain rfl : u = Value.ref a := r1
  obtain ⟨f, fd, Fo, hm, hb⟩ := O.ex
  obtain ⟨_, od, J⟩ := inst_at I ha
  refine PySem.Calls.call_function_entry kind_abs plain_abs entry_abs (args_abs _) ?_
  unfold Builtin.«abs»
  refine wpAny_bind (m := oneArg "abs" _) (wpAny_pure ?_)
  refine wpAny_bind (m := callSpecial? (.ref a) (Str.ofString "__abs__")) ?_
  refine PySem.W.special_fn I.kIn J hm.at_ (beq_iff_eq.mp hm.fn) ?_
  have bd := hb s [.ref a] I.kIn (Fo.len _ _ _ _ hsp)
  refine wpAny_call (codeAny_mono (Fo.run X.A.in1 X.stack s H ⟨[.ref a], []⟩ [.ref a] [.ref a] Q E hr.in1 I.env0.in1 bd (.cons rfl .nil) hsp) fun r s' hq => ?_)
  cases r with
  | error e => exact hx pins σ H s e s' I hq
  | ok fl =>
    cases fl with
    | ret u => exact wpAny_pure ⟨_, rfl, I.after hq⟩
    | next => exact False.elim hq
    | brk => exact False.elim hq
    | cont => exact False.elim hq
end
/-! ### operators on ints, further -/
section
variable {X : Cx}
theorem op_mulI : OpR X (binaryOp .Mult) (rI IntMulOk fun i j => .int (i * j)) := opI fun _ _ _ _ _ _ _ hc q => mul_int q hc
def CDivA (_ j : Int) : Prop := j ≠ 0 ∧ j.natAbs.log2 < 9000
theorem op_fdivA : OpR X (binaryOp .FloorDiv) (rI CDivA fun i j => .int (i.fdiv j)) := opI fun i j _ _ _ _ _ hc q => floordiv_int hc.1 q (.inl (PyProof.noPylong_of_log2 hc.2))
end
theorem mok_l {i j : Int} (h : i.natAbs < 2 ^ 64) : IntMulOk i j := by
  have e : (2 : Nat) ^ 64 = 18446744073709551616 := by decide
  rw [e] at h
  exact CMul.ok (.inl ⟨by omega, by omega⟩)
theorem mok_r {i j : Int} (h : j.natAbs < 2 ^ 64) : IntMulOk i j := by
  have e : (2 : Nat) ^ 64 = 18446744073709551616 := by decide
  rw [e] at h
  exact CMul.ok (.inr ⟨by omega, by omega⟩)
theorem mok_w {i j : Int} {a b : Nat} (ha : i.natAbs < 2 ^ a) (hb : j.natAbs < 2 ^ b) (h0 : 0 < a := by decide) (h1 : 0 < b := by decide) (h : a + b ≤ 1000000 := by decide) : IntMulOk i j := CMulW.ok (wide_mul ha hb h0 h1 h)
theorem une {H : Hp} {a p : Addr} {o u : HO} (n : a ≠ p) (h : H a = some o) : upd H p u a = some o := by rw [upd_ne n]; exact h
theorem sqL_of {K : PySem.W.Frag} {H : Hp} {a : Addr} {xs : List V} (h : H a = some (.lst xs)) : SqL K H a xs := SqL.of h
theorem ix_c {xs : List V} {z : Int} {v : V} (h : xs[z.toNat]? = some v) (h0 : 0 ≤ z := by decide) : atI xs z = some v := at_of (Int.toNat_of_nonneg h0).symm h

/-! ### tests whose outcome is open -/
theorem iteI {i j : Int} {A B : Prop} (h1 : i = j → A) (h2 : i ≠ j → B) : if decide (V.int i = V.int j) = true then A else B := by
  by_cases e : i = j
  · rw [decide_eq_true (congrArg V.int e)]
    exact iteT (h1 e)
  · rw [decide_eq_false fun z => e (V.int.inj z)]
    exact iteF (h2 e)
theorem iteIn {i j : Int} {A B : Prop} (h1 : i ≠ j → A) (h2 : i = j → B) : if (!decide (V.int i = V.int j)) = true then A else B := by
  by_cases e : i = j
  · rw [decide_eq_true (congrArg V.int e)]
    exact iteF (h2 e)
  · rw [decide_eq_false fun z => e (V.int.inj z)]
    exact iteT (h1 e)
theorem iteD {p : Prop} [Decidable p] {A B : Prop} (h1 : p → A) (h2 : ¬ p → B) : if decide p = true then A else B := by
  by_cases e : p
  · rw [decide_eq_true e]
    exact iteT (h1 e)
  · rw [decide_eq_false e]
    exact iteF (h2 e)
theorem iteDn {p : Prop} [Decidable p] {A B : Prop} (h1 : ¬ p → A) (h2 : p → B) : if (!decide p) = true then A else B := by
  by_cases e : p
  · rw [decide_eq_true e]
    exact iteF (h2 e)
  · rw [decide_eq_false e]
    exact iteT (h1 e)
theorem iteZ {y : Int} {A B : Prop} (h1 : y ≠ 0 → A) (h2 : y = 0 → B) : if (y != 0) = true then A else B := by
  by_cases e : y = 0
  · subst e
    exact iteF (h2 rfl)
  · rw [bne_iff_ne.mpr e]
    exact iteT (h1 e)
theorem iteDT {p : Prop} [Decidable p] {A B : Prop} (h : p) (a : A) : if decide p = true then A else B := iteD (fun _ => a) fun n => absurd h n
theorem iteDF {p : Prop} [Decidable p] {A B : Prop} (h : ¬ p) (a : B) : if decide p = true then A else B := iteD (fun n => absurd n h) fun _ => a
theorem iteDnT {p : Prop} [Decidable p] {A B : Prop} (h : p) (a : B) : if (!decide p) = true then A else B := iteDn (fun n => absurd h n) fun _ => a
theorem line_le {n : Nat} (h : n ≤ 16777216) : n ≤ sizeLine := by
  rw [sizeLine_eq]
  exact h

/-! ### the law's bag: what is drawn from it is any number below the size -/
/-- a bag stands at b, its script at L -/
def Bag (H : Hp) (L b : Addr) : Prop := ∃ (ns : List Int) (i : Nat) (big mix cnt : Int), H b = some (.lst [.ref L, .int i, .int big, .int mix, .int cnt]) ∧ H L = some (.lst (ns.map V.int)) ∧ L ≠ b
theorem Bag.same {H H' : Hp} {L b : Addr} (s : Same H H') (h : Bag H L b) : Bag H' L b := by
  obtain ⟨ns, i, big, mix, cnt, h1, h2, h3⟩ := h
  exact ⟨ns, i, big, mix, cnt, s _ _ h1, s _ _ h2, h3⟩
theorem Bag.some {H : Hp} {L b : Addr} (h : Bag H L b) : H b ≠ none := by
  obtain ⟨ns, i, big, mix, cnt, h1, h2, h3⟩ := h
  rw [h1]
  exact fun z => nomatch z
theorem Bag.someL {H : Hp} {L b : Addr} (h : Bag H L b) : H L ≠ none := by
  obtain ⟨ns, i, big, mix, cnt, h1, h2, h3⟩ := h
  rw [h2]
  exact fun z => nomatch z
/-- what was made behind the bag stands apart from it -/
theorem Bag.ne {H : Hp} {L b p : Addr} (h : Bag H L b) (n : H p = none) : p ≠ b := fun e => h.some (e ▸ n)
theorem Bag.neL {H : Hp} {L b p : Addr} (h : Bag H L b) (n : H p = none) : p ≠ L := fun e => h.someL (e ▸ n)
/-- another object was changed -/
theorem Bag.keep {H H' : Hp} {L b p : Addr} (h : Bag H L b) (k : Keep p H H') (n : p ≠ b) (n2 : p ≠ L) : Bag H' L b := by
  obtain ⟨ns, i, big, mix, cnt, h1, h2, h3⟩ := h
  exact ⟨ns, i, big, mix, cnt, k _ _ h1 n.symm, k _ _ h2 n2.symm, h3⟩
theorem Bag.mk {H : Hp} {L b : Addr} {ns : List Int} {i : Nat} {big mix cnt : Int} (hb : H b = Option.some (.lst [.ref L, .int i, .int big, .int mix, .int cnt])) (hL : H L = Option.some (.lst (ns.map V.int))) (n : L ≠ b) : Bag H L b :=
  ⟨ns, i, big, mix, cnt, hb, hL, n⟩

/-! ### fields by name -/
theorem lk0 {a : Str} {v : V} {r : List (Str × V)} : ((a, v) :: r).lookup a = some v := by simp [List.lookup]
theorem lk1 {a b : Str} {u : V} {o : Option V} {r : List (Str × V)} (h : (b == a) = false) (k : r.lookup b = o) : ((a, u) :: r).lookup b = o := by
  simp only [List.lookup, h]
  exact k
theorem lkn {b : Str} : ([] : List (Str × V)).lookup b = none := rfl
theorem putF_nil {f : Str} {v : V} : putF f v [] = [(f, v)] := rfl
theorem putF_ne {f g : Str} {u v : V} {r : List (Str × V)} (h : ¬ g = f) : putF f v ((g, u) :: r) = (g, u) :: putF f v r := if_neg h
theorem putF_eq {f : Str} {u v : V} {r : List (Str × V)} : putF f v ((f, u) :: r) = (f, v) :: r := if_pos rfl
theorem same_made {H H2 : Hp} {x dx C : Addr} (nx : H x = none) (nd : H dx = none) (ne : dx ≠ x) (k : Keep x (upd (upd H dx (.own x)) x (.ins C dx [])) H2) : Same H H2 := fun a o e => by
  have n1 := ne_of_none e nx
  have n2 := ne_of_none e nd
  exact k a o (by rw [upd_ne n1, upd_ne n2]; exact e) n1

/-! ### an own exception class, made without arguments -/
theorem pmk_own0 {X : Cx} {C : Addr} {bmB : List Value} {B newId initId : String} {x : Str} {p pos : Pos} (F : ExcBaseFacts B newId initId bmB) (q : PySem.W.excIn X.K C bmB newId = true) (gC : X.mg x = some (.ref C))
    (kC : PySem.W.keepIn X.K (.ref C) = true) (r : Raises X (.ref C)) (hg : Gl X x) (hdb : (x == ("__debug__" : Str)) = false := by decide) : L2N.PMk X (.Call (.Name x p) [] [] pos) (fun _ H Q => Q (.ref C) none H) := by
  intro pins s σ H Q I h
  refine wpAny_Call_Name_kw (ld_glob I hg gC ?_ hdb)
  refine PySem.W.callWith_K0 I.kIn kC ?_
  obtain ⟨bm, N, nm, qn, bs, hdct, sn, sub, ab, col, dd, k0, k1, k2, k3, k5, mN, hC, hN, hni, T⟩ := exc_obj I.kIn q
  refine wpAny_call_exc_subT F T hC hN hni (fun h' e hm => ?_) (Nat.zero_le _)
  exact L2N.mk_of I hm r h (I.hok.gone hm.new)

theorem erase_perm {α : Type} : ∀ {l : List α} {i : Nat} (h : i < l.length), (l[i] :: l.eraseIdx i).Perm l
  | a :: l, 0, _ => .refl _
  | a :: l, i + 1, h => by
    have ih := erase_perm (l := l) (i := i) (by simpa using h)
    simp only [List.getElem_cons_succ, List.eraseIdx_cons_succ]
    exact (List.Perm.swap _ _ _).trans (.cons _ ih)
/-! ### numbers in lowest terms -/
/-- a / b in lowest terms -/
def nrmC (a b : Int) : Int := if b < 0 then -((Nat.gcd a.natAbs b.natAbs : Nat) : Int) else ((Nat.gcd a.natAbs b.natAbs : Nat) : Int)
def nrm (a b : Int) : Int × Int := (a.fdiv (nrmC a b), b.fdiv (nrmC a b))
theorem nrmC_ne {a b : Int} (h : b ≠ 0) : nrmC a b ≠ 0 := by
  have g : 0 < Nat.gcd a.natAbs b.natAbs := Nat.gcd_pos_of_pos_right _ (by omega)
  unfold nrmC
  split <;> omega
theorem nrmC_abs {a b : Int} : (nrmC a b).natAbs = Nat.gcd a.natAbs b.natAbs := by
  unfold nrmC
  split <;> omega
theorem nrmC_log {a b : Int} (h : b ≠ 0) (hb : b.natAbs.log2 < 9000) : (nrmC a b).natAbs.log2 < 9000 := by
  rw [nrmC_abs]
  have g : Nat.gcd a.natAbs b.natAbs ≤ b.natAbs := Nat.gcd_le_right _ (by omega)
  have hb2 : b.natAbs < 2 ^ 9000 := (Nat.log2_lt (by omega)).mp hb
  exact (Nat.log2_lt (by have := Nat.gcd_pos_of_pos_right a.natAbs (show 0 < b.natAbs by omega); omega)).mpr (Nat.lt_of_le_of_lt g hb2)
theorem nrmC_dvd_a {a b : Int} : nrmC a b ∣ a := by
  have h : ((Nat.gcd a.natAbs b.natAbs : Nat) : Int) ∣ a := Int.ofNat_dvd_left.mpr (Nat.gcd_dvd_left _ _)
  unfold nrmC
  split
  · exact Int.neg_dvd.mpr h
  · exact h
theorem nrmC_dvd_b {a b : Int} : nrmC a b ∣ b := by
  have h : ((Nat.gcd a.natAbs b.natAbs : Nat) : Int) ∣ b := Int.ofNat_dvd_left.mpr (Nat.gcd_dvd_right _ _)
  unfold nrmC
  split
  · exact Int.neg_dvd.mpr h
  · exact h
theorem fdiv_mul {a c : Int} (h : c ∣ a) : a.fdiv c * c = a := Int.fdiv_mul_cancel h
theorem nrm_a {a b : Int} : (nrm a b).1 * nrmC a b = a := fdiv_mul nrmC_dvd_a
theorem nrm_b {a b : Int} : (nrm a b).2 * nrmC a b = b := fdiv_mul nrmC_dvd_b
/-- in lowest terms -/
structure Red (t b : Int) : Prop where
  pos : 0 < b
  cop : Nat.gcd t.natAbs b.natAbs = 1
theorem nrm_red {a b : Int} (h : b ≠ 0) : Red (nrm a b).1 (nrm a b).2 := by
  have e1 := nrm_a (a := a) (b := b)
  have e2 := nrm_b (a := a) (b := b)
  have hc := nrmC_ne (a := a) h
  refine ⟨?_, ?_⟩
  · have s : (0 < b ∧ 0 < nrmC a b) ∨ (b < 0 ∧ nrmC a b < 0) := by
      have g : 0 < Nat.gcd a.natAbs b.natAbs := Nat.gcd_pos_of_pos_right _ (by omega)
      unfold nrmC
      split <;> omega
    rcases s with ⟨s1, s2⟩ | ⟨s1, s2⟩
    · exact Int.pos_of_mul_pos_left (by rw [e2]; exact s1) s2
    · refine Int.pos_of_mul_pos_left (b := -nrmC a b) ?_ (by omega)
      rw [Int.mul_neg, e2]
      omega
  · have g : 0 < Nat.gcd a.natAbs b.natAbs := Nat.gcd_pos_of_pos_right _ (by omega)
    have f1 : (nrm a b).1.natAbs * Nat.gcd a.natAbs b.natAbs = a.natAbs := by
      have := congrArg Int.natAbs e1
      rw [Int.natAbs_mul, nrmC_abs] at this
      exact this
    have f2 : (nrm a b).2.natAbs * Nat.gcd a.natAbs b.natAbs = b.natAbs := by
      have := congrArg Int.natAbs e2
      rw [Int.natAbs_mul, nrmC_abs] at this
      exact this
    have f3 : Nat.gcd ((nrm a b).1.natAbs * Nat.gcd a.natAbs b.natAbs) ((nrm a b).2.natAbs * Nat.gcd a.natAbs b.natAbs) = Nat.gcd a.natAbs b.natAbs := by rw [f1, f2]
    rw [Nat.gcd_mul_right] at f3
    exact Nat.eq_of_mul_eq_mul_right g (by rw [f3, Nat.one_mul])
theorem nrm_cross {a b : Int} : (nrm a b).1 * b = a * (nrm a b).2 := by
  have e1 := nrm_a (a := a) (b := b)
  have e2 := nrm_b (a := a) (b := b)
  have h : (nrm a b).1 * ((nrm a b).2 * nrmC a b) = (nrm a b).1 * nrmC a b * (nrm a b).2 := by
    rw [Int.mul_assoc, Int.mul_comm (nrmC a b)]
  rw [e1, e2] at h
  exact h
theorem Red.uniq {t b t' b' : Int} (h : Red t b) (h' : Red t' b') (e : t * b' = t' * b) : t = t' ∧ b = b' := by
  have hb := h.pos
  have hb' := h'.pos
  have f : t.natAbs * b'.natAbs = t'.natAbs * b.natAbs := by
    have := congrArg Int.natAbs e
    rw [Int.natAbs_mul, Int.natAbs_mul] at this
    exact this
  have c : Nat.Coprime b.natAbs t.natAbs := (Nat.gcd_comm _ _).trans h.cop
  have c' : Nat.Coprime b'.natAbs t'.natAbs := (Nat.gcd_comm _ _).trans h'.cop
  have d1 : b.natAbs ∣ b'.natAbs := c.dvd_of_dvd_mul_left ⟨t'.natAbs, by rw [f, Nat.mul_comm]⟩
  have d2 : b'.natAbs ∣ b.natAbs := c'.dvd_of_dvd_mul_left ⟨t.natAbs, by rw [← f, Nat.mul_comm]⟩
  have eb : b = b' := by
    have := Nat.dvd_antisymm d1 d2
    omega
  subst eb
  exact ⟨Int.eq_of_mul_eq_mul_right (by omega) e, rfl⟩
/-- which fraction stands for the number doesn't matter -/
theorem nrm_same {a b c d : Int} (hb : b ≠ 0) (hd : d ≠ 0) (e : a * d = c * b) : nrm a b = nrm c d := by
  have h1 := nrm_cross (a := a) (b := b)
  have h2 := nrm_cross (a := c) (b := d)
  have k : (nrm a b).1 * (nrm c d).2 = (nrm c d).1 * (nrm a b).2 := by
    refine Int.eq_of_mul_eq_mul_right (a := b * d) (Int.mul_ne_zero hb hd) ?_
    calc (nrm a b).1 * (nrm c d).2 * (b * d) = ((nrm a b).1 * b) * (d * (nrm c d).2) := by ac_rfl
      _ = (a * (nrm a b).2) * (d * (nrm c d).2) := by rw [h1]
      _ = (a * d) * ((nrm a b).2 * (nrm c d).2) := by ac_rfl
      _ = (c * b) * ((nrm a b).2 * (nrm c d).2) := by rw [e]
      _ = (c * (nrm c d).2) * ((nrm a b).2 * b) := by ac_rfl
      _ = ((nrm c d).1 * d) * ((nrm a b).2 * b) := by rw [h2]
      _ = (nrm c d).1 * (nrm a b).2 * (b * d) := by ac_rfl
  obtain ⟨e1, e2⟩ := (nrm_red hb).uniq (nrm_red hd) k
  exact Prod.ext e1 e2
theorem nrm_id {t b : Int} (h : Red t b) : nrm t b = (t, b) := by
  have hb := h.pos
  obtain ⟨e1, e2⟩ := (nrm_red (a := t) (b := b) (by omega)).uniq h nrm_cross
  exact Prod.ext e1 e2
theorem red_one {t : Int} : Red t 1 := ⟨by decide, by simp⟩
theorem nrm_one {t : Int} : nrm t 1 = (t, 1) := nrm_id red_one

theorem nrm_zero {a b : Int} (h : b ≠ 0) : (nrm a b).1 = 0 ↔ a = 0 := by
  have e := nrm_a (a := a) (b := b)
  have c := nrmC_ne (a := a) h
  constructor
  · intro z
    rw [z, Int.zero_mul] at e
    exact e.symm
  · intro z
    rw [z] at e
    rcases Int.mul_eq_zero.mp e with u | u
    · rw [z]
      exact u
    · rw [z] at c
      exact absurd u c
theorem nrm_ne {a b : Int} (h : b ≠ 0) : (nrm a b).2 ≠ 0 := by
  have := (nrm_red (a := a) h).pos
  omega
/-- a quotient of numbers in lowest terms -/
theorem nrm_over {a b c d : Int} (hb : b ≠ 0) (hd : d ≠ 0) (hc : c ≠ 0) : nrm ((nrm a b).1 * (nrm c d).2) ((nrm a b).2 * (nrm c d).1) = nrm (a * d) (b * c) := by
  have h1 := nrm_cross (a := a) (b := b)
  have h2 := nrm_cross (a := c) (b := d)
  have n1 := nrm_ne (a := a) hb
  have n2 : (nrm c d).1 ≠ 0 := fun z => hc ((nrm_zero hd).mp z)
  refine nrm_same (Int.mul_ne_zero n1 n2) (Int.mul_ne_zero hb hc) ?_
  calc (nrm a b).1 * (nrm c d).2 * (b * c) = ((nrm a b).1 * b) * (c * (nrm c d).2) := by ac_rfl
    _ = (a * (nrm a b).2) * ((nrm c d).1 * d) := by rw [h1, h2]
    _ = a * d * ((nrm a b).2 * (nrm c d).1) := by ac_rfl

/-! ### Ratios -/
/-- the ratio t / b stands at p -/
def RatAt (ca : Nat → Addr) (H : Hp) (p : Addr) (t b : Int) : Prop := Red t b ∧ ∃ dx, H p = some (.ins (ca 2) dx [("top", .int t), ("bottom", .int b)])
theorem RatAt.same {ca : Nat → Addr} {H H' : Hp} {p : Addr} {t b : Int} (h : RatAt ca H p t b) (s : Same H H') : RatAt ca H' p t b := ⟨h.1, let ⟨dx, e⟩ := h.2; ⟨dx, s _ _ e⟩⟩
/-- a number: an int, or a ratio -/
def NumV (ca : Nat → Addr) (H : Hp) (x : V) (t b : Int) : Prop := (x = .int t ∧ b = 1) ∨ ∃ p, x = .ref p ∧ RatAt ca H p t b
theorem NumV.same {ca : Nat → Addr} {H H' : Hp} {x : V} {t b : Int} (h : NumV ca H x t b) (s : Same H H') : NumV ca H' x t b :=
  h.imp id fun ⟨p, e, r⟩ => ⟨p, e, r.same s⟩
theorem NumV.red {ca : Nat → Addr} {H : Hp} {x : V} {t b : Int} (h : NumV ca H x t b) : Red t b := by
  rcases h with ⟨_, rfl⟩ | ⟨p, _, r⟩
  · exact red_one
  · exact r.1
theorem kit_self {K : PySem.W.Frag} {v : Value} : PySem.W.kitOne K v v = some true := if_pos (beq_iff_eq.mpr rfl)
theorem put_rat {x y : V} : putF "bottom" y (putF "top" x []) = ([("top", x), ("bottom", y)] : List (Str × V)) := by
  rw [putF_nil, putF_ne (by decide +kernel), putF_nil]
theorem lt164 {z : Int} (h0 : -(10 ^ 49 + 2) < z) (h : z < 10 ^ 49 + 2) : z.natAbs < 2 ^ 164 := by
  have e : (2 : Nat) ^ 164 = 23384026197294446691258957323460528314494920687616 := by decide
  have e2 : (10 : Int) ^ 49 = 10000000000000000000000000000000000000000000000000 := by decide
  rw [e]
  rw [e2] at h0 h
  omega
theorem lg164 {z : Int} (h : z.natAbs < 2 ^ 164) : z.natAbs.log2 < 9000 := Nat.lt_trans (PySem.Flt.log2_lt_of (by decide) h) (by decide)
theorem RatAt.mk {ca : Nat → Addr} {H : Hp} {p dx : Addr} {t b : Int} (h : Red t b) (e : H p = some (.ins (ca 2) dx [("top", .int (nrm t b).1), ("bottom", .int (nrm t b).2)])) : RatAt ca H p t b := by
  rw [nrm_id h] at e
  exact ⟨h, dx, e⟩
theorem RatAt.of {ca : Nat → Addr} {H : Hp} {p dx : Addr} {t b : Int} (h : b ≠ 0) (e : H p = some (.ins (ca 2) dx [("top", .int (nrm t b).1), ("bottom", .int (nrm t b).2)])) : RatAt ca H p (nrm t b).1 (nrm t b).2 := ⟨nrm_red h, dx, e⟩
theorem nrm_le1 {a b : Int} (h : b ≠ 0) : (nrm a b).1.natAbs ≤ a.natAbs := by
  have e := congrArg Int.natAbs (nrm_a (a := a) (b := b))
  rw [Int.natAbs_mul] at e
  have c : 0 < (nrmC a b).natAbs := by have := nrmC_ne (a := a) h; omega
  rw [← e]
  exact Nat.le_mul_of_pos_right _ c
theorem nrm_le2 {a b : Int} (h : b ≠ 0) : (nrm a b).2.natAbs ≤ b.natAbs := by
  have e := congrArg Int.natAbs (nrm_b (a := a) (b := b))
  rw [Int.natAbs_mul] at e
  have c : 0 < (nrmC a b).natAbs := by have := nrmC_ne (a := a) h; omega
  rw [← e]
  exact Nat.le_mul_of_pos_right _ c
/-- a pair of ints in lowest terms, none of them large -/
structure TupR (H : Hp) (p : Addr) (t b : Int) : Prop where
  red : Red t b
  st : t.natAbs < 2 ^ 170
  sb : b.natAbs < 2 ^ 170
  at_ : H p = some (.tup [.int t, .int b])
theorem tup_ne {H : Hp} {L b p : Addr} {xs : List V} (B : Bag H L b) (e : H p = some (.tup xs)) : p ≠ b := by
  obtain ⟨ns, i, big, mix, cnt, h1, _⟩ := B
  exact ne_of e h1 fun z => nomatch z
theorem TupR.keep {H H' : Hp} {L b p : Addr} {t u : Int} (h : TupR H p t u) (B : Bag H L b) (k : Keep b H H') : TupR H' p t u := ⟨h.red, h.st, h.sb, k _ _ h.at_ (tup_ne B h.at_)⟩
theorem TupR.same {H H' : Hp} {p : Addr} {t u : Int} (h : TupR H p t u) (s : Same H H') : TupR H' p t u := ⟨h.red, h.st, h.sb, s _ _ h.at_⟩
theorem TupR.of {H : Hp} {p : Addr} {a b : Int} (hb : b ≠ 0) (sa : a.natAbs < 2 ^ 164) (sb : b.natAbs < 2 ^ 164) (e : H p = some (.tup [.int (nrm a b).1, .int (nrm a b).2])) : TupR H p (nrm a b).1 (nrm a b).2 :=
  ⟨nrm_red hb, Nat.lt_of_le_of_lt (nrm_le1 hb) (Nat.lt_trans sa (by decide)), Nat.lt_of_le_of_lt (nrm_le2 hb) (Nat.lt_trans sb (by decide)), e⟩
theorem lg170 {z : Int} (h : z.natAbs < 2 ^ 170) : z.natAbs.log2 < 9000 := Nat.lt_trans (PySem.Flt.log2_lt_of (by decide) h) (by decide)
theorem m170 {x y : Int} (h : x.natAbs < 2 ^ 170) (h2 : y.natAbs < 2 ^ 170) : IntMulOk x y := mok_w h h2
theorem eqv2 {a b c d : Int} : PyData.eqv (.tuple [.int a, .int b]) (.tuple [.int c, .int d]) = decide (a = c ∧ b = d) := by
  by_cases h1 : a = c <;> by_cases h2 : b = d <;> simp [PyData.eqv, PyData.eqvAll, h1, h2]
/-- two pairs of ints, compared -/
theorem eqT {K : PySem.W.Frag} {H : Hp} {p q : Addr} {a b c d : Int} {Q : VK} (hp : H p = some (.tup [.int a, .int b])) (hq : H q = some (.tup [.int c, .int d])) (k : Q (.bl (decide (a = c ∧ b = d))) H) : rEqD K (.ref p) (.ref q) H Q := by
  refine ⟨.tuple [.int a, .int b], .tuple [.int c, .int d], .tup (SqT.of hp) (.cons (.int _) (.cons (.int _) .nil)), .tup (SqT.of hq) (.cons (.int _) (.cons (.int _) .nil)), rfl, rfl, ?_⟩
  rw [eqv2]
  exact k
theorem neT {K : PySem.W.Frag} {H : Hp} {p q : Addr} {a b c d : Int} {Q : VK} (hp : H p = some (.tup [.int a, .int b])) (hq : H q = some (.tup [.int c, .int d])) (k : Q (.bl (!decide (a = c ∧ b = d))) H) : rNeD K (.ref p) (.ref q) H Q := by
  refine ⟨.tuple [.int a, .int b], .tuple [.int c, .int d], .tup (SqT.of hp) (.cons (.int _) (.cons (.int _) .nil)), .tup (SqT.of hq) (.cons (.int _) (.cons (.int _) .nil)), rfl, rfl, ?_⟩
  rw [eqv2]
  exact k
theorem iteNv {x y : V} {A B : Prop} (h : x = y) (b : B) : if (!decide (x = y)) = true then A else B := by
  rw [decide_eq_true h]
  exact iteF b
def dueN (w a0 a1 b0 b1 : Int) : Int × Int := if w = 0 then (a0, b0) else if w = 1 then (a0 * b1, a1 * b0) else if w = 2 then (a0, a1 * b0) else (a0 * b1, b0)
theorem due_ne {w a0 a1 b0 b1 : Int} (h1 : a1 ≠ 0) (h3 : b1 ≠ 0) (h2 : b0 ≠ 0) : (dueN w a0 a1 b0 b1).2 ≠ 0 := by
  unfold dueN
  split
  · exact h2
  · split
    · exact Int.mul_ne_zero h1 h2
    · split
      · exact Int.mul_ne_zero h1 h2
      · exact h2
theorem due_log {w a0 a1 b0 b1 : Int} (s1 : a1.natAbs < 2 ^ 170) (s2 : b0.natAbs < 2 ^ 170) (_ : b1.natAbs < 2 ^ 170) : (dueN w a0 a1 b0 b1).2.natAbs.log2 < 9000 := by
  have m3 : (a1 * b0).natAbs.log2 < 9000 := Nat.lt_trans (PySem.Flt.log2_lt_of (by decide) (wide_lt s1 s2)) (by decide)
  unfold dueN
  split
  · exact lg170 s2
  · split
    · exact m3
    · split
      · exact m3
      · exact lg170 s2
/-! ### sizes -/
def Sz (n : Nat) (z : Int) : Prop := z.natAbs < 2 ^ n
theorem Sz.mono {n m : Nat} {z : Int} (h : Sz n z) (l : n ≤ m := by decide) : Sz m z := Nat.lt_of_lt_of_le h (Nat.pow_le_pow_right (by decide) l)
theorem Sz.mul {n m : Nat} {x y : Int} (h : Sz n x) (k : Sz m y) : Sz (n + m) (x * y) := by
  unfold Sz
  rw [Int.natAbs_mul, Nat.pow_add]
  exact Nat.mul_lt_mul_of_lt_of_le h (Nat.le_of_lt k) (Nat.two_pow_pos _)
theorem Sz.add {n m : Nat} {x y : Int} (h : Sz n x) (k : Sz m y) : Sz (n + m + 1) (x + y) := by
  unfold Sz at *
  have a : 2 ^ n ≤ 2 ^ (n + m) := Nat.pow_le_pow_right (by decide) (Nat.le_add_right _ _)
  have b : 2 ^ m ≤ 2 ^ (n + m) := Nat.pow_le_pow_right (by decide) (Nat.le_add_left _ _)
  rw [Nat.pow_succ]
  omega
/-- both of the same size -/
theorem Sz.add' {n : Nat} {x y : Int} (h : Sz n x) (k : Sz n y) : Sz (n + 1) (x + y) := by
  unfold Sz at *
  rw [Nat.pow_succ]
  omega
theorem Sz.neg {n : Nat} {x : Int} (h : Sz n x) : Sz n (-x) := by
  unfold Sz at *
  omega
theorem Sz.sub {n m : Nat} {x y : Int} (h : Sz n x) (k : Sz m y) : Sz (n + m + 1) (x - y) := by
  rw [Int.sub_eq_add_neg]
  exact h.add k.neg
theorem Sz.sub' {n : Nat} {x y : Int} (h : Sz n x) (k : Sz n y) : Sz (n + 1) (x - y) := by
  unfold Sz at *
  rw [Nat.pow_succ]
  omega
theorem Sz.lg {n : Nat} {x : Int} (h : Sz n x) (l : n ≤ 8999 := by decide) (l0 : 0 < n := by decide) : x.natAbs.log2 < 9000 :=
  Nat.lt_of_lt_of_le (PySem.Flt.log2_lt_of l0 h) (Nat.le_succ_of_le l)
theorem Sz.mok {n m : Nat} {x y : Int} (h : Sz n x) (k : Sz m y) (h0 : 0 < n := by decide) (h1 : 0 < m := by decide) (l : n + m ≤ 1000000 := by decide) : IntMulOk x y := mok_w h k h0 h1 l
theorem Sz.le {n : Nat} {x y : Int} (h : Sz n x) (l : y.natAbs ≤ x.natAbs) : Sz n y := Nat.lt_of_le_of_lt l h
theorem Sz.one : Sz 1 1 := show (1 : Int).natAbs < 2 ^ 1 by decide
theorem Sz.zero : Sz 1 0 := show (0 : Int).natAbs < 2 ^ 1 by decide

/-! ### fractions, and the ratios that stand for them -/
theorem nrm_add {a b c d : Int} (hb : b ≠ 0) (hd : d ≠ 0) : nrm ((nrm a b).1 * (nrm c d).2 + (nrm c d).1 * (nrm a b).2) ((nrm a b).2 * (nrm c d).2) = nrm (a * d + c * b) (b * d) := by
  have h1 := nrm_cross (a := a) (b := b)
  have h2 := nrm_cross (a := c) (b := d)
  refine nrm_same (Int.mul_ne_zero (nrm_ne hb) (nrm_ne hd)) (Int.mul_ne_zero hb hd) ?_
  rw [Int.add_mul, Int.add_mul]
  congr 1
  · calc (nrm a b).1 * (nrm c d).2 * (b * d) = ((nrm a b).1 * b) * (d * (nrm c d).2) := by ac_rfl
      _ = a * (nrm a b).2 * (d * (nrm c d).2) := by rw [h1]
      _ = a * d * ((nrm a b).2 * (nrm c d).2) := by ac_rfl
  · calc (nrm c d).1 * (nrm a b).2 * (b * d) = ((nrm c d).1 * d) * (b * (nrm a b).2) := by ac_rfl
      _ = c * (nrm c d).2 * (b * (nrm a b).2) := by rw [h2]
      _ = c * b * ((nrm a b).2 * (nrm c d).2) := by ac_rfl
theorem nrm_neg {a b : Int} (hb : b ≠ 0) : nrm (-a) b = (-(nrm a b).1, (nrm a b).2) := by
  have h1 := nrm_cross (a := a) (b := b)
  have r := nrm_red (a := a) hb
  rw [← nrm_id (t := -(nrm a b).1) (b := (nrm a b).2) ⟨r.pos, by rw [Int.natAbs_neg]; exact r.cop⟩]
  refine nrm_same hb (nrm_ne hb) ?_
  rw [Int.neg_mul, Int.neg_mul, h1]
theorem nrm_sub {a b c d : Int} (hb : b ≠ 0) (hd : d ≠ 0) : nrm ((nrm a b).1 * (nrm c d).2 - (nrm c d).1 * (nrm a b).2) ((nrm a b).2 * (nrm c d).2) = nrm (a * d - c * b) (b * d) := by
  have h := nrm_add (a := a) (c := -c) hb hd
  rw [nrm_neg hd] at h
  simp only [Int.neg_mul, ← Int.sub_eq_add_neg] at h
  exact h
theorem nrm_mul {a b c d : Int} (hb : b ≠ 0) (hd : d ≠ 0) : nrm ((nrm a b).1 * (nrm c d).1) ((nrm a b).2 * (nrm c d).2) = nrm (a * c) (b * d) := by
  have h1 := nrm_cross (a := a) (b := b)
  have h2 := nrm_cross (a := c) (b := d)
  refine nrm_same (Int.mul_ne_zero (nrm_ne hb) (nrm_ne hd)) (Int.mul_ne_zero hb hd) ?_
  calc (nrm a b).1 * (nrm c d).1 * (b * d) = ((nrm a b).1 * b) * ((nrm c d).1 * d) := by ac_rfl
    _ = a * (nrm a b).2 * (c * (nrm c d).2) := by rw [h1, h2]
    _ = a * c * ((nrm a b).2 * (nrm c d).2) := by ac_rfl
/-- the amount of a number -/
def iab (a : Int) : Int := if a < 0 then -a else a
theorem iab_nat {a : Int} : iab a = (a.natAbs : Int) := by unfold iab; split <;> omega
theorem Sz.iab {n : Nat} {x : Int} (h : Sz n x) : Sz n (iab x) := h.le (by rw [iab_nat]; exact Nat.le_of_eq (Int.natAbs_natCast _))
theorem nrm_abs {a b : Int} (hb : b ≠ 0) : nrm (iab (nrm a b).1) (nrm a b).2 = nrm (iab a) (iab b) := by
  have h1 := congrArg Int.natAbs (nrm_cross (a := a) (b := b))
  have r := nrm_red (a := a) hb
  rw [Int.natAbs_mul, Int.natAbs_mul] at h1
  have e : ((nrm a b).2.natAbs : Int) = (nrm a b).2 := Int.natAbs_of_nonneg (Int.le_of_lt r.pos)
  refine nrm_same (nrm_ne hb) (by rw [iab_nat]; omega) ?_
  rw [iab_nat, iab_nat, iab_nat, ← e, ← Int.natCast_mul, ← Int.natCast_mul, h1]
/-- the ratio of a / b stands at p -/
structure RatQ (ca : Nat → Addr) (H : Hp) (p : Addr) (a b : Int) : Prop where
  ne : b ≠ 0
  at_ : RatAt ca H p (nrm a b).1 (nrm a b).2
theorem RatQ.same {ca : Nat → Addr} {H H' : Hp} {p : Addr} {a b : Int} (h : RatQ ca H p a b) (s : Same H H') : RatQ ca H' p a b := ⟨h.ne, h.at_.same s⟩
theorem rsame {ca : Nat → Addr} {H H' : Hp} {p : Addr} {a b : Int} (s : Same H H') (h : RatQ ca H p a b) : RatQ ca H' p a b := h.same s
theorem strans {H H1 H2 : Hp} (t : Same H1 H2) (s : Same H H1) : Same H H2 := s.trans t
theorem RatQ.to {ca : Nat → Addr} {H : Hp} {p : Addr} {a b c d : Int} (h : RatQ ca H p a b) (hd : d ≠ 0) (e : a * d = c * b) : RatQ ca H p c d := ⟨hd, by rw [← nrm_same h.ne hd e]; exact h.at_⟩
theorem RatQ.ins {ca : Nat → Addr} {H : Hp} {p : Addr} {a b : Int} (h : RatQ ca H p a b) : ∃ dx, H p = some (.ins (ca 2) dx [("top", .int (nrm a b).1), ("bottom", .int (nrm a b).2)]) := h.at_.2
theorem RatQ.of {ca : Nat → Addr} {H : Hp} {p dx : Addr} {a b a' b' : Int} (hb : b ≠ 0) (e : H p = some (.ins (ca 2) dx [("top", .int (nrm a' b').1), ("bottom", .int (nrm a' b').2)])) (n : nrm a' b' = nrm a b) : RatQ ca H p a b :=
  ⟨hb, by rw [n] at e; exact RatAt.of hb e⟩
/-- a number that is a / b: an int, or a ratio -/
def NumQ (ca : Nat → Addr) (H : Hp) (x : V) (a b : Int) : Prop := (x = .int a ∧ b = 1) ∨ ∃ p, x = .ref p ∧ RatQ ca H p a b
theorem NumQ.same {ca : Nat → Addr} {H H' : Hp} {x : V} {a b : Int} (h : NumQ ca H x a b) (s : Same H H') : NumQ ca H' x a b := h.imp id fun ⟨p, e, r⟩ => ⟨p, e, r.same s⟩
theorem NumQ.ne {ca : Nat → Addr} {H : Hp} {x : V} {a b : Int} (h : NumQ ca H x a b) : b ≠ 0 := by
  rcases h with ⟨_, rfl⟩ | ⟨_, _, r⟩
  · decide
  · exact r.ne
theorem NumQ.num {ca : Nat → Addr} {H : Hp} {x : V} {a b : Int} (h : NumQ ca H x a b) : NumV ca H x (nrm a b).1 (nrm a b).2 := by
  rcases h with ⟨rfl, rfl⟩ | ⟨p, e, r⟩
  · rw [nrm_one]
    exact .inl ⟨rfl, rfl⟩
  · exact .inr ⟨p, e, r.at_⟩
theorem RatQ.num {ca : Nat → Addr} {H : Hp} {p : Addr} {a b : Int} (h : RatQ ca H p a b) : NumQ ca H (.ref p) a b := .inr ⟨p, rfl, h⟩
theorem NumQ.int {ca : Nat → Addr} {H : Hp} {a : Int} : NumQ ca H (.int a) a 1 := .inl ⟨rfl, rfl⟩
theorem rOwn_of {ca : Nat → Addr} {H : Hp} {p : Addr} {x : V} {a b a' b' : Int} {sp : Sp} {E : XK} {Q : VK} (h : RatQ ca H p a b) (n : NumQ ca H x a' b') (k : sp [.ref p, x] H Q E) : rOwn (ca 2) sp E (.ref p) x H Q := by
  obtain ⟨dx, e⟩ := h.ins
  refine ⟨p, dx, _, rfl, e, ?_, k⟩
  rcases n with ⟨rfl, rfl⟩ | ⟨q, rfl, r⟩
  · exact .inl ⟨_, rfl⟩
  · obtain ⟨dy, e2⟩ := r.ins
    exact .inr ⟨q, dy, _, rfl, e2⟩
theorem rRefl_of {ca : Nat → Addr} {H : Hp} {p : Addr} {i a b : Int} {sp : Sp} {E : XK} {Q : VK} (h : RatQ ca H p a b) (k : sp [.ref p, .int i] H Q E) : rRefl (ca 2) sp E (.int i) (.ref p) H Q := by
  obtain ⟨dx, e⟩ := h.ins
  exact ⟨i, p, dx, _, rfl, rfl, e, k⟩
theorem rUna_of {ca : Nat → Addr} {H : Hp} {p : Addr} {a b : Int} {sp : Sp} {E : XK} {Q : VK} (h : RatQ ca H p a b) (k : sp [.ref p] H Q E) : rUna (ca 2) sp E (.ref p) H Q := by
  obtain ⟨dx, e⟩ := h.ins
  exact ⟨p, dx, _, rfl, e, k⟩
/-- sums of fractions, from the left -/
def sumQ : Int × Int → List (Int × Int) → Int × Int := List.foldl fun x y => (x.1 * y.2 + y.1 * x.2, x.2 * y.2)
theorem sumQ_size : ∀ (fs : List (Int × Int)) (z : Int × Int) (n : Nat), (∀ f ∈ fs, Sz 200 f.1 ∧ Sz 200 f.2) → Sz n z.1 → Sz n z.2 → Sz (n + 201 * fs.length) (sumQ z fs).1 ∧ Sz (n + 201 * fs.length) (sumQ z fs).2
  | [], z, n, _, h1, h2 => ⟨h1, h2⟩
  | f :: fs, z, n, hf, h1, h2 => by
    obtain ⟨f1, f2⟩ := hf f List.mem_cons_self
    have g1 : Sz (n + 201) (z.1 * f.2 + f.1 * z.2) := ((h1.mul f2).add' ((f1.mul h2).mono (by omega))).mono (by omega)
    have g2 : Sz (n + 201) (z.2 * f.2) := (h2.mul f2).mono (by omega)
    obtain ⟨r1, r2⟩ := sumQ_size fs (z.1 * f.2 + f.1 * z.2, z.2 * f.2) (n + 201) (fun g hg => hf g (List.mem_cons_of_mem _ hg)) g1 g2
    rw [List.length_cons]
    exact ⟨r1.mono (by omega), r2.mono (by omega)⟩
theorem sumQ_ne : ∀ (fs : List (Int × Int)) (z : Int × Int), (∀ f ∈ fs, f.2 ≠ 0) → z.2 ≠ 0 → (sumQ z fs).2 ≠ 0
  | [], _, _, h => h
  | f :: fs, z, hf, h => sumQ_ne fs (z.1 * f.2 + f.1 * z.2, z.2 * f.2) (fun g hg => hf g (List.mem_cons_of_mem _ hg)) (Int.mul_ne_zero h (hf f List.mem_cons_self))
theorem sumQ_app {fs : List (Int × Int)} {z f : Int × Int} : sumQ z (fs ++ [f]) = ((sumQ z fs).1 * f.2 + f.1 * (sumQ z fs).2, (sumQ z fs).2 * f.2) := by
  unfold sumQ
  rw [List.foldl_append]
  rfl
/-- a sum whose first part alone is in lowest terms -/
theorem nrm_addL {a b c d : Int} (hb : b ≠ 0) (hd : d ≠ 0) : nrm ((nrm a b).1 * d + c * (nrm a b).2) ((nrm a b).2 * d) = nrm (a * d + c * b) (b * d) := by
  have h1 := nrm_cross (a := a) (b := b)
  refine nrm_same (Int.mul_ne_zero (nrm_ne hb) hd) (Int.mul_ne_zero hb hd) ?_
  rw [Int.add_mul, Int.add_mul]
  congr 1
  · calc (nrm a b).1 * d * (b * d) = ((nrm a b).1 * b) * (d * d) := by ac_rfl
      _ = a * (nrm a b).2 * (d * d) := by rw [h1]
      _ = a * d * ((nrm a b).2 * d) := by ac_rfl
  · ac_rfl
theorem RatQ.low {ca : Nat → Addr} {H : Hp} {p : Addr} {a b : Int} (h : RatQ ca H p a b) : RatQ ca H p (nrm a b).1 (nrm a b).2 := h.to (nrm_ne h.ne) nrm_cross.symm
/-! ### what another object's change leaves -/
theorem Bag.lst {H : Hp} {L b : Addr} (h : Bag H L b) : ∃ xs, H b = Option.some (.lst xs) := by
  obtain ⟨ns, i, big, mix, cnt, h1, _⟩ := h
  exact ⟨_, h1⟩
theorem RatQ.put {ca : Nat → Addr} {H H' : Hp} {p c : Addr} {a b : Int} {xs : List V} (h : RatQ ca H p a b) (e : H c = some (.lst xs)) (k : Keep c H H') : RatQ ca H' p a b :=
  ⟨h.ne, h.at_.1, let ⟨dx, q⟩ := h.at_.2; ⟨dx, k _ _ q (ne_of q e fun z => nomatch z)⟩⟩
theorem NumQ.put {ca : Nat → Addr} {H H' : Hp} {c : Addr} {x : V} {a b : Int} {xs : List V} (h : NumQ ca H x a b) (e : H c = some (.lst xs)) (k : Keep c H H') : NumQ ca H' x a b := h.imp id fun ⟨p, q, r⟩ => ⟨p, q, r.put e k⟩
theorem tput {H H' : Hp} {p c : Addr} {ys xs : List V} (h : H p = some (.tup ys)) (e : H c = some (.lst xs)) (k : Keep c H H') : H' p = some (.tup ys) := k _ _ h (ne_of h e fun z => nomatch z)
/-- a number with its fraction -/
def Item (ca : Nat → Addr) (H : Hp) (z : V) : Prop := ∃ t x v a b, z = .ref t ∧ H t = some (.tup [x, .ref v]) ∧ H v = some (.tup [.int a, .int b]) ∧ NumQ ca H x a b ∧ Sz 200 a ∧ Sz 200 b
theorem Item.put {ca : Nat → Addr} {H H' : Hp} {c : Addr} {z : V} {xs : List V} (h : Item ca H z) (e : H c = some (.lst xs)) (k : Keep c H H') : Item ca H' z := by
  obtain ⟨t, x, v, a, b, rfl, h1, h2, n, s⟩ := h
  exact ⟨t, x, v, a, b, rfl, tput h1 e k, tput h2 e k, n.put e k, s⟩
theorem Item.same {ca : Nat → Addr} {H H' : Hp} {z : V} (h : Item ca H z) (s : Same H H') : Item ca H' z := by
  obtain ⟨t, x, v, a, b, rfl, h1, h2, n, z⟩ := h
  exact ⟨t, x, v, a, b, rfl, s _ _ h1, s _ _ h2, n.same s, z⟩
/-- the numbers of a list and their fractions, beside each other -/
def Nums (ca : Nat → Addr) (H : Hp) : List V → List (Int × Int) → Prop := Paired fun x f => NumQ ca H x f.1 f.2 ∧ Sz 200 f.1 ∧ Sz 200 f.2
theorem paired_get {α β : Type} {F : α → β → Prop} : ∀ {xs : List α} {fs : List β} {i : Nat} {x : α} {f : β}, Paired F xs fs → xs[i]? = some x → fs[i]? = some f → F x f
  | _, _, 0, _, _, .cons r _, h1, h2 => by
    simp at h1 h2
    subst h1; subst h2
    exact r
  | _, _, i + 1, _, _, .cons _ t, h1, h2 => paired_get (i := i) t (by simpa using h1) (by simpa using h2)
theorem paired_mem {α β : Type} {F : α → β → Prop} : ∀ {xs : List α} {fs : List β}, Paired F xs fs → ∀ f ∈ fs, ∃ x, F x f
  | _, _, .cons r t, f, h => by
    rcases List.mem_cons.mp h with rfl | h
    · exact ⟨_, r⟩
    · exact paired_mem t f h
theorem Nums.same {ca : Nat → Addr} {H H' : Hp} {xs : List V} {fs : List (Int × Int)} (h : Nums ca H xs fs) (s : Same H H') : Nums ca H' xs fs := Paired.mapP h fun _ _ n => ⟨n.1.same s, n.2⟩
theorem Nums.put {ca : Nat → Addr} {H H' : Hp} {c : Addr} {xs ys : List V} {fs : List (Int × Int)} (h : Nums ca H xs fs) (e : H c = some (.lst ys)) (k : Keep c H H') : Nums ca H' xs fs := Paired.mapP h fun _ _ n => ⟨n.1.put e k, n.2⟩
theorem Nums.ne {ca : Nat → Addr} {H : Hp} {xs : List V} {fs : List (Int × Int)} (h : Nums ca H xs fs) : ∀ f ∈ fs, f.2 ≠ 0 := fun f m => let ⟨_, n⟩ := paired_mem h f m; n.1.ne
theorem Nums.sz {ca : Nat → Addr} {H : Hp} {xs : List V} {fs : List (Int × Int)} (h : Nums ca H xs fs) : ∀ f ∈ fs, Sz 200 f.1 ∧ Sz 200 f.2 := fun f m => let ⟨_, n⟩ := paired_mem h f m; n.2
/-! ### lists of the same things -/
def DId : Eqv := fun x y H => DFlat x y H ∨ ∃ a, x = .ref a ∧ y = .ref a
theorem mon_id : Mon DId := fun _ _ _ _ _ d => d
theorem eqG_id {X : Cx} : EqG X 0 DId := EqG.or eqG_flat fun A pins s σ H x y u v sb I rx ry d => by
  obtain ⟨a, rfl, rfl⟩ := d
  cases rx
  cases ry
  exact SeqAt.EqAt.same (A := A) (s := s) (.ref a) X.prog X.w X.xe _ ⟨rfl, H, I, Ext.rfl'⟩
theorem op_eqId {X : Cx} (hr : Room 1 X.A) : OpR X (compareOp .Eq) (rEqG (DList DId)) := op_eqG (rcG_list mon_id eqG_id) hr
/-! ### a static method, called on its class -/
structure OwnS (P : Program) (w : World) (K : PySem.W.Frag) (mg : Str → Option Value) (base : Heap) (k : Nat) (C : Addr) (m : Str) (ps : List Str) (sp : Sp) : Prop where
  ex : ∃ f fd p mc, FnOk P w K mg base (L2N.CX P w) k f fd ps sp ∧ ClX.CRead K C mc ∧ PySem.W.findCls K (.ref C) mc m = some (.get (.builtin "staticmethod.__get__") (.ref p) .none (.ref C)) ∧ (∃ rest, PySem.W.recIn K p "staticmethod" = some (.ref f :: rest)) ∧
    PySem.W.keepIn K (.ref f) = true ∧ Binds K fd ps []
def tStatS (C : Addr) (sp : Sp) (E : L2.St → XK) (ta : TE) (t : TA) : TE := fun σ H Q => ta σ H fun x H1 => x = .ref C ∧ t σ H1 fun vs H2 => sp vs H2 Q (E σ)
theorem pe_owns {X : Cx} {k : Nat} {C : Addr} {m : Str} {ps : List Str} {sp : Sp} {E : L2.St → XK} {pos apos : Pos} {e o : Expr} {es : List Expr} {ta : TE} {t : TA} {pl : Sem Bool} (O : OwnS X.prog X.w X.K X.mg X.base k C m ps sp) (he : PE X o ta) (hr : Room k X.A)
    (hx : ∀ σ, PassesAt (L2N.CX X.prog X.w) X σ (E σ)) (ha : PA X (e :: es) t)
    (hst : starEach (e :: es) X.env = (false, eval e X.env) :: starEach es X.env := by rfl) (hpl : (backTo pos (starEach es X.env)).any (·.1) = false := by rfl)
    (ht : eval (.Call (.Attribute o m apos) (e :: es) [] pos) X.env = (do
      let ov ← eval o X.env
      standAt apos.atName
      let (f, first) ← holding [ov] (getMethod ov m pl)
      callWith pos f first (backTo pos (starEach (e :: es) X.env)) (backToKw pos (keywordEach [] X.env))) := by rfl) :
    PE X (.Call (.Attribute o m apos) (e :: es) [] pos) (tStatS C sp E ta t) := by
  obtain ⟨f, fd, q, mc, F, r, hc, ⟨rest, hp⟩, hk, hb⟩ := O.ex
  refine ⟨fun pins s σ H Q I h => ?_⟩
  refine PySem.W.methodCall_KW (pl := pl) (thn (he.run pins s σ H _ I h) fun u s1 ⟨x, H1, I1, rx, ex, q1⟩ => ?_) ht
  subst ex
  obtain rfl : u = Value.ref C := rx
  refine PySem.W.method_cls I1.kIn r.ga (PySem.W.cls_bind I1.kIn r.rd hc ?_)
  refine wpAny_call (PySem.W.sm_get (s := { s1 with toks := s1.toks + 1 }) I1.kIn hp (PySem.W.handed_on rfl ?_))
  have I2 := I1.tok (s1.toks + 1)
  refine PySem.W.callWith_K (first := []) (h₀ := X.base) I.ok.mod.kin hk (thn (ha.run pos pins _ σ H1 _ I2 q1) fun us s2 ⟨vs, H2, I3, rv, q2⟩ => ⟨I3.kIn, ?_⟩) hst hpl
  exact run_fnS F hr hb (hx σ) I3 rv q2
/-! ### an own error that is caught -/
theorem exm1 {K : PySem.W.Frag} {C : Addr} (h1 : PySem.W.subIn K (.ref C) (.type "BaseException") = some true) (h2 : PySem.W.isClsIn K C = true) (h3 : PySem.W.typeIn K (.ref C) = some (.type "type")) (h4 : PySem.W.subIn K (.ref C) (.ref C) = some true) :
    PySem.W.exmOne K (.ref C) (.ref C) = some true := by
  have h2' : (PySem.W.clsIn K C).isSome = true := h2
  unfold PySem.W.exmOne PySem.W.kitCls
  rw [if_pos (by rw [h1]; rfl)]
  simp only [h2', h3, h4]
  rfl
def tGuard (p : Prop) (t : TS) : TS := fun D σ H => p ∧ t D σ H
theorem pss_err {X : Cx} {st : List Stmt} {t : TS} {cls : Value} {d : Option Addr} {oe : Obj} {C : Addr} (hz : Zc cls d oe) (h : Zc (.ref C) none oe → PSs X st t) : PSs X st (tGuard (cls = .ref C ∧ d = none) t) :=
  ⟨fun pins s σ H D I q => (h (q.1.1 ▸ q.1.2 ▸ hz)).run pins s σ H D I q.2⟩
/-! ### the law's own promise, and the end -/
def sp_law (K : PySem.W.Frag) (_ : Nat → Addr) : Sp := fun vs H Q _ => ∃ (a : Addr) (ns : List Int), vs = [.ref a] ∧ SqL K H a (ns.map V.int) ∧ ∀ H' : Hp, Q (.bl true) H'
theorem walk {l : PySem.W.OpenLaw} {q : Program} {loose : List Str} {XP : (Str → Option Value) → Heap → Prop} {YP : World → Heap → Prop} {d : DefRec} {K : Params → PySem.W.Frag} (k : Nat) (hk : Room k callerA) (hn : l.most = some 63) (hdf : d.params.defaults = [])
    (hY : ∀ (w : World) (h : Heap), YP w h → (K w.params).In h)
    (F : ∀ (w : World) (mg : Str → Option Value) (fa : Addr) (h : Heap), (K w.params).In h → h.Ns mainGlobals mg → mg d.name = some (.ref fa) →
      ∃ fd : FuncData, (∀ (s : Shared) (u : Value), BindsTo s fd ⟨[u], []⟩ [("_law_script", u)]) ∧ ∀ base : Heap, (K w.params).In base → base.Ns mainGlobals mg → FnOk l.prog w (K w.params) mg base (L2N.CX l.prog w) k fa fd ["_law_script"] (sp_law (K w.params) fun _ => 0)) :
    PySem.W.WalkO q loose XP YP l.row.toRowW d [] (fun f vs => PySem.call f vs) :=
  L2.walk_of (n := 63) (k := k) (x := "_law_script") (CX := fun w => L2N.CX l.prog w) (sp := fun w => sp_law (K w.params) fun _ => 0) hn (by decide) hdf hk hY F (fun _ _ a ns _ _ hS => ⟨a, ns, rfl, hS, fun _ => rfl⟩)
    fun _ _ _ _ _ h => by
      obtain ⟨_, _, _, _, _, _, _, _, _, _, _, _, z⟩ := h
      exact z
theorem binds_all {K : PySem.W.Frag} {fd : FuncData} {ps : List Str} {ds : List Value} (v : Vals [] ds) (b : L2.Binds K fd ps ds) : L2.Binds K fd ps [] := by
  cases v
  exact b
end Lo

set_option Elab.async false
set_option linter.all false
set_option maxRecDepth 100000
set_option maxHeartbeats 4000000
namespace Lo
open PySem PySem.Spec PyProof.Rows L2
open TL (tl tl_append)
/-! ### further rules -/
/-- a statement that is never reached -/
def tDead : TS := fun _ _ _ => False
theorem ps_dead {X : Cx} {st : Stmt} : PS X st tDead := ⟨fun _ _ _ _ _ _ h => h.elim⟩
theorem pe_const {X : Cx} {x : Str} {i : Int} {p : Pos} (hm : ∃ t, X.mg x = some (.int i t)) (hg : Gl X x) (hdb : (x == ("__debug__" : Str)) = false := by decide) : PE X (.Name x p) (tC (.int i)) := by
  obtain ⟨t, h⟩ := hm
  exact pe_glob hg h ⟨t, rfl⟩ hdb
theorem op_mulS {X : Cx} : OpR X (binaryOp .Mult) (fun x y H Q => ∃ z n, x = .str z ∧ y = .int n ∧ MulOk z n ∧ Q (.str (Txt.mul z n)) H) := by
  intro pins s σ H x y v u Q I rx ry h
  obtain ⟨z, n, rfl, rfl, hok, q⟩ := h
  obtain ⟨t, rfl⟩ := rx
  obtain ⟨t2, rfl⟩ := ry
  exact SB.mul hok fun t' k => ⟨.str (Txt.mul z n), H, I.tok _, ⟨t', rfl⟩, q⟩
section
variable {X : Cx} {k i : Nat} {C : Addr} {ps : List Str} {sp : Sp} {E : L2.St → XK} {x m y : Str} {p pos apos : Pos} {e o : Expr} {es : List Expr} {ta : TE} {t : TA} {dvs : List V}
/-- C() -/
theorem pe_owni0 (O : OwnI X.prog X.w X.K X.mg X.base k x C ps dvs sp) (hr : Room (k + 1) X.A) (hg : Gl X x) (hx : ∀ σ, PassesAt (L2N.CX X.prog X.w) X σ (E σ)) (hdb : (x == ("__debug__" : Str)) = false := by decide) :
    PE X (.Call (.Name x p) [] [] pos) (tMakeS C sp dvs E tNil) := by
  obtain ⟨f, fd, ds, F, M, hm, hb, hd⟩ := O.ex
  refine ⟨fun pins s σ H Q I h => ?_⟩
  refine wpAny_Call_Name_kw (ld_glob I hg hm ?_ hdb)
  exact PySem.W.callWith_K0 I.kIn M.kp (run_makeS (us := []) (vs := []) M F hr hb hd (hx σ) I .nil h)
/-- cls(..), cls a name of the def that holds the class -/
def tMakeL (i : Nat) (C : Addr) (sp : Sp) (dvs : List V) (E : L2.St → XK) (t : TA) : TE := fun σ H Q => σ[i]? = some (some (.ref C)) ∧ tMakeS C sp dvs E t σ H Q
theorem pe_ownl (O : OwnI X.prog X.w X.K X.mg X.base k x C ps dvs sp) (hr : Room (k + 1) X.A) (hN : X.N[i]? = some y) (hv : Vis X.env.scope y) (hx : ∀ σ, PassesAt (L2N.CX X.prog X.w) X σ (E σ)) (ha : PA X (e :: es) t)
    (hdb : (y == ("__debug__" : Str)) = false := by decide) (hcd : (y == ("__classdict__" : Str)) = false := by decide)
    (he : starEach (e :: es) X.env = (false, eval e X.env) :: starEach es X.env := by rfl) (hpl : (backTo pos (starEach es X.env)).any (·.1) = false := by rfl) :
    PE X (.Call (.Name y p) (e :: es) [] pos) (tMakeL i C sp dvs E t) := by
  obtain ⟨f, fd, ds, F, M, hm, hb, hd⟩ := O.ex
  refine ⟨fun pins s σ H Q I h => ?_⟩
  obtain ⟨hs, ht⟩ := h
  refine wpAny_Call_Name_kw (thn ((pe_var (pos := p) hN hv hdb hcd).run pins s σ H (fun v H1 => v = .ref C ∧ H1 = H) I ⟨.ref C, hs, rfl, rfl⟩) fun u s1 ⟨v, H1, I1, r1, q1⟩ => ?_)
  obtain ⟨rfl, rfl⟩ := q1
  cases r1
  refine PySem.W.callWith_K (h₀ := X.base) I.ok.mod.kin M.kp (thn (ha.run pos pins s1 σ _ _ I1 ht) fun us s2 ⟨vs, H2, I2, r, q⟩ => ⟨I2.kIn, ?_⟩) he hpl
  exact run_makeS M F hr hb hd (hx σ) I2 r q
end
/-- a field, the written part by its own name (within a comprehension) -/
theorem pe_fldK {X : Cx} {K : PySem.W.Frag} {e : Expr} {ta : TE} {f : Str} {pos : Pos} (he : PE X e ta) (hb : attributeBase e f X.env (eval e X.env) = eval e X.env) (hK : X.K = K) : PE X (.Attribute e f pos) (tFld K ta f) := by
  subst hK
  exact pe_fld he hb
/-- a class method, called on its class -/
structure OwnC (P : Program) (w : World) (K : PySem.W.Frag) (mg : Str → Option Value) (base : Heap) (k : Nat) (C : Addr) (m : Str) (ps : List Str) (sp : Sp) : Prop where
  ex : ∃ f fd p mc, FnOk P w K mg base (L2N.CX P w) k f fd ps sp ∧ ClX.CRead K C mc ∧ ClX.CMet K C mc m p f ∧ Binds K fd ps []
theorem pe_ownc {X : Cx} {k : Nat} {C : Addr} {m : Str} {ps : List Str} {sp : Sp} {E : XK} {pos apos : Pos} {e o : Expr} {es : List Expr} {ta : TE} {t : TA} {pl : Sem Bool} (O : OwnC X.prog X.w X.K X.mg X.base k C m ps sp) (he : PE X o ta) (hr : Room k X.A)
    (hx : Passes (L2N.CX X.prog X.w) X E) (ha : PA X (e :: es) t)
    (hst : starEach (e :: es) X.env = (false, eval e X.env) :: starEach es X.env := by rfl) (hpl : (backTo pos (starEach es X.env)).any (·.1) = false := by rfl)
    (ht : eval (.Call (.Attribute o m apos) (e :: es) [] pos) X.env = (do
      let ov ← eval o X.env
      standAt apos.atName
      let (f, first) ← holding [ov] (getMethod ov m pl)
      callWith pos f first (backTo pos (starEach (e :: es) X.env)) (backToKw pos (keywordEach [] X.env))) := by rfl) :
    PE X (.Call (.Attribute o m apos) (e :: es) [] pos) (ClX.tCMeth C sp E ta t) := by
  obtain ⟨f, fd, q, mc, F, r, c, hb⟩ := O.ex
  exact ClX.pe_cmeth he r c ((F.raw hb .nil).imp fun vs H Q E h => by rw [List.append_nil]; exact h) hr hx ha hst hpl ht
/-! ### an instance of another class on the right -/
section
open PySem.W
variable {prog : Program} {w : World} {A : Around} {E : Value → Shared → Prop} {s : Shared} {x y C D f g : Addr} {K : Frag} {ox oy : Obj} {od od' : Option Obj} {nm : String} {Q : Option Value → Shared → Prop} {rc ro : Option Value}
theorem bin1_other (X : K.In s.heap) (I : InstAt s.heap x ox C od) (J : InstAt s.heap y oy D od') (hc : selfFirst K C = true) (hs : findIn K (.ref C) (PySem.dunder nm) = some (some (.ref f))) (hf : isFn K (.ref f) = true) (hr : findIn K (.ref C) (dunderR nm) = some rc) (hp : rc = none ∨ ∃ g : Addr, rc = some (.ref g))
    (hcD : selfFirst K D = true) (hsD : findIn K (.ref D) (PySem.dunder nm) = some (some (.ref g))) (hrD : findIn K (.ref D) (dunderR nm) = some ro) (hpD : ro = none ∨ ∃ g : Addr, ro = some (.ref g)) (hne : C ≠ D) (hsub : subIn K (.ref D) (.ref C) = some false)
    (h : wpAny (model prog w) A (call (.ref f) [.ref x, .ref y]) (PySem.W.CmpBack fun v => Q (some v)) E s) : wpAny (model prog w) A (binaryOp1 nm (.ref x) (.ref y)) Q E s := by
  have one := ksp_try X I hs hf h
  have L3 : Looks (model prog w) s.heap (fillsNumberSlot (.ref C) nm) true := slot_fills X hc hs
  have L4 : Looks (model prog w) s.heap (fillsNumberSlot (.ref D) nm) true := slot_fills X hcD hsD
  have L1 : Looks (model prog w) s.heap (typeOf (.ref x)) (.ref C) := I.type
  have L2 : Looks (model prog w) s.heap (typeOf (.ref y)) (.ref D) := J.type
  have L5 : Looks (model prog w) s.heap (isSubtype (.ref D) (.ref C)) false := looks_subIn X hsub
  have L6 : Looks (model prog w) s.heap (numberSlotInPython (.ref C) nm) true := ksp_inPy X hs hr hp
  have L7 : Looks (model prog w) s.heap (numberSlotInPython (.ref D) nm) true := ksp_inPy X hsD hrD hpD
  have hne : (Value.ref C == Value.ref D) = false := Bool.eq_false_iff.mpr fun q => hne (Value.ref.inj (beq_iff_eq.mp q))
  obtain ⟨hh, gg, d, tt, os⟩ := s
  unfold binaryOp1
  refine wpAny_bind (L1.at (wpAny_bind (L2.at (wpAny_bind (L3.at ?_)))))
  simp only [hne, Bool.false_eq_true, if_false]
  ksp_lk
  refine wpAny_mono one (fun r s' hr => ?_) fun _ _ e => e
  obtain ⟨v, rfl, hq⟩ := hr
  ksp_lk
  exact hq
end
section
variable {X : Cx} {k : Nat} {C D : Addr} {ps : List Str} {sp : Sp} {E : XK}
/-- an instance of C on the left; an int, or an instance of C or of D on the right -/
def rOwnN (C D : Addr) (sp : Sp) (E : XK) : R2 := fun x y H Q => ∃ a dx fs, x = .ref a ∧ H a = some (.ins C dx fs) ∧ ((∃ i, y = .int i) ∨ (∃ b dy gs, y = .ref b ∧ H b = some (.ins C dy gs)) ∨ ∃ b dy gs, y = .ref b ∧ H b = some (.ins D dy gs)) ∧ sp [x, y] H Q E
theorem op_ownN (o : AOp) (A : Arith X.K C) (B : Arith X.K D) (hne : C ≠ D) (hsub : PySem.W.subIn X.K (.ref D) (.ref C) = some false) (O : OwnM X.prog X.w X.K X.mg X.base k C o.m ps sp) (hr : Room k X.A) (hx : Passes (L2N.CX X.prog X.w) X E) :
    OpR X (binaryOp o.op) (rOwnN C D sp E) := by
  intro pins s σ H x y v u Q I rx ry h
  obtain ⟨a, dx, fs, ex, ha, hy, hsp⟩ := h
  rcases hy with h1 | h1 | ⟨b, dy, gs, ey, hb'⟩
  · exact op_own o A O hr hx pins s σ H x y v u Q I rx ry ⟨a, dx, fs, ex, ha, .inl h1, hsp⟩
  · exact op_own o A O hr hx pins s σ H x y v u Q I rx ry ⟨a, dx, fs, ex, ha, .inr h1, hsp⟩
  · subst ex
    subst ey
    obtain rfl : v = Value.ref a := rx
    obtain rfl : u = Value.ref b := ry
    obtain ⟨f, fd, Fo, hm, hb⟩ := O.ex
    obtain ⟨_, od, J⟩ := inst_at I ha
    obtain ⟨_, od2, J2⟩ := inst_at I hb'
    have h1 : PySem.W.findIn X.K (.ref C) (PySem.dunder o.op.info.2) = some (some (.ref f)) := by rw [o.em]; exact hm.at_
    have refl_of : ∀ {c : Addr}, Arith X.K c → ∃ rc, PySem.W.findIn X.K (.ref c) (dunderR o.op.info.2) = some rc ∧ refOr rc = true := by
      intro c A
      rw [o.er]
      obtain ⟨a, b, c, q1, q2, q3⟩ := A.refl
      cases o
      · exact ⟨_, q1⟩
      · exact ⟨_, q2⟩
      · exact ⟨_, q3⟩
    obtain ⟨rc, h2, hrc⟩ := refl_of A
    obtain ⟨rd, h3, hrd⟩ := refl_of B
    obtain ⟨g, h4⟩ : ∃ g : Addr, PySem.W.findIn X.K (.ref D) (PySem.dunder o.op.info.2) = some (some (.ref g)) := by
      rw [o.em]
      obtain ⟨a, b, c, q1, q2, q3⟩ := B.has
      cases o
      · exact ⟨_, q1⟩
      · exact ⟨_, q2⟩
      · exact ⟨_, q3⟩
    have run := run_fn (us := [.ref a, .ref b]) (vs := [.ref a, .ref b]) (dvs := []) Fo hr hb .nil hx I (.cons rfl (.cons rfl .nil)) hsp
    have run2 := wpAny_mono run (fun u s' q => back_of (R := fun v s' => ∃ z, some v = some z ∧ EP X pins σ Q z s') q fun v s' q => ⟨v, rfl, q⟩) fun _ _ e => e
    exact bin_of1 (bin1_other I.kIn J J2 A.sf h1 hm.fn h2 (refOr_of hrc) B.sf h4 h3 (refOr_of hrd) hne hsub run2)
end
/-! ### name = {..} of a comprehension, the name a local -/
theorem ps_setDc {X : Cx} {slot : Nat} {nm : Str} {np : Pos} {ke ve target src : Expr} {tests : List Expr} {sc : Scope} {mine : List (Str × Nat)} {pc ps : Pos} {ti : TI} {tg : TG} {tt : TT} {tk tv : TE} (calm : X.calm = true) (nodup : X.N.Nodup) (at_ : X.N[slot]? = some nm)
    (loc : X.env.scope.names.lookup nm = some .local) (sw : swapsWith (.DictComp ke ve [⟨target, src, tests, 0⟩] sc pc) (some (.Name nm np)) ps.line X.env = pure true) (over : PI X target src ti) (blk : BlkOk X.N X.env.scope sc mine)
    (pg : ∀ (s1 : Shared) (H1 : Hp) (c1 : Addr) (l1 : List (Str × Addr)) (f1 : List Addr), PG (X.blk s1 H1 sc (compEnvC sc l1 c1 X.env) f1) target tg)
    (pt : ∀ (s1 : Shared) (H1 : Hp) (c1 : Addr) (l1 : List (Str × Addr)) (f1 : List Addr), PTs (X.blk s1 H1 sc (compEnvC sc l1 c1 X.env) f1) tests tt)
    (pk : ∀ (s1 : Shared) (H1 : Hp) (c1 : Addr) (l1 : List (Str × Addr)) (f1 : List Addr), PE (X.blk s1 H1 sc (compEnvC sc l1 c1 X.env) f1) ke tk)
    (pv : ∀ (s1 : Shared) (H1 : Hp) (c1 : Addr) (l1 : List (Str × Addr)) (f1 : List Addr), PE (X.blk s1 H1 sc (compEnvC sc l1 c1 X.env) f1) ve tv) (fold : ∀ x, foldedSetIterable src X.env x = pure x := by intro _; rfl) :
    PS X (.Assign [.Name nm np] (.DictComp ke ve [⟨target, src, tests, 0⟩] sc pc) ps) (tAsg (tDc ti tg tt tk tv (mine.map (·.2))) (gName slot)) := by
  refine ⟨fun pins s σ H D I want => ?_⟩
  rw [exec_Assign_Name_used _ _ _ _ sw]
  refine wpAny_bind (wpAny_standAt (wpAny_bind ?_))
  show wpAny _ X.A (do let _ ← comprehension (.DictComp ke ve [⟨target, src, tests, 0⟩] sc pc) sc X.env (firstIterPos [⟨target, src, tests, 0⟩] pc) newDict false (eval src X.env) (some (assign (.Name nm np) X.env))) _ _ s
  have want : tDc ti tg tt tk tv (mine.map (·.2)) σ H (fun x H1 => gName slot x σ H1 D.nx) := want
  refine wpAny_bind (thn (dc_core (Qf := fun _ s' => SP X pins D .next s') calm nodup I over blk pg pt pk pv fold want fun new C s' m H' I' q ns fp => ?_) fun _ s' hq => wpAny_pure (wpAny_pure hq))
  show wpAny _ _ (assign (.Name nm np) X.env (.ref new)) _ _ _
  refine wpAny_assign_Name (store_ok2 (v := V.ref new) I' nodup at_ (.inl loc) rfl (fun s2 I2 ⟨a, sb, ha⟩ => ?_) (.inr loc))
  obtain ⟨g0, g1, g2, g3, g4, g5⟩ := fp
  have apart : C ≠ a := ha.elim (fun z => z ▸ g1) fun z e => g4 nm a z e.symm
  exact ⟨m, ns.sameBut sb apart, fun h3 sb3 => ⟨_, H', I2.turned (t' := s2.toks) (fun b o hb e => (sb3.2 b hb).trans e) g0 g1 g3 g4 g5, q⟩⟩
theorem sw_trueD {ke ve : Expr} {gs : List Comprehension} {sc : Scope} {pc np : Pos} {nm : Str} {l : Nat} {env : Env} (kind : env.scope.kind = .function) (loc : env.scope.names.lookup nm = some .local) (line : (np.line == pc.line) = true)
    (other : (sc.names.any fun (n, k) => n == nm && (k == .local || k == .cell)) = false) : swapsWith (.DictComp ke ve gs sc pc) (some (.Name nm np)) l env = pure true := by
  have one : env.kindOf nm = some .local := loc
  have two : env.blockKind = .function := by unfold Env.blockKind; rw [kind]; rfl
  unfold swapsWith
  simp only [two, one, other, Expr.pos, line]
  rfl
/-! ### words of letters -/
def Lets (z : Str) : Prop := ∀ c ∈ tl z, 97 ≤ c ∧ c ≤ 122
structure NameOk (z : Str) : Prop where
  le : z.length ≤ 12
  ne : 0 < z.length
  ls : Lets z
theorem lets_app {x y : Str} (h : Lets x) (k : Lets y) : Lets (x ++ y) := fun c m => by
  rw [tl_append] at m
  rcases List.mem_append.mp m with m | m
  · exact h c m
  · exact k c m
theorem len_app {x y : Str} : (x ++ y).length = x.length + y.length := by
  show (x.cps ++ y.cps).size = _
  rw [Array.size_append]
  rfl
theorem lets_cut {z : Str} {lo hi : Option Int} (h : Lets z) : Lets (cutS z lo hi) := fun c m => h c (by
  have m : c ∈ (z.cps.toList.drop (HT.sIx z.length 0 lo)).take (HT.sIx z.length z.length hi - HT.sIx z.length 0 lo) := by
    have e : tl (cutS z lo hi) = (z.cps.toList.drop (HT.sIx z.length 0 lo)).take (HT.sIx z.length z.length hi - HT.sIx z.length 0 lo) := by
      unfold cutS tl
      rfl
    rw [e] at m
    exact m
  exact List.mem_of_mem_drop (List.mem_of_mem_take m))
theorem len_cuts {z : Str} {w : Int} : (cutS z none (some w)).length + (cutS z (some w) none).length = z.length := by
  unfold cutS Str.length
  have e1 : HT.sIx z.cps.size 0 none = 0 := rfl
  have e2 : HT.sIx z.cps.size z.cps.size none = z.cps.size := rfl
  have e3 : HT.sIx z.cps.size z.cps.size (some w) = HT.sIx z.cps.size 0 (some w) := rfl
  have e4 := HT.sIx_le z.cps.size 0 (Nat.zero_le _) (some w)
  simp only [Str.length, e1, e2, e3, List.size_toArray, List.length_take, List.length_drop, Array.length_toList]
  omega
theorem lets_one {c : Nat} (h : 97 ≤ c ∧ c ≤ 122) : Lets ⟨#[c]⟩ := fun d m => by
  have e : d = c := by simpa [tl] using m
  subst e
  exact h
theorem len_one {c : Nat} : (⟨#[c]⟩ : Str).length = 1 := rfl
theorem lets_nil : Lets Str.empty := fun c m => by simp [tl, Str.empty] at m
theorem mul_01 {z : Str} {n : Int} (h : n = 0 ∨ n = 1) : MulOk z n ∧ (Txt.mul z n = Str.empty ∨ Txt.mul z n = z) := by
  rcases h with rfl | rfl
  · exact ⟨⟨by decide, fun z => absurd (by decide) z, fun z => absurd (by decide) z⟩, .inl rfl⟩
  · exact ⟨⟨by decide, fun _ z => by simp at z, fun _ z => by simp at z⟩, .inr rfl⟩
theorem uni_alpha : ∀ c : Fin 26, Unicode.isAlpha (97 + c) = true ∧ Unicode.isLower (97 + c) = true ∧ Unicode.isUpper (97 + c) = false ∧ Unicode.isTitle (97 + c) = false := by decide +kernel
theorem uni_of {c : Nat} (h : 97 ≤ c ∧ c ≤ 122) : Unicode.isAlpha c = true ∧ Unicode.isLower c = true ∧ Unicode.isUpper c = false ∧ Unicode.isTitle c = false := by
  have := uni_alpha ⟨c - 97, by omega⟩
  have e : 97 + (c - 97) = c := by omega
  simp only [e] at this
  exact this
def nmB (z : Str) : Bool := decide (z.length ≤ 12) && (Txt.isascii z && (Txt.isalpha z && Txt.islower z))
theorem NameOk.asc {z : Str} (h : NameOk z) : Txt.isascii z = true := by
  unfold Txt.isascii
  rw [← Array.all_toList, List.all_eq_true]
  intro c m
  have := h.ls c m
  exact decide_eq_true (by omega)
theorem NameOk.alp {z : Str} (h : NameOk z) : Txt.isalpha z = true := by
  unfold Txt.isalpha
  rw [Bool.and_eq_true]
  refine ⟨decide_eq_true h.ne, ?_⟩
  rw [← Array.all_toList, List.all_eq_true]
  exact fun c m => (uni_of (h.ls c m)).1
theorem NameOk.low {z : Str} (h : NameOk z) : Txt.islower z = true := by
  unfold Txt.islower
  rw [Bool.and_eq_true, ← Array.any_toList, List.any_eq_true, Bool.not_eq_true', ← Array.any_toList, List.any_eq_false]
  have n := h.ne
  refine ⟨?_, fun c m => ?_⟩
  · have m : z.cps[0]'n ∈ z.cps.toList := by simpa using Array.getElem_mem n
    exact ⟨z.cps[0]'n, m, (uni_of (h.ls _ m)).2.1⟩
  · have u := uni_of (h.ls c m)
    rw [u.2.2.1, u.2.2.2]
    decide
theorem NameOk.nm {z : Str} (h : NameOk z) : nmB z = true := by
  unfold nmB
  rw [h.asc, h.alp, h.low, decide_eq_true h.le]
  rfl
/-! ### sorted lists of words -/
theorem tl_inj {x y : Str} (h : tl x = tl y) : x = y := by
  obtain ⟨⟨a⟩⟩ := x
  obtain ⟨⟨b⟩⟩ := y
  cases (show a = b from h)
  rfl
theorem rising_pw : ∀ (p : Str) (l : List Str), risingS p l = true → (p :: l).Pairwise fun a b => ¬ tl b < tl a
  | p, [], _ => by simp
  | p, x :: r, h => by
    have h : (!ltCps x.cps.toList p.cps.toList && risingS x r) = true := h
    rw [Bool.and_eq_true, Bool.not_eq_true', ltCps_eq] at h
    have h1 : ¬ tl x < tl p := of_decide_eq_false h.1
    have ih := rising_pw x r h.2
    refine List.pairwise_cons.mpr ⟨fun y m => ?_, ih⟩
    rcases List.mem_cons.mp m with rfl | m
    · exact h1
    · have h2 := (List.pairwise_cons.mp ih).1 y m
      exact List.not_lt.mpr (List.le_trans (List.not_lt.mp h1) (List.not_lt.mp h2))
theorem sorted_pw {l : List Str} (h : sortedS l = true) : l.Pairwise fun a b => ¬ tl b < tl a := by
  cases l with
  | nil => exact .nil
  | cons x r => exact rising_pw x r h
theorem sorted_uniq {l m : List Str} (h : sortedS l = true) (k : sortedS m = true) (p : l.Perm m) : l = m :=
  List.Perm.eq_of_pairwise (fun a b _ _ h1 h2 => tl_inj (List.le_antisymm (List.not_lt.mp h1) (List.not_lt.mp h2))) (sorted_pw h) (sorted_pw k) p
theorem nodup_len {α : Type} [DecidableEq α] : ∀ {l m : List α}, l.Nodup → (∀ x ∈ l, x ∈ m) → l.length ≤ m.length
  | [], m, _, _ => Nat.zero_le _
  | x :: l, m, h, s => by
    obtain ⟨h1, h2⟩ := List.nodup_cons.mp h
    have hx := s x List.mem_cons_self
    have ih := nodup_len (l := l) (m := m.erase x) h2 fun y hy => (List.mem_erase_of_ne (fun e => h1 (by rw [← e]; exact hy))).mpr (s y (List.mem_cons_of_mem _ hy))
    rw [List.length_erase_of_mem hx] at ih
    have : 0 < m.length := List.length_pos_of_mem hx
    rw [List.length_cons]
    omega
theorem nodup_perm {α : Type} [DecidableEq α] {l m : List α} (h : l.Nodup) (k : m.Nodup) (s : ∀ x, x ∈ l ↔ x ∈ m) : l.Perm m := by
  rw [List.perm_iff_count]
  intro a
  rw [h.count, k.count]
  simp only [s a]
/-! ### tables by names -/
/-- the names that may stand in tables -/
structure Uni (N : List Str) : Prop where
  len : N.length ≤ 60
  ok : ∀ z ∈ N, NameOk z
structure KOk (N : List Str) (kvs : List (Key × V)) : Prop where
  nd : (kvs.map (·.1)).Nodup
  mem : ∀ kv ∈ kvs, ∃ z ∈ N, kv.1 = .inr z
theorem KOk.nil {N : List Str} : KOk N [] := ⟨.nil, fun _ h => nomatch h⟩
theorem KOk.len {N : List Str} {kvs : List (Key × V)} (h : KOk N kvs) : kvs.length ≤ N.length := by
  have e := nodup_len (m := N.map (Sum.inr : Str → Key)) h.nd fun k hk => by
    obtain ⟨kv, m, rfl⟩ := List.mem_map.mp hk
    obtain ⟨z, hz, e⟩ := h.mem kv m
    rw [e]
    exact List.mem_map.mpr ⟨z, hz, rfl⟩
  rw [List.length_map, List.length_map] at e
  exact e
theorem valV_mem {kvs : List (Key × V)} {k : Key} {v : V} (h : valV kvs k = some v) : (k, v) ∈ kvs := by
  unfold valV at h
  obtain ⟨p, h1, rfl⟩ := Option.map_eq_some_iff.mp h
  have e : decide (p.1 = k) = true := List.find?_some (p := fun kv : Key × V => decide (kv.1 = k)) h1
  have e := of_decide_eq_true e
  have m := List.mem_of_find?_eq_some h1
  obtain ⟨a, b⟩ := p
  cases e
  exact m
theorem valV_none {kvs : List (Key × V)} {k : Key} : valV kvs k = none ↔ k ∉ kvs.map (·.1) := by
  unfold valV
  rw [Option.map_eq_none_iff, List.find?_eq_none]
  constructor
  · intro h m
    obtain ⟨p, hp, e⟩ := List.mem_map.mp m
    exact h p hp (decide_eq_true e)
  · intro h p hp e
    exact h (List.mem_map.mpr ⟨p, hp, of_decide_eq_true e⟩)
theorem valV_of : ∀ {kvs : List (Key × V)} {k : Key} {v : V}, (kvs.map (·.1)).Nodup → (k, v) ∈ kvs → valV kvs k = some v
  | p :: r, k, v, h, m => by
    rw [List.map_cons] at h
    obtain ⟨h1, h2⟩ := List.nodup_cons.mp h
    rcases List.mem_cons.mp m with e | m
    · subst e
      exact valV_pos rfl
    · rw [valV_neg fun e => h1 (by rw [e]; exact List.mem_map.mpr ⟨_, m, rfl⟩)]
      exact valV_of h2 m
theorem KOk.put {N : List Str} {kvs : List (Key × V)} {z : Str} (h : KOk N kvs) (hz : z ∈ N) (v : V) : KOk N (putK kvs (.inr z) v) := by
  cases e : valV kvs (.inr z) with
  | none =>
    rw [putK_new v e]
    refine ⟨?_, fun kv m => ?_⟩
    · rw [List.map_append, List.nodup_append]
      refine ⟨h.nd, by simp, fun a ha b hb => ?_⟩
      have eb : b = .inr z := by simpa using hb
      rintro rfl
      rw [eb] at ha
      exact valV_none.mp e ha
    · rcases List.mem_append.mp m with m | m
      · exact h.mem kv m
      · cases List.mem_singleton.mp m
        exact ⟨z, hz, rfl⟩
  | some u =>
    have a : (kvs.any fun kv => decide (kv.1 = .inr z)) = true := by rw [valV_any, e]; rfl
    unfold putK
    rw [if_pos a]
    have hk : (kvs.map fun kv => if kv.1 = .inr z then (kv.1, v) else kv).map (·.1) = kvs.map (·.1) := by
      rw [List.map_map]
      refine List.map_congr_left fun kv _ => ?_
      show (if kv.1 = .inr z then (kv.1, v) else kv).1 = kv.1
      split <;> rfl
    refine ⟨by rw [hk]; exact h.nd, fun kv m => ?_⟩
    obtain ⟨kv', m', rfl⟩ := List.mem_map.mp m
    obtain ⟨y, hy, e'⟩ := h.mem kv' m'
    refine ⟨y, hy, ?_⟩
    split
    · exact e'
    · exact e'
theorem KOk.at_ {N : List Str} {kvs : List (Key × V)} {k : Key} {v : V} {i : Nat} (h : KOk N kvs) (e : kvs[i]? = some (k, v)) : ∃ z ∈ N, k = .inr z ∧ valV kvs (.inr z) = some v := by
  have m := List.mem_of_getElem? e
  obtain ⟨z, hz, ez⟩ := h.mem _ m
  have ez : k = .inr z := ez
  subst ez
  exact ⟨z, hz, rfl, valV_of h.nd m⟩
/-- what stands at the names -/
structure Tab (N : List Str) (R : Str → V → Prop) (Z : Str → Prop) (kvs : List (Key × V)) : Prop where
  k : KOk N kvs
  r : ∀ z v, valV kvs (.inr z) = some v → R z v
  z : ∀ z, valV kvs (.inr z) = none → Z z
theorem Tab.mono {N : List Str} {R R' : Str → V → Prop} {Z Z' : Str → Prop} {kvs : List (Key × V)} (h : Tab N R Z kvs) (a : ∀ z v, R z v → R' z v) (b : ∀ z, Z z → Z' z) : Tab N R' Z' kvs := ⟨h.k, fun z v e => a z v (h.r z v e), fun z e => b z (h.z z e)⟩
theorem Tab.off {N : List Str} {R : Str → V → Prop} {Z : Str → Prop} {kvs : List (Key × V)} (h : Tab N R Z kvs) {z : Str} (n : z ∉ N) : Z z := h.z z (by
  rw [valV_none]
  intro m
  obtain ⟨kv, m, e⟩ := List.mem_map.mp m
  obtain ⟨y, hy, e'⟩ := h.k.mem kv m
  rw [e] at e'
  cases e'
  exact n hy)
/-- the first i names of kvs are done: the new table holds what R says, or nothing where Z holds; the others are not in it -/
structure Part (N : List Str) (R : Str → V → Prop) (Z : Str → Prop) (kvs : List (Key × V)) (i : Nat) (new : List (Key × V)) : Prop where
  k : KOk N new
  r : ∀ z v, valV new (.inr z) = some v → R z v ∧ (.inr z : Key) ∈ (kvs.take i).map (·.1)
  z : ∀ z, valV new (.inr z) = none → (.inr z : Key) ∈ (kvs.take i).map (·.1) → Z z
theorem Part.start {N : List Str} {R : Str → V → Prop} {Z : Str → Prop} {kvs : List (Key × V)} : Part N R Z kvs 0 [] := ⟨.nil, fun z v e => (by rw [valV_nil] at e; cases e), fun z _ m => (by simp at m)⟩
theorem take_mem {kvs : List (Key × V)} {k y : Key} {v : V} {i : Nat} (e : kvs[i]? = some (k, v)) : y ∈ (kvs.take (i + 1)).map (·.1) ↔ y ∈ (kvs.take i).map (·.1) ∨ y = k := by
  rw [List.take_add_one, e, List.map_append, List.mem_append]
  simp
theorem Part.mono {N : List Str} {R R' : Str → V → Prop} {Z Z' : Str → Prop} {kvs new : List (Key × V)} {i : Nat} (h : Part N R Z kvs i new) (a : ∀ z v, R z v → R' z v) (b : ∀ z, Z z → Z' z) : Part N R' Z' kvs i new :=
  ⟨h.k, fun z v e => ⟨a z v (h.r z v e).1, (h.r z v e).2⟩, fun z e m => b z (h.z z e m)⟩
theorem Part.put {N : List Str} {R : Str → V → Prop} {Z : Str → Prop} {kvs new : List (Key × V)} {i : Nat} {z : Str} {v u : V} (h : Part N R Z kvs i new) (e : kvs[i]? = some (.inr z, u)) (hz : z ∈ N) (r : R z v) : Part N R Z kvs (i + 1) (putK new (.inr z) v) := by
  refine ⟨h.k.put hz v, fun y w q => ?_, fun y q m => ?_⟩
  · rw [valV_put] at q
    rw [take_mem e]
    by_cases c : (Sum.inr y : Key) = Sum.inr z
    · rw [if_pos c] at q
      cases q
      cases c
      exact ⟨r, .inr rfl⟩
    · rw [if_neg c] at q
      obtain ⟨a, b⟩ := h.r y w q
      exact ⟨a, .inl b⟩
  · rw [valV_put] at q
    by_cases c : (Sum.inr y : Key) = Sum.inr z
    · rw [if_pos c] at q
      cases q
    · rw [if_neg c] at q
      rcases (take_mem e).mp m with m | m
      · exact h.z y q m
      · exact absurd m c
theorem Part.skip {N : List Str} {R : Str → V → Prop} {Z : Str → Prop} {kvs new : List (Key × V)} {i : Nat} {z : Str} {u : V} (h : Part N R Z kvs i new) (e : kvs[i]? = some (.inr z, u)) (n : Z z) : Part N R Z kvs (i + 1) new := by
  refine ⟨h.k, fun y w q => ?_, fun y q m => ?_⟩
  · obtain ⟨a, b⟩ := h.r y w q
    exact ⟨a, (take_mem e).mpr (.inl b)⟩
  · rcases (take_mem e).mp m with m | m
    · exact h.z y q m
    · cases m
      exact n
theorem Part.done {N : List Str} {R : Str → V → Prop} {Z : Str → Prop} {kvs new : List (Key × V)} (h : Part N R Z kvs kvs.length new) (o : ∀ z, valV kvs (.inr z) = none → Z z) : Tab N R Z new := by
  refine ⟨h.k, fun z v e => (h.r z v e).1, fun z e => ?_⟩
  cases q : valV kvs (.inr z) with
  | none => exact o z q
  | some u =>
    refine h.z z e ?_
    rw [List.take_length]
    exact List.mem_map.mpr ⟨_, valV_mem q, rfl⟩
/-! ### locks -/
theorem same_lock {H H2 : Hp} {d : Addr} {od : Obj} {u : HO} (h : H d = some u) (s : Same (upd H d (.frz od u)) H2) : Same H (upd H2 d u) := fun a o e => by
  by_cases c : a = d
  · subst c
    rw [h] at e
    cases e
    exact upd_same
  · rw [upd_ne c]
    exact s a o (by rw [upd_ne c]; exact e)
/-- over what is locked already, or with a lock of its own -/
structure LkW (p q : Prop) : Prop where
  h : p ∨ q
def tLk (t : TS) : TS := fun D σ H => LkW (tLock t D σ H) (t D σ H)
def tLkE (t : TE) : TE := fun σ H Q => LkW (tLockE t σ H Q) (t σ H Q)
theorem ps_lk {X : Cx} {st : Stmt} {t : TS} (h : PS X st t) : PS X st (tLk t) := ⟨fun pins s σ H D I q => q.h.elim (fun q => (ps_lock h).run pins s σ H D I q) fun q => h.run pins s σ H D I q⟩
theorem pe_lk {X : Cx} {e : Expr} {t : TE} (h : PE X e t) : PE X e (tLkE t) := ⟨fun pins s σ H Q I q => q.h.elim (fun q => (pe_lock h).run pins s σ H Q I q) fun q => h.run pins s σ H Q I q⟩
/-- a dict comprehension over what Walk tells of -/
theorem dc_it {J : It} {n : Nat} {G : Hp → Prop} {Y : Nat → Hp → V → Hp → Prop} (w : Walk J n G Y) {g : TG} {tt : TT} {tk tv : TE} {vs : List Nat} {σ : L2.St} {H1 : Hp} {D : Addr} {Qd : Hp → Prop} (Pv : Nat → Hp → Prop) (h0 : Pv 0 (upd H1 D (.dK []))) (hG : ∀ i H, i ≤ n → Pv i H → G H)
    (hs : ∀ i x H H', i < n → Pv i H → Y i H x H' → g x (wipe σ vs) H' fun σ2 H2 => wipe σ2 vs = wipe σ vs ∧ tt σ2 H2 fun b H3 =>
      if b = true then tk σ2 H3 fun y H4 => tv σ2 H4 fun z H5 => ∃ kvs k, y = kV k ∧ H5 D = some (.dK kvs) ∧ kvs.length < sizeLine ∧ Pv (i + 1) (upd H5 D (.dK (putK kvs k z))) else Pv (i + 1) H3) (hd : ∀ H, Pv n H → Qd H) :
    ∃ W : Nat → Nat → Hp → Prop, (∃ m, W 0 m (upd H1 D (.dK []))) ∧ ∀ i m H, W i m H →
      (J.stop i H ∧ Qd H) ∨ (J.go i H ∧ ∃ Nx : Hp → Prop, (∀ H', Nx H' → ∃ m', m' < m ∧ W (i + 1) m' H') ∧ ∀ x H', J.yld i H x H' → g x (wipe σ vs) H' fun σ2 H2 => wipe σ2 vs = wipe σ vs ∧ tt σ2 H2 fun b H3 =>
        if b = true then tk σ2 H3 fun y H4 => tv σ2 H4 fun z H5 => ∃ kvs k, y = kV k ∧ H5 D = some (.dK kvs) ∧ kvs.length < sizeLine ∧ Nx (upd H5 D (.dK (putK kvs k z))) else Nx H3) := by
  refine ⟨fun i m H => m = n - i ∧ i ≤ n ∧ Pv i H, ⟨n, by simp, Nat.zero_le _, h0⟩, ?_⟩
  rintro i m H ⟨rfl, hi, p⟩
  have q := hG i H hi p
  by_cases hlt : i < n
  · refine .inr ⟨w.goes i H hlt q, Pv (i + 1), fun H' p' => ⟨n - (i + 1), by omega, rfl, hlt, p'⟩, fun x H' y => hs i x H H' hlt p (w.yields i H x H' hlt q y)⟩
  · have e : i = n := by omega
    subst e
    exact .inl ⟨w.stops H q, hd H p⟩
/-- the same over the keys of a locked dict with names -/
theorem dc_names {d : Addr} {od : Obj} {N : List Str} {kvs : List (Key × V)} (hk : KOk N kvs) {g : TG} {tt : TT} {tk tv : TE} {vs : List Nat} {σ : L2.St} {H1 : Hp} {D : Addr} {Qd : Hp → Prop} (Pv : Nat → Hp → Prop) (h0 : Pv 0 (upd H1 D (.dK [])))
    (hG : ∀ i H, i ≤ kvs.length → Pv i H → H d = some (.frz od (.dK kvs)))
    (hs : ∀ i z v H, kvs[i]? = some (.inr z, v) → z ∈ N → valV kvs (.inr z) = some v → Pv i H → g (.str z) (wipe σ vs) H fun σ2 H2 => wipe σ2 vs = wipe σ vs ∧ tt σ2 H2 fun b H3 =>
      if b = true then tk σ2 H3 fun y H4 => tv σ2 H4 fun z H5 => ∃ kvs k, y = kV k ∧ H5 D = some (.dK kvs) ∧ kvs.length < sizeLine ∧ Pv (i + 1) (upd H5 D (.dK (putK kvs k z))) else Pv (i + 1) H3) (hd : ∀ H, Pv kvs.length H → Qd H) :
    ∃ W : Nat → Nat → Hp → Prop, (∃ m, W 0 m (upd H1 D (.dK []))) ∧ ∀ i m H, W i m H →
      ((Itk d od kvs).stop i H ∧ Qd H) ∨ ((Itk d od kvs).go i H ∧ ∃ Nx : Hp → Prop, (∀ H', Nx H' → ∃ m', m' < m ∧ W (i + 1) m' H') ∧ ∀ x H', (Itk d od kvs).yld i H x H' → g x (wipe σ vs) H' fun σ2 H2 => wipe σ2 vs = wipe σ vs ∧ tt σ2 H2 fun b H3 =>
        if b = true then tk σ2 H3 fun y H4 => tv σ2 H4 fun z H5 => ∃ kvs k, y = kV k ∧ H5 D = some (.dK kvs) ∧ kvs.length < sizeLine ∧ Nx (upd H5 D (.dK (putK kvs k z))) else Nx H3) :=
  dc_it walk_keys Pv h0 hG (fun i x H H' hi p y => by
    obtain ⟨e, k, v, hkv, ex⟩ := y
    obtain ⟨z, hz, ek, hv⟩ := hk.at_ hkv
    subst e; subst ex; subst ek
    exact hs i z v _ hkv hz hv p) hd
/-- a list comprehension over the keys of a locked dict with names -/
theorem lc_names {d : Addr} {od : Obj} {N : List Str} {kvs : List (Key × V)} (hk : KOk N kvs) {g : TG} {tt : TT} {te : TE} {vs : List Nat} {σ : L2.St} {H1 : Hp} {D : Addr} {Qd : Hp → Prop} (Pv : Nat → Hp → Prop) (h0 : Pv 0 (upd H1 D (.lst [])))
    (hG : ∀ i H, i ≤ kvs.length → Pv i H → H d = some (.frz od (.dK kvs)))
    (hs : ∀ i z v H, kvs[i]? = some (.inr z, v) → z ∈ N → valV kvs (.inr z) = some v → Pv i H → g (.str z) (wipe σ vs) H fun σ2 H2 => wipe σ2 vs = wipe σ vs ∧ tt σ2 H2 fun b H3 =>
      if b = true then te σ2 H3 fun y H4 => ∃ acc, H4 D = some (.lst acc) ∧ acc.length < sizeLine ∧ Pv (i + 1) (upd H4 D (.lst (acc ++ [y]))) else Pv (i + 1) H3) (hd : ∀ H, Pv kvs.length H → Qd H) :
    ∃ W : Nat → Nat → Hp → Prop, (∃ m, W 0 m (upd H1 D (.lst []))) ∧ ∀ i m H, W i m H →
      ((Itk d od kvs).stop i H ∧ Qd H) ∨ ((Itk d od kvs).go i H ∧ ∃ Nx : Hp → Prop, (∀ H', Nx H' → ∃ m', m' < m ∧ W (i + 1) m' H') ∧ ∀ x H', (Itk d od kvs).yld i H x H' → g x (wipe σ vs) H' fun σ2 H2 => wipe σ2 vs = wipe σ vs ∧ tt σ2 H2 fun b H3 =>
        if b = true then te σ2 H3 fun y H4 => ∃ acc, H4 D = some (.lst acc) ∧ acc.length < sizeLine ∧ Nx (upd H4 D (.lst (acc ++ [y]))) else Nx H3) :=
  lc_it walk_keys Pv h0 hG (fun i x H H' hi p y => by
    obtain ⟨e, k, v, hkv, ex⟩ := y
    obtain ⟨z, hz, ek, hv⟩ := hk.at_ hkv
    subst e; subst ex; subst ek
    exact hs i z v _ hkv hz hv p) hd
/-- a for over the keys of a locked dict with names -/
theorem for_names {d : Addr} {od : Obj} {N : List Str} {kvs : List (Key × V)} (hk : KOk N kvs) {g : TG} {tb : TS} {D : Ends} {σ : L2.St} {H : Hp} (Pv : Nat → L2.St → Hp → Prop) (h0 : Pv 0 σ H) (hG : ∀ i σ H, i ≤ kvs.length → Pv i σ H → H d = some (.frz od (.dK kvs)))
    (hs : ∀ i z v σ H, kvs[i]? = some (.inr z, v) → z ∈ N → valV kvs (.inr z) = some v → Pv i σ H → g (.str z) σ H fun σ2 H2 => tb { D with nx := Pv (i + 1), ct := Pv (i + 1), bk := D.nx } σ2 H2) (hd : ∀ σ H, Pv kvs.length σ H → D.nx σ H) :
    ∃ W : Nat → Nat → L2.St → Hp → Prop, (∃ m, W 0 m σ H) ∧ ∀ i m σ H, W i m σ H →
      ((Itk d od kvs).stop i H ∧ D.nx σ H) ∨ ((Itk d od kvs).go i H ∧ ∃ N : L2.St → Hp → Prop, (∀ σ' H', N σ' H' → ∃ m', m' < m ∧ W (i + 1) m' σ' H') ∧ ∀ x H', (Itk d od kvs).yld i H x H' → g x σ H' fun σ2 H2 => tb { D with nx := N, ct := N, bk := D.nx } σ2 H2) :=
  for_it walk_keys Pv h0 hG (fun i x σ H H' hi p y => by
    obtain ⟨e, k, v, hkv, ex⟩ := y
    obtain ⟨z, hz, ek, hv⟩ := hk.at_ hkv
    subst e; subst ex; subst ek
    exact hs i z v σ _ hkv hz hv p) hd
/-! ### forms -/
abbrev Fm := Str → Int × Int
def RedF (f : Fm) : Prop := ∀ z, Red (f z).1 (f z).2
def SzF (n : Nat) (f : Fm) : Prop := ∀ z, Sz n (f z).1 ∧ Sz n (f z).2
theorem SzF.mono {n m : Nat} {f : Fm} (h : SzF n f) (l : n ≤ m := by decide) : SzF m f := fun z => ⟨(h z).1.mono l, (h z).2.mono l⟩
def ShR (ca : Nat → Addr) (f : Fm) (H : Hp) : Str → V → Prop := fun z v => ∃ q, v = .ref q ∧ RatAt ca H q (f z).1 (f z).2 ∧ (f z).1 ≠ 0
def ShZ (f : Fm) : Str → Prop := fun z => f z = (0, 1)
/-- the dict of a form's shares -/
def FormSh (ca : Nat → Addr) (H : Hp) (d : Addr) (N : List Str) (f : Fm) : Prop := ∃ kvs, H d = some (.dK kvs) ∧ Tab N (ShR ca f H) (ShZ f) kvs
def FormAt (ca : Nat → Addr) (H : Hp) (p : Addr) (N : List Str) (f : Fm) : Prop := ∃ dx d, H p = some (.ins (ca 3) dx [("_shares", .ref d)]) ∧ FormSh ca H d N f
theorem ShR.same {ca : Nat → Addr} {f : Fm} {H H' : Hp} (s : Same H H') {z : Str} {v : V} (h : ShR ca f H z v) : ShR ca f H' z v := by
  obtain ⟨q, e, r, n⟩ := h
  exact ⟨q, e, r.same s, n⟩
theorem RatAt.keep {ca : Nat → Addr} {H H' : Hp} {p c : Addr} {a b : Int} {u : HO} (h : RatAt ca H p a b) (e : H c = some u) (n : ∀ C dx fs, u ≠ .ins C dx fs) (k : Keep c H H') : RatAt ca H' p a b :=
  ⟨h.1, let ⟨dx, q⟩ := h.2; ⟨dx, k _ _ q (ne_of q e fun z => n _ _ _ z.symm)⟩⟩
theorem ShR.keep {ca : Nat → Addr} {f : Fm} {H H' : Hp} {c : Addr} {u : HO} (e : H c = some u) (n : ∀ C dx fs, u ≠ .ins C dx fs) (k : Keep c H H') {z : Str} {v : V} (h : ShR ca f H z v) : ShR ca f H' z v := by
  obtain ⟨q, e1, r, m⟩ := h
  exact ⟨q, e1, r.keep e n k, m⟩
theorem FormSh.same {ca : Nat → Addr} {H H' : Hp} {d : Addr} {N : List Str} {f : Fm} (h : FormSh ca H d N f) (s : Same H H') : FormSh ca H' d N f := by
  obtain ⟨kvs, e, t⟩ := h
  exact ⟨kvs, s _ _ e, t.mono (fun _ _ => ShR.same s) fun _ z => z⟩
theorem FormAt.same {ca : Nat → Addr} {H H' : Hp} {p : Addr} {N : List Str} {f : Fm} (h : FormAt ca H p N f) (s : Same H H') : FormAt ca H' p N f := by
  obtain ⟨dx, d, e, t⟩ := h
  exact ⟨dx, d, s _ _ e, t.same s⟩
theorem FormAt.put {ca : Nat → Addr} {H H' : Hp} {p c : Addr} {N : List Str} {f : Fm} {xs : List V} (h : FormAt ca H p N f) (e : H c = some (.lst xs)) (k : Keep c H H') : FormAt ca H' p N f := by
  obtain ⟨dx, d, e1, kvs, e2, t⟩ := h
  exact ⟨dx, d, k _ _ e1 (ne_of e1 e fun z => nomatch z), kvs, k _ _ e2 (ne_of e2 e fun z => nomatch z), t.mono (fun _ _ => ShR.keep e (fun _ _ _ z => nomatch z) k) fun _ z => z⟩
theorem red01 : Red 0 1 := ⟨by decide, by decide⟩
theorem FormSh.red {ca : Nat → Addr} {H : Hp} {d : Addr} {N : List Str} {f : Fm} (h : FormSh ca H d N f) : RedF f := fun z => by
  obtain ⟨kvs, _, t⟩ := h
  cases e : valV kvs (.inr z) with
  | none =>
    rw [show f z = (0, 1) from t.z z e]
    exact red01
  | some v =>
    obtain ⟨q, _, r, _⟩ := t.r z v e
    exact r.1
theorem FormAt.red {ca : Nat → Addr} {H : Hp} {p : Addr} {N : List Str} {f : Fm} (h : FormAt ca H p N f) : RedF f := by
  obtain ⟨_, _, _, t⟩ := h
  exact t.red
theorem FormAt.off {ca : Nat → Addr} {H : Hp} {p : Addr} {N : List Str} {f : Fm} (h : FormAt ca H p N f) {z : Str} (n : z ∉ N) : f z = (0, 1) := by
  obtain ⟨_, _, _, kvs, _, t⟩ := h
  exact t.off n
theorem RatAt.q {ca : Nat → Addr} {H : Hp} {p : Addr} {a b : Int} (h : RatAt ca H p a b) : RatQ ca H p a b := ⟨by have := h.1.pos; omega, by rw [nrm_id h.1]; exact h⟩
/-- sums, and products with c / d -/
def addP (x y : Int × Int) : Int × Int := nrm (x.1 * y.2 + y.1 * x.2) (x.2 * y.2)
def mulP (x y : Int × Int) : Int × Int := nrm (x.1 * y.1) (x.2 * y.2)
/-- numbers handed to a form -/
def NumR (ca : Nat → Addr) (f : Fm) (H : Hp) : Str → V → Prop := fun z v => NumV ca H v (f z).1 (f z).2
theorem NumR.same {ca : Nat → Addr} {f : Fm} {H H' : Hp} (s : Same H H') {z : Str} {v : V} (h : NumR ca f H z v) : NumR ca f H' z v := NumV.same h s
theorem dget {H : Hp} {d : Addr} {kvs : List (Key × V)} {z : Str} {v : V} (e : Rd H d (.dK kvs)) (h : valV kvs (.inr z) = some v) : DGet H d (.str z) (some v) := .inl ⟨kvs, .inr z, e, rfl, h.symm⟩
/-- what a form's dict is, while it is built over the keys of kvs -/
def Build (ca : Nat → Addr) (N : List Str) (f : Fm) (Z : Str → Prop) (R : Str → V → Hp → Prop) (H0 : Hp) (D : Addr) (kvs : List (Key × V)) (i : Nat) (H : Hp) : Prop :=
  Same H0 H ∧ ∃ new, H D = some (.dK new) ∧ Part N (fun z v => R z v H) Z kvs i new
theorem NumV.keep {ca : Nat → Addr} {H H' : Hp} {x : V} {c : Addr} {a b : Int} {u : HO} (h : NumV ca H x a b) (e : H c = some u) (n : ∀ C dx fs, u ≠ .ins C dx fs) (k : Keep c H H') : NumV ca H' x a b := h.imp id fun ⟨p, q, r⟩ => ⟨p, q, r.keep e n k⟩
theorem nd {kvs : List (Key × V)} : ∀ C dx fs, HO.dK kvs ≠ .ins C dx fs := fun _ _ _ z => nomatch z
theorem nf {o : Obj} {u : HO} : ∀ C dx fs, HO.frz o u ≠ .ins C dx fs := fun _ _ _ z => nomatch z
theorem KOk.line {N : List Str} {kvs : List (Key × V)} (h : KOk N kvs) (u : Uni N) : kvs.length < sizeLine := by
  have := h.len
  have := u.len
  rw [sizeLine_eq]
  omega
theorem Red.zero {t b : Int} (h : Red t b) (e : t = 0) : b = 1 := by
  subst e
  have c := h.cop
  have p := h.pos
  simp only [Int.natAbs_zero, Nat.gcd_zero_left] at c
  omega
theorem RatAt.keepN {ca : Nat → Addr} {H H' : Hp} {p c C dx : Addr} {a b : Int} (h : RatAt ca H p a b) (e : H c = some (.ins C dx [])) (k : Keep c H H') : RatAt ca H' p a b :=
  ⟨h.1, let ⟨dy, q⟩ := h.2; ⟨dy, k _ _ q (ne_of q e fun z => by injection z with _ _ h; cases h)⟩⟩
theorem ShR.keepN {ca : Nat → Addr} {f : Fm} {H H' : Hp} {c C dx : Addr} (e : H c = some (.ins C dx [])) (k : Keep c H H') {z : Str} {v : V} (h : ShR ca f H z v) : ShR ca f H' z v := by
  obtain ⟨q, e1, r, m⟩ := h
  exact ⟨q, e1, r.keepN e k, m⟩
theorem KOk.names {N : List Str} {kvs : List (Key × V)} (h : KOk N kvs) : ∃ ks : List Str, kvs.map (·.1) = ks.map Sum.inr ∧ ks.Nodup ∧ (∀ z, z ∈ ks ↔ ∃ v, valV kvs (.inr z) = some v) ∧ ks.length = kvs.length := by
  have all : ∀ l : List (Key × V), (∀ kv ∈ l, ∃ z ∈ N, kv.1 = .inr z) → ∃ ks : List Str, l.map (·.1) = ks.map Sum.inr := by
    intro l
    induction l with
    | nil => exact fun _ => ⟨[], rfl⟩
    | cons a l ih =>
      intro hm
      obtain ⟨z, _, e⟩ := hm a List.mem_cons_self
      obtain ⟨ks, e2⟩ := ih fun kv m => hm kv (List.mem_cons_of_mem _ m)
      exact ⟨z :: ks, by rw [List.map_cons, List.map_cons, e, e2]⟩
  obtain ⟨ks, e⟩ := all kvs h.mem
  have n := h.nd
  rw [e] at n
  refine ⟨ks, e, ?_, fun z => ?_, by have := congrArg List.length e; rw [List.length_map, List.length_map] at this; exact this.symm⟩
  · exact List.Pairwise.of_map Sum.inr (fun a b hab e => hab (by rw [e])) n
  · have m : z ∈ ks ↔ (Sum.inr z : Key) ∈ kvs.map (·.1) := by
      rw [e, List.mem_map]
      exact ⟨fun m => ⟨z, m, rfl⟩, fun ⟨y, m, q⟩ => by cases q; exact m⟩
    rw [m]
    cases q : valV kvs (.inr z) with
    | none => exact ⟨fun m => absurd m (valV_none.mp q), fun ⟨v, r⟩ => nomatch r⟩
    | some v => exact ⟨fun _ => ⟨v, rfl⟩, fun _ => List.mem_map.mpr ⟨_, valV_mem q, rfl⟩⟩
theorem Tab.put {N : List Str} {R : Str → V → Prop} {Z : Str → Prop} {kvs : List (Key × V)} {z : Str} {v : V} (h : Tab N R Z kvs) (hz : z ∈ N) (r : R z v) : Tab N R Z (putK kvs (.inr z) v) := by
  refine ⟨h.k.put hz v, fun y w q => ?_, fun y q => ?_⟩
  · rw [valV_put] at q
    by_cases c : (Sum.inr y : Key) = Sum.inr z
    · rw [if_pos c] at q
      cases q
      cases c
      exact r
    · rw [if_neg c] at q
      exact h.r y w q
  · rw [valV_put] at q
    by_cases c : (Sum.inr y : Key) = Sum.inr z
    · rw [if_pos c] at q
      cases q
    · rw [if_neg c] at q
      exact h.z y q
/-- .. where at z something else is told from then on -/
theorem Tab.set {N : List Str} {R R' : Str → V → Prop} {Z Z' : Str → Prop} {kvs : List (Key × V)} {z : Str} {v : V} (h : Tab N R Z kvs) (hz : z ∈ N) (r : R' z v) (a : ∀ y u, y ≠ z → R y u → R' y u) (b : ∀ y, y ≠ z → Z y → Z' y) : Tab N R' Z' (putK kvs (.inr z) v) := by
  refine ⟨h.k.put hz v, fun y w q => ?_, fun y q => ?_⟩
  · rw [valV_put] at q
    by_cases c : (Sum.inr y : Key) = Sum.inr z
    · rw [if_pos c] at q
      cases q
      cases c
      exact r
    · rw [if_neg c] at q
      exact a y w (fun e => c (by rw [e])) (h.r y w q)
  · rw [valV_put] at q
    by_cases c : (Sum.inr y : Key) = Sum.inr z
    · rw [if_pos c] at q
      cases q
    · rw [if_neg c] at q
      exact b y (fun e => c (by rw [e])) (h.z y q)
theorem Tab.nil {N : List Str} {R : Str → V → Prop} {Z : Str → Prop} (h : ∀ z, Z z) : Tab N R Z [] := ⟨.nil, fun z v e => (by rw [valV_nil] at e; cases e), fun z _ => h z⟩
theorem FormSh.mem {ca : Nat → Addr} {H : Hp} {N : List Str} {f : Fm} {kvs : List (Key × V)} (t : Tab N (ShR ca f H) (ShZ f) kvs) (z : Str) : (∃ v, valV kvs (.inr z) = some v) ↔ (f z).1 ≠ 0 := by
  cases q : valV kvs (.inr z) with
  | none => exact ⟨fun ⟨v, r⟩ => (nomatch r), fun n => absurd (by rw [show f z = (0, 1) from t.z z q]) n⟩
  | some v =>
    obtain ⟨_, _, _, n⟩ := t.r z v q
    exact ⟨fun _ => n, fun _ => ⟨v, rfl⟩⟩
/-- the form of one name -/
def oneF (z : Str) : Fm := fun y => if y = z then (1, 1) else (0, 1)
theorem addP_zero {x : Int × Int} (h : Red x.1 x.2) : addP x (0, 1) = x := by
  unfold addP
  rw [Int.mul_one, Int.zero_mul, Int.add_zero, Int.mul_one, nrm_id h]
theorem oneF_self {z : Str} : oneF z z = (1, 1) := if_pos rfl
theorem oneF_ne {z y : Str} (h : y ≠ z) : oneF z y = (0, 1) := if_neg h
theorem FormAt.ins {ca : Nat → Addr} {H : Hp} {p : Addr} {N : List Str} {f : Fm} (h : FormAt ca H p N f) : ∃ dx d, H p = some (.ins (ca 3) dx [("_shares", .ref d)]) := let ⟨dx, d, e, _⟩ := h; ⟨dx, d, e⟩
/-- a form and a form beside an operator of theirs -/
theorem fOwn2_of {ca : Nat → Addr} {H : Hp} {p q : Addr} {N N' : List Str} {f g : Fm} {sp : Sp} {E : XK} {Q : VK} (h : FormAt ca H p N f) (h2 : FormAt ca H q N' g) (k : sp [.ref p, .ref q] H Q E) : rOwn (ca 3) sp E (.ref p) (.ref q) H Q := by
  obtain ⟨dx, d, e⟩ := h.ins
  obtain ⟨dy, d2, e2⟩ := h2.ins
  exact ⟨p, dx, _, rfl, e, .inr ⟨q, dy, _, rfl, e2⟩, k⟩
/-- a form and an int -/
theorem fOwn_of {ca : Nat → Addr} {H : Hp} {p : Addr} {x : V} {N : List Str} {f : Fm} {sp : Sp} {E : XK} {Q : VK} (h : FormAt ca H p N f) (hx : ∃ i, x = .int i) (k : sp [.ref p, x] H Q E) : rOwn (ca 3) sp E (.ref p) x H Q := by
  obtain ⟨dx, d, e⟩ := h.ins
  exact ⟨p, dx, _, rfl, e, .inl hx, k⟩
theorem fRefl_of {ca : Nat → Addr} {H : Hp} {p : Addr} {i : Int} {N : List Str} {f : Fm} {sp : Sp} {E : XK} {Q : VK} (h : FormAt ca H p N f) (k : sp [.ref p, .int i] H Q E) : rRefl (ca 3) sp E (.int i) (.ref p) H Q := by
  obtain ⟨dx, d, e⟩ := h.ins
  exact ⟨i, p, dx, _, rfl, rfl, e, k⟩
theorem fUna_of {ca : Nat → Addr} {H : Hp} {p : Addr} {N : List Str} {f : Fm} {sp : Sp} {E : XK} {Q : VK} (h : FormAt ca H p N f) (k : sp [.ref p] H Q E) : rUna (ca 3) sp E (.ref p) H Q := by
  obtain ⟨dx, d, e⟩ := h.ins
  exact ⟨p, dx, _, rfl, e, k⟩
theorem nrm_0 {d : Int} (h : d ≠ 0) : nrm 0 d = (0, 1) := by
  rw [nrm_same h (show (1 : Int) ≠ 0 by decide) (show (0 : Int) * 1 = 0 * d by rw [Int.zero_mul, Int.zero_mul]), nrm_id red01]
theorem mulP_0 {c d : Int} (h : d ≠ 0) : mulP (0, 1) (c, d) = (0, 1) := by
  unfold mulP
  rw [Int.zero_mul, Int.one_mul, nrm_0 h]
theorem RatQ.keep {ca : Nat → Addr} {H H' : Hp} {p c : Addr} {a b : Int} {u : HO} (h : RatQ ca H p a b) (e : H c = some u) (n : ∀ C dx fs, u ≠ .ins C dx fs) (k : Keep c H H') : RatQ ca H' p a b := ⟨h.ne, h.at_.keep e n k⟩
theorem NumQ.keep {ca : Nat → Addr} {H H' : Hp} {x : V} {c : Addr} {a b : Int} {u : HO} (h : NumQ ca H x a b) (e : H c = some u) (n : ∀ C dx fs, u ≠ .ins C dx fs) (k : Keep c H H') : NumQ ca H' x a b := h.imp id fun ⟨p, q, r⟩ => ⟨p, q, r.keep e n k⟩
theorem NumQ.own {ca : Nat → Addr} {H : Hp} {x : V} {a b : Int} (h : NumQ ca H x a b) : (∃ i, x = .int i) ∨ (∃ b dy gs, x = .ref b ∧ H b = some (.ins (ca 3) dy gs)) ∨ ∃ b dy gs, x = .ref b ∧ H b = some (.ins (ca 2) dy gs) := by
  rcases h with ⟨e, _⟩ | ⟨p, e, r⟩
  · exact .inl ⟨_, e⟩
  · obtain ⟨dx, q⟩ := r.ins
    exact .inr (.inr ⟨p, dx, _, e, q⟩)
theorem fOwnN_of {ca : Nat → Addr} {H : Hp} {p : Addr} {x : V} {N : List Str} {f : Fm} {a b : Int} {sp : Sp} {E : XK} {Q : VK} (h : FormAt ca H p N f) (hx : NumQ ca H x a b) (k : sp [.ref p, x] H Q E) : rOwnN (ca 3) (ca 2) sp E (.ref p) x H Q := by
  obtain ⟨dx, d, e⟩ := h.ins
  exact ⟨p, dx, _, rfl, e, hx.own, k⟩
theorem mulP_neg {y : Int × Int} (h : Red y.1 y.2) : mulP y (-1, 1) = (-y.1, y.2) := by
  have n : y.2 ≠ 0 := by have := h.pos; omega
  unfold mulP
  show nrm (y.1 * -1) (y.2 * 1) = _
  rw [Int.mul_one, Int.mul_neg, Int.mul_one, nrm_neg n, nrm_id h]
theorem sub_0 {x y : Int × Int} (h : Red x.1 x.2) (k : Red y.1 y.2) : (addP x (mulP y (-1, 1))).1 = 0 ↔ x = y := by
  have n1 : x.2 ≠ 0 := by have := h.pos; omega
  have n2 : y.2 ≠ 0 := by have := k.pos; omega
  rw [mulP_neg k]
  unfold addP
  rw [nrm_zero (Int.mul_ne_zero n1 n2)]
  show x.1 * y.2 + -y.1 * x.2 = 0 ↔ x = y
  rw [Int.neg_mul]
  constructor
  · intro e
    obtain ⟨a, b⟩ := h.uniq k (show x.1 * y.2 = y.1 * x.2 by omega)
    exact Prod.ext a b
  · rintro rfl
    omega
/-! ### drawn words -/
theorem joinL_nil : ∀ ps : List (List Nat), TL.joinL [] ps = ps.flatten
  | [] => rfl
  | [p] => by simp [TL.joinL]
  | p :: q :: r => by
    show p ++ ([] ++ TL.joinL [] (q :: r)) = _
    rw [List.nil_append, joinL_nil (q :: r), List.flatten_cons (l := p)]
def Sign (z : Str) : Prop := ∃ c, (97 ≤ c ∧ c ≤ 122) ∧ z = ⟨#[c]⟩
theorem Sign.lets {z : Str} (h : Sign z) : Lets z := by
  obtain ⟨c, hc, rfl⟩ := h
  exact lets_one hc
theorem Sign.len {z : Str} (h : Sign z) : z.length = 1 := by
  obtain ⟨c, hc, rfl⟩ := h
  rfl
theorem tl_len {z : Str} : (tl z).length = z.length := by
  unfold tl Str.length
  rw [Array.length_toList]
theorem join_signs {zs : List Str} (h : ∀ z ∈ zs, Sign z) : Lets (Txt.join Str.empty zs) ∧ (Txt.join Str.empty zs).length = zs.length := by
  have e : tl (Txt.join Str.empty zs) = (zs.map tl).flatten := by
    rw [TL.join_eq, TL.tl_join]
    exact joinL_nil _
  constructor
  · intro c m
    rw [e] at m
    obtain ⟨l, hl, hc⟩ := List.mem_flatten.mp m
    obtain ⟨z, hz, rfl⟩ := List.mem_map.mp hl
    exact (h z hz).lets c hc
  · rw [← tl_len, e]
    clear e
    induction zs with
    | nil => rfl
    | cons z zs ih =>
      rw [List.map_cons, List.flatten_cons, List.length_append, ih fun y m => h y (List.mem_cons_of_mem _ m), tl_len, (h z List.mem_cons_self).len, List.length_cons]
      omega
theorem abc_all : (Str.ofString "abcdefghijklmnopqrstuvwxyz").length = 26 ∧ ∀ d : Fin 26, (Str.ofString "abcdefghijklmnopqrstuvwxyz").cps[d.val]? = some (97 + d.val) := by decide +kernel
/-- one of the letters -/
theorem abc_at {d : Int} (h0 : 0 ≤ d) (h1 : d < 26) : (Str.ofString "abcdefghijklmnopqrstuvwxyz").cps[d.toNat]? = some (97 + d.toNat) := abc_all.2 ⟨d.toNat, by omega⟩
theorem sign_abc {d : Int} (h1 : d < 26) : Sign ⟨#[97 + d.toNat]⟩ := ⟨_, by omega, rfl⟩
theorem rIxS_abc {d : Int} {H : Hp} {Q : VK} (h0 : 0 ≤ d) (h1 : d < 26) (k : Q (.str ⟨#[97 + d.toNat]⟩) H) : rIxS (.str (Str.ofString "abcdefghijklmnopqrstuvwxyz")) (.int d) H Q := by
  obtain ⟨n, rfl⟩ := Int.eq_ofNat_of_zero_le h0
  have e : (Str.ofString "abcdefghijklmnopqrstuvwxyz").cps.toList[n]? = some (97 + n) := by
    rw [Array.getElem?_toList]
    exact abc_at h0 h1
  exact ⟨_, _, _, rfl, rfl, line_le (by rw [abc_all.1]; decide), atI_nat e, k⟩
theorem keep_new {b D : Addr} {H H' : Hp} {o : HO} (k : Keep b H H') (n : H D = none) : Keep b H (upd H' D o) := fun a u e m => by
  rw [upd_ne (ne_of_none e n)]
  exact k a u e m
theorem size_line {n : Nat} (h : n < 10000) : n < sizeLine := Nat.lt_of_lt_of_le h (line_le (by decide))
theorem size_le {n : Nat} (h : n < 10000) : n ≤ sizeLine := Nat.le_of_lt (size_line h)
theorem strs_snoc {acc : List Str} {z : Str} : acc.map V.str ++ [V.str z] = (acc ++ [z]).map V.str := by simp
theorem keep_free {b p : Addr} {H H' : Hp} (k : Keep b H H') (n : H' p = none) (m : p ≠ b) : H p = none := by
  cases e : H p with
  | none => rfl
  | some o =>
    rw [k p o e m] at n
    cases n
theorem keep_put {b p : Addr} {H H1 H2 : Hp} (k : Keep b H H1) (k2 : Keep p H1 H2) (n : H p = none) : Keep b H H2 := fun a o e m => k2 a o (k a o e m) (ne_of_none e n)
/-- a text once or not at all -/
theorem op_mulS1 {X : Cx} : OpR X (binaryOp .Mult) (fun x y H Q => ∃ z n, x = .str z ∧ y = .int n ∧ (n = 0 ∨ n = 1) ∧ ∀ w, (w = Str.empty ∨ w = z) → Q (.str w) H) := by
  intro pins s σ H x y v u Q I rx ry h
  obtain ⟨z, n, rfl, rfl, hn, q⟩ := h
  obtain ⟨m1, m2⟩ := mul_01 (z := z) hn
  exact op_mulS pins s σ H _ _ v u Q I rx ry ⟨z, n, rfl, rfl, m1, q _ m2⟩
/-! ### the law's tables -/
def TupF (f : Fm) (H : Hp) : Str → V → Prop := fun z v => ∃ t, v = .ref t ∧ H t = some (.tup [.int (f z).1, .int (f z).2])
/-- a dict with a pair for each name -/
def TabAt (H : Hp) (d : Addr) (N : List Str) (f : Fm) : Prop := ∃ kvs, H d = some (.dK kvs) ∧ Tab N (TupF f H) (ShZ f) kvs
theorem TupF.same {f : Fm} {H H' : Hp} (s : Same H H') {z : Str} {v : V} (h : TupF f H z v) : TupF f H' z v := let ⟨t, e, q⟩ := h; ⟨t, e, s _ _ q⟩
theorem TupF.keep {f : Fm} {H H' : Hp} {c : Addr} {u : HO} (e : H c = some u) (n : ∀ xs, u ≠ .tup xs) (k : Keep c H H') {z : Str} {v : V} (h : TupF f H z v) : TupF f H' z v := let ⟨t, e1, q⟩ := h; ⟨t, e1, k _ _ q (ne_of q e fun z => n _ z.symm)⟩
theorem TabAt.same {H H' : Hp} {d : Addr} {N : List Str} {f : Fm} (h : TabAt H d N f) (s : Same H H') : TabAt H' d N f := let ⟨kvs, e, t⟩ := h; ⟨kvs, s _ _ e, t.mono (fun _ _ => TupF.same s) fun _ z => z⟩
theorem TabAt.put {H H' : Hp} {d c : Addr} {N : List Str} {f : Fm} {xs : List V} (h : TabAt H d N f) (e : H c = some (.lst xs)) (k : Keep c H H') : TabAt H' d N f :=
  let ⟨kvs, e1, t⟩ := h; ⟨kvs, k _ _ e1 (ne_of e1 e fun z => nomatch z), t.mono (fun _ _ => TupF.keep e (fun _ z => nomatch z) k) fun _ z => z⟩
theorem TabAt.off {H : Hp} {d : Addr} {N : List Str} {f : Fm} (h : TabAt H d N f) {z : Str} (n : z ∉ N) : f z = (0, 1) := let ⟨_, _, t⟩ := h; t.off n
theorem ndt {kvs : List (Key × V)} : ∀ xs, HO.dK kvs ≠ .tup xs := fun _ z => nomatch z
theorem nft {o : Obj} {u : HO} : ∀ xs, HO.frz o u ≠ .tup xs := fun _ z => nomatch z
def setF (f : Fm) (z : Str) (x : Int × Int) : Fm := fun y => if y = z then x else f y
theorem setF_self {f : Fm} {z : Str} {x : Int × Int} : setF f z x z = x := if_pos rfl
theorem setF_ne {f : Fm} {z y : Str} {x : Int × Int} (h : y ≠ z) : setF f z x y = f y := if_neg h
theorem setF_red {f : Fm} {z : Str} {x : Int × Int} (h : RedF f) (k : Red x.1 x.2) : RedF (setF f z x) := fun y => by
  unfold setF
  split
  · exact k
  · exact h y
theorem setF_sz {n : Nat} {f : Fm} {z : Str} {x : Int × Int} (h : SzF n f) (k : Sz n x.1 ∧ Sz n x.2) : SzF n (setF f z x) := fun y => by
  unfold setF
  split
  · exact k
  · exact h y
theorem zeroF_sz {n : Nat} (l : 1 ≤ n := by decide) : SzF n fun _ => (0, 1) := fun _ => ⟨Sz.zero.mono l, Sz.one.mono l⟩
theorem Tab.setT {N : List Str} {f : Fm} {H : Hp} {d p : Addr} {kvs : List (Key × V)} {y : Str} {x : Int × Int} (t : Tab N (TupF f H) (ShZ f) kvs) (hd : H d = some (.dK kvs)) (hy : y ∈ N) (hp : H p = some (.tup [.int x.1, .int x.2])) :
    TabAt (upd H d (.dK (putK kvs (.inr y) (.ref p)))) d N (setF f y x) := by
  refine ⟨_, upd_same, t.set hy ?_ (fun z u c r => ?_) fun z c n => ?_⟩
  · refine ⟨p, rfl, ?_⟩
    rw [setF_self, upd_ne (ne_of hp hd fun z => nomatch z)]
    exact hp
  · obtain ⟨q, e, h⟩ := TupF.keep hd ndt keep_upd r
    exact ⟨q, e, by rw [setF_ne c]; exact h⟩
  · show setF f y x z = (0, 1)
    rw [setF_ne c]
    exact n
theorem Part.again {N : List Str} {R : Str → V → Prop} {Z : Str → Prop} {kvs new : List (Key × V)} {i : Nat} {z : Str} {v : V} (h : Part N R Z kvs i new) (m : (Sum.inr z : Key) ∈ (kvs.take i).map (·.1)) (hz : z ∈ N) (r : R z v) : Part N R Z kvs i (putK new (.inr z) v) := by
  refine ⟨h.k.put hz v, fun y w q => ?_, fun y q m => ?_⟩
  · rw [valV_put] at q
    by_cases c : (Sum.inr y : Key) = Sum.inr z
    · rw [if_pos c] at q
      cases q
      cases c
      exact ⟨r, m⟩
    · rw [if_neg c] at q
      exact h.r y w q
  · rw [valV_put] at q
    by_cases c : (Sum.inr y : Key) = Sum.inr z
    · rw [if_pos c] at q
      cases q
    · rw [if_neg c] at q
      exact h.z y q m
theorem keep_lock {H H2 : Hp} {b d : Addr} {od : Obj} {u : HO} (h : H d = some u) (s : Keep b (upd H d (.frz od u)) H2) : Keep b H (upd H2 d u) := fun a o e n => by
  by_cases c : a = d
  · subst c
    rw [h] at e
    cases e
    exact upd_same
  · rw [upd_ne c]
    exact s a o (by rw [upd_ne c]; exact e) n
theorem same_updL {H H1 : Hp} {d : Addr} {o : HO} (s : Same H H1) : Same (upd H d o) (upd H1 d o) := fun a u e => by
  by_cases c : a = d
  · subst c
    rw [upd_same] at e ⊢
    exact e
  · rw [upd_ne c] at e ⊢
    exact s a u e
theorem Bag.ned {H : Hp} {L b d : Addr} {kvs : List (Key × V)} (h : Bag H L b) (e : H d = Option.some (.dK kvs)) : d ≠ b ∧ d ≠ L := by
  obtain ⟨ns, i, big, mix, cnt, h1, h2, h3⟩ := h
  exact ⟨ne_of e h1 fun z => (nomatch z), ne_of e h2 fun z => nomatch z⟩
/-! ### lists of words compared -/
theorem strs_lay : ∀ {zs : List Str}, (∀ z ∈ zs, Lets z) → PyData.canLayAll0 (zs.map PyData.str) = true ∧ PyData.depthAll (zs.map PyData.str) = 0
  | [], _ => ⟨rfl, rfl⟩
  | z :: zs, h => by
    obtain ⟨a, b⟩ := strs_lay (zs := zs) fun y m => h y (List.mem_cons_of_mem _ m)
    have hz := h z List.mem_cons_self
    constructor
    · show (PyData.strOk z && PyData.canLayAll0 (zs.map PyData.str)) = true
      rw [a, Bool.and_true]
      show z.cps.all (· < 0x110000) = true
      rw [← Array.all_toList, List.all_eq_true]
      intro c m
      have := hz c m
      exact decide_eq_true (by omega)
    · show max 0 (PyData.depthAll (zs.map PyData.str)) = 0
      rw [b]
      rfl
theorem strs_dp {K : PySem.W.Frag} {H : Hp} : ∀ {zs : List Str}, DpAll K H (zs.map V.str) (zs.map PyData.str)
  | [] => .nil
  | z :: zs => .cons (.str z) strs_dp
theorem neS {K : PySem.W.Frag} {H : Hp} {p q : Addr} {zs : List Str} {Q : VK} (hp : H p = some (.lst (zs.map V.str))) (hq : H q = some (.lst (zs.map V.str))) (h : ∀ z ∈ zs, Lets z) (k : Q (.bl false) H) : rNeD K (.ref p) (.ref q) H Q := by
  obtain ⟨a, b⟩ := strs_lay h
  have c : (PyData.list (zs.map .str)).canLay0 = true := a
  have s : SeqAt.shaped (PyData.list (zs.map .str)) = true := by
    unfold SeqAt.shaped
    rw [c, Bool.true_and]
    refine decide_eq_true ?_
    show PyData.depthAll (zs.map .str) + 1 ≤ 64
    rw [b]
    decide
  refine ⟨_, _, .lst (SqL.of hp) strs_dp, .lst (SqL.of hq) strs_dp, s, s, ?_⟩
  rw [SeqAt.eqv_refl _ c]
  exact k
theorem eqS {K : PySem.W.Frag} {H : Hp} {p q : Addr} {zs : List Str} {Q : VK} (hp : H p = some (.lst (zs.map V.str))) (hq : H q = some (.lst (zs.map V.str))) (h : ∀ z ∈ zs, Lets z) (k : Q (.bl true) H) : rEqD K (.ref p) (.ref q) H Q := by
  obtain ⟨a, b⟩ := strs_lay h
  have c : (PyData.list (zs.map .str)).canLay0 = true := a
  have s : SeqAt.shaped (PyData.list (zs.map .str)) = true := by
    unfold SeqAt.shaped
    rw [c, Bool.true_and]
    refine decide_eq_true ?_
    show PyData.depthAll (zs.map .str) + 1 ≤ 64
    rw [b]
    decide
  refine ⟨_, _, .lst (SqL.of hp) strs_dp, .lst (SqL.of hq) strs_dp, s, s, ?_⟩
  rw [SeqAt.eqv_refl _ c]
  exact k
theorem pw_uniq {l m : List Str} (h : l.Pairwise fun a b => ¬ tl b < tl a) (k : m.Pairwise fun a b => ¬ tl b < tl a) (a : l.Nodup) (b : m.Nodup) (s : ∀ z, z ∈ l ↔ z ∈ m) : l = m :=
  List.Perm.eq_of_pairwise (fun a b _ _ h1 h2 => tl_inj (List.le_antisymm (List.not_lt.mp h1) (List.not_lt.mp h2))) h k (nodup_perm a b s)
/-! ### tables added and multiplied -/
def sumF (s : Int) (f g : Fm) : Fm := fun z => nrm ((f z).1 * (g z).2 + s * (g z).1 * (f z).2) ((f z).2 * (g z).2)
def timesF (f : Fm) (c d : Int) : Fm := fun z => mulP (f z) (c, d)
theorem keys_str {kvs : List (Key × V)} {ks : List Str} (e : kvs.map (·.1) = ks.map Sum.inr) : (kvs.map fun kv => kV kv.1) = ks.map V.str := by
  have := congrArg (List.map kV) e
  rw [List.map_map, List.map_map] at this
  exact this
def doneF (L : List Str) (h : Fm) : Fm := fun z => if z ∈ L then h z else (0, 1)
theorem doneF_red {L : List Str} {h : Fm} (r : RedF h) : RedF (doneF L h) := fun z => by
  unfold doneF
  split
  · exact r z
  · exact red01
theorem doneF_snoc {L : List Str} {h : Fm} {y : Str} : doneF (L ++ [y]) h = setF (doneF L h) y (h y) := by
  funext z
  unfold doneF setF
  by_cases c : z = y
  · subst c
    simp
  · simp [c]
theorem sumF_red {s : Int} {f g : Fm} (rf : RedF f) (rg : RedF g) : RedF (sumF s f g) := fun z => nrm_red (Int.mul_ne_zero (by have := (rf z).pos; omega) (by have := (rg z).pos; omega))
theorem sumF_add {f g : Fm} : sumF 1 f g = fun z => addP (f z) (g z) := by
  funext z
  unfold sumF addP
  rw [Int.one_mul]
theorem sumF_sub {f g : Fm} (r : RedF g) : sumF (-1) f g = fun z => addP (f z) (mulP (g z) (-1, 1)) := by
  funext z
  rw [mulP_neg (r z)]
  unfold sumF addP
  show nrm ((f z).1 * (g z).2 + -1 * (g z).1 * (f z).2) _ = nrm ((f z).1 * (g z).2 + -(g z).1 * (f z).2) _
  rw [Int.neg_mul 1, Int.one_mul]
theorem sumF_off {s : Int} {f g : Fm} {z : Str} (a : f z = (0, 1)) (b : g z = (0, 1)) : sumF s f g z = (0, 1) := by
  unfold sumF
  rw [a, b]
  show nrm (0 * 1 + s * 0 * 1) (1 * 1) = (0, 1)
  rw [Int.mul_zero]
  exact nrm_0 (by decide)
theorem rd_lock {H : Hp} {a b : Addr} {u v : HO} {od : Obj} (h1 : H a = some u) (h2 : H b = some v) : Rd (upd H b (.frz od v)) a u := by
  by_cases c : a = b
  · subst c
    rw [h1] at h2
    cases h2
    exact .inr ⟨od, upd_same⟩
  · exact .inl (by rw [upd_ne c]; exact h1)
theorem rd_same {H H' : Hp} {a : Addr} {u : HO} (s : Same H H') (h : Rd H a u) : Rd H' a u := h.imp (fun e => s _ _ e) fun ⟨o, e⟩ => ⟨o, s _ _ e⟩
theorem dget_at {H : Hp} {d : Addr} {kvs : List (Key × V)} {z : Str} (e : Rd H d (.dK kvs)) : DGet H d (.str z) (valV kvs (.inr z)) := .inl ⟨kvs, .inr z, e, rfl, rfl⟩
theorem get_tup {H : Hp} {N : List Str} {f : Fm} {kvs : List (Key × V)} {z : Str} {p : Addr} (t : Tab N (TupF f H) (ShZ f) kvs) (hp : H p = some (.tup [.int 0, .int 1])) : ∃ u, (valV kvs (.inr z)).getD (.ref p) = .ref u ∧ H u = some (.tup [.int (f z).1, .int (f z).2]) := by
  cases q : valV kvs (.inr z) with
  | none => exact ⟨p, rfl, by rw [show f z = (0, 1) from t.z z q]; exact hp⟩
  | some v =>
    obtain ⟨u, rfl, h⟩ := t.r z v q
    exact ⟨u, rfl, h⟩
theorem fsame {ca : Nat → Addr} {H H' : Hp} {p : Addr} {N : List Str} {f : Fm} (s : Same H H') (h : FormAt ca H p N f) : FormAt ca H' p N f := h.same s
theorem tsame {H H' : Hp} {d : Addr} {N : List Str} {f : Fm} (s : Same H H') (h : TabAt H d N f) : TabAt H' d N f := h.same s
theorem addP_sz {n m : Nat} {x y : Int × Int} (hx : Sz n x.1 ∧ Sz n x.2) (hy : Sz m y.1 ∧ Sz m y.2) (nx : x.2 ≠ 0) (ny : y.2 ≠ 0) : Sz (n + m + 1) (addP x y).1 ∧ Sz (n + m + 1) (addP x y).2 := by
  have n0 := Int.mul_ne_zero nx ny
  unfold addP
  exact ⟨((hx.1.mul hy.2).add' ((hy.1.mul hx.2).mono (by omega))).le (nrm_le1 n0), ((hx.2.mul hy.2).mono (by omega)).le (nrm_le2 n0)⟩
theorem mulP_sz {n m : Nat} {x y : Int × Int} (hx : Sz n x.1 ∧ Sz n x.2) (hy : Sz m y.1 ∧ Sz m y.2) (nx : x.2 ≠ 0) (ny : y.2 ≠ 0) : Sz (n + m) (mulP x y).1 ∧ Sz (n + m) (mulP x y).2 := by
  have n0 := Int.mul_ne_zero nx ny
  unfold mulP
  exact ⟨(hx.1.mul hy.1).le (nrm_le1 n0), (hx.2.mul hy.2).le (nrm_le2 n0)⟩
theorem RedF.ne {f : Fm} (h : RedF f) (z : Str) : (f z).2 ≠ 0 := by have := (h z).pos; omega
theorem addF_sz {n m k : Nat} {f g : Fm} (hf : SzF n f) (hg : SzF m g) (rf : RedF f) (rg : RedF g) (l : n + m + 1 ≤ k := by decide) : SzF k fun z => addP (f z) (g z) := fun z =>
  let ⟨a, b⟩ := addP_sz (hf z) (hg z) (rf.ne z) (rg.ne z); ⟨a.mono l, b.mono l⟩
theorem mulF_sz {n m k : Nat} {f : Fm} {c d : Int} (hf : SzF n f) (rf : RedF f) (hc : Sz m c) (hd : Sz m d) (nd : d ≠ 0) (l : n + m ≤ k := by decide) : SzF k fun z => mulP (f z) (c, d) := fun z =>
  let ⟨a, b⟩ := mulP_sz (y := (c, d)) (hf z) ⟨hc, hd⟩ (rf.ne z) nd; ⟨a.mono l, b.mono l⟩
theorem neg_sub {x y : Int × Int} (h : Red x.1 x.2) (k : Red y.1 y.2) : mulP (addP x (mulP y (-1, 1))) (-1, 1) = addP y (mulP x (-1, 1)) := by
  have n1 : x.2 ≠ 0 := by have := h.pos; omega
  have n2 : y.2 ≠ 0 := by have := k.pos; omega
  rw [mulP_neg k, mulP_neg h]
  have r : Red (addP x (-y.1, y.2)).1 (addP x (-y.1, y.2)).2 := nrm_red (Int.mul_ne_zero n1 n2)
  rw [mulP_neg r]
  unfold addP
  show (-(nrm (x.1 * y.2 + -y.1 * x.2) (x.2 * y.2)).1, (nrm (x.1 * y.2 + -y.1 * x.2) (x.2 * y.2)).2) = nrm (y.1 * x.2 + -x.1 * y.2) (y.2 * x.2)
  rw [← nrm_neg (Int.mul_ne_zero n1 n2), Int.mul_comm y.2 x.2]
  congr 1
  rw [Int.neg_mul, Int.neg_mul]
  omega
/-! ### a dict and its copy -/
def Plain1 (v : V) : Prop := flatB v = true ∨ ∃ a, v = .ref a
theorem hits_copy {A : Around} {s : Shared} {all : List (Key × V)} {other : List (Key × Value)} (r : KV all other) : ∀ {part : List (Key × V)} {mine : List (Key × Value)}, KV part mine → (∀ e ∈ part, valV all e.1 = some e.2) → (∀ e ∈ part, Plain1 e.2) → PySem.W.KeqHits A s other mine true
  | _, _, .nil, _, _ => .nil
  | e :: part, (k, v) :: mine, .cons ⟨same, rv⟩ rest, hall, hplain => by
    obtain ⟨y, hy, ry⟩ := RelO.some_of (v := e.2) (o := valueAt other e.1) (by rw [← hall e List.mem_cons_self]; exact r.val e.1)
    have same : e.1 = k := same
    rw [same] at hy
    have tail := hits_copy (A := A) (s := s) r rest (fun x m => hall x (List.mem_cons_of_mem _ m)) fun x m => hplain x (List.mem_cons_of_mem _ m)
    have both : PySem.W.KeqHits A s other ((k, v) :: mine) (true && true) := by
      refine .hit hy ?_ tail
      rcases hplain e List.mem_cons_self with h | ⟨a, h⟩
      · exact eqAt_same rv ry h
      · rw [h] at rv ry
        cases rv
        cases ry
        exact SeqAt.EqAt.same (.ref a)
    exact both
def rNeCopy : R2 := fun x y H Q => ∃ (a b : Addr) (kvs : List (Key × V)), x = .ref a ∧ y = .ref b ∧ H a = some (.dK kvs) ∧ H b = some (.dK kvs) ∧ (kvs.map (·.1)).Nodup ∧ (∀ e ∈ kvs, Plain1 e.2) ∧ Q (.bl false) H
theorem op_ne_copy {X : Cx} (hu : X.A.units < cLine) : OpR X (compareOp .NotEq) rNeCopy := by
  intro pins s σ H x y v u Q I rx ry ⟨a, b, kvs, ex, ey, ea, eb, hnd, hpl, q⟩
  subst ex ey
  cases (show v = Value.ref a from rx)
  cases (show u = Value.ref b from ry)
  obtain ⟨_, la, va, ka, da⟩ := (show ObjOk X.prog X.w H s.heap a (.dK kvs) from I.hok a _ ea)
  obtain ⟨_, lb, vb, kb, db⟩ := (show ObjOk X.prog X.w H s.heap b (.dK kvs) from I.hok b _ eb)
  have len : va.length = vb.length := by rw [← ka.length, ← kb.length]
  refine PySem.W.keq_ne (knd := mixKind X.prog X.w) (r := true) la lb da db hu (fun _ => hits_copy kb ka (fun e m => valV_of hnd m) hpl) (fin_bl I q (by simp [len]))
def nameB (z : Str) : Bool := decide (z.length ≤ 12) && (decide (0 < z.length) && z.cps.toList.all fun c => decide (97 ≤ c) && decide (c ≤ 122))
theorem nameB_ok {z : Str} (h : nameB z = true) : NameOk z := by
  obtain ⟨h1, h⟩ := Bool.and_eq_true_iff.mp h
  obtain ⟨h2, h3⟩ := Bool.and_eq_true_iff.mp h
  refine ⟨of_decide_eq_true h1, of_decide_eq_true h2, fun c m => ?_⟩
  obtain ⟨a, b⟩ := Bool.and_eq_true_iff.mp (List.all_eq_true.mp h3 c m)
  exact ⟨of_decide_eq_true a, of_decide_eq_true b⟩
theorem namesB_ok {ws : List Str} (h : ws.all nameB = true) : ∀ z ∈ ws, NameOk z := fun z m => nameB_ok (List.all_eq_true.mp h z m)
theorem FormSh.putD {ca : Nat → Addr} {H H' : Hp} {d c : Addr} {N : List Str} {f : Fm} {kvs : List (Key × V)} (h : FormSh ca H d N f) (e : H c = some (.dK kvs)) (n : d ≠ c) (k : Keep c H H') : FormSh ca H' d N f :=
  let ⟨ks, e1, t⟩ := h; ⟨ks, k _ _ e1 n, t.mono (fun _ _ => ShR.keep e nd k) fun _ z => z⟩
theorem TabAt.putD {H H' : Hp} {d c : Addr} {N : List Str} {f : Fm} {kvs : List (Key × V)} (h : TabAt H d N f) (e : H c = some (.dK kvs)) (n : d ≠ c) (k : Keep c H H') : TabAt H' d N f :=
  let ⟨ks, e1, t⟩ := h; ⟨ks, k _ _ e1 n, t.mono (fun _ _ => TupF.keep e ndt k) fun _ z => z⟩
theorem TabAt.ne {H : Hp} {d c : Addr} {N : List Str} {f : Fm} (h : TabAt H d N f) (n : H c = none) : d ≠ c := let ⟨_, e, _⟩ := h; ne_of_none e n
theorem numR_plain {ca : Nat → Addr} {H : Hp} {N : List Str} {f : Fm} {kvs : List (Key × V)} (t : Tab N (NumR ca f H) (ShZ f) kvs) : ∀ e ∈ kvs, Plain1 e.2 := fun e m => by
  obtain ⟨k, v⟩ := e
  obtain ⟨z, _, ek⟩ := t.k.mem _ m
  have ek : k = .inr z := ek
  subst ek
  rcases t.r z v (valV_of t.k.nd m) with ⟨h, _⟩ | ⟨p, h, _⟩
  · exact .inl (by show flatB v = true; rw [h]; rfl)
  · exact .inr ⟨p, h⟩
theorem FormSh.putL {ca : Nat → Addr} {H H' : Hp} {d c : Addr} {N : List Str} {f : Fm} {xs : List V} (h : FormSh ca H d N f) (e : H c = some (.lst xs)) (k : Keep c H H') : FormSh ca H' d N f :=
  let ⟨ks, e1, t⟩ := h; ⟨ks, k _ _ e1 (ne_of e1 e fun z => nomatch z), t.mono (fun _ _ => ShR.keep e (fun _ _ _ z => nomatch z) k) fun _ z => z⟩
theorem oneT {H : Hp} {d t : Addr} {N : List Str} {z : Str} (hz : z ∈ N) (ht : H t = some (.tup [.int 1, .int 1])) (n : t ≠ d) : TabAt (upd H d (.dK (mergeK [] [(.inr z, .ref t)]))) d N (oneF z) := by
  refine ⟨_, upd_same, Tab.set (R := fun _ _ => False) (Z := fun _ => True) (.nil fun _ => True.intro) hz ?_ (fun _ _ _ h => h.elim) fun y c _ => oneF_ne c⟩
  refine ⟨t, rfl, ?_⟩
  rw [oneF_self, upd_ne n]
  exact ht
/-! ### values that may be names -/
def nmV (v : V) : Bool := match v with
  | .str z => nmB z
  | _ => false
def shortV (v : V) : Prop := flatV v = true ∧ ∀ z, v = .str z → z.length ≤ 1000
end Lo

set_option Elab.async false
set_option linter.all false
set_option maxRecDepth 100000
set_option maxHeartbeats 4000000
namespace Lo
open PySem PySem.Spec PyProof.Rows L2
/-! ### own errors with fields -/
/-- __init__ of an error stores its parameters under the names fs -/
def spErr (C : Addr) (fs : List Str) : Sp := fun vs H Q _ => ∃ (a : Addr) (us : List V), vs = .ref a :: us ∧ us.length = fs.length ∧ H a = some (exo a C none) ∧
  ∀ (dx : Addr) (H2 : Hp), H dx = none → dx ≠ a → H2 a = some (exo a C (some dx)) → H2 dx = some (exd dx (fs.zip us).reverse) → (∀ b o, H b = some o → b ≠ a → H2 b = some o) → Q .non H2
structure OwnE (P : Program) (w : World) (K : PySem.W.Frag) (mg : Str → Option Value) (base : Heap) (x : Str) (C : Addr) (fs : List Str) : Prop where
  cl : OexC K C
  ex : ∃ f fd ps, FnOk P w K mg base (L2N.CX P w) 1 f fd ps (spErr C fs) ∧ PySem.W.findIn K (.ref C) "__init__" = some (some (.ref f)) ∧ PySem.W.typeIn K (.ref f) = some (.type "function") ∧ mg x = some (.ref C) ∧ Binds K fd ps []
theorem pmk_err {X : Cx} {x : Str} {C : Addr} {fs : List Str} {e : Expr} {es : List Expr} {ta : TA} {p pos : Pos} (O : OwnE X.prog X.w X.K X.mg X.base x C fs) (hr : Room 2 X.A) (hg : Gl X x) (ha : PA X (e :: es) ta)
    (hdb : (x == ("__debug__" : Str)) = false := by decide) (he : starEach (e :: es) X.env = (false, eval e X.env) :: starEach es X.env := by rfl) (hpl : (backTo pos (starEach es X.env)).any (·.1) = false := by rfl) :
    L2N.PMk X (.Call (.Name x p) (e :: es) [] pos) (tMkO C (spErr C fs) [] ta) := by
  obtain ⟨f, fd, ps, G, hi, ht, hm, hb⟩ := O.ex
  obtain ⟨nm, q, N, bs, bm, sn, sub, ab, col, dd, k0, k1, k2, k3, k5, hC, hbm⟩ := O.cl.cls
  intro pins s σ H Q I h
  apply wpAny_Call_Name_kw (ld_glob I hg hm ?_ hdb)
  apply PySem.W.callWith_K (h₀ := X.base) I.ok.mod.kin O.cl.kC ?_ he hpl
  apply thn (ha.run pos pins s σ H _ I h)
  rintro us ⟨hp, g, dr, tk, os⟩ ⟨vs, H1, I1, r1, l1000, q1⟩
  refine ⟨I1.kIn, ?_⟩
  have sz : hp.objs.size ≤ hp.objs.size + 1 := Nat.le_succ _
  have hn : H1 (hp.objs.size + 1) = none := I1.hok.fresh sz
  have old : ∀ b o, hp.get? b = some o → ((hp.push (PySem.W.kdv_tup us)).push (PySem.HandSPX.excO C hp.objs.size)).get? b = some o := fun b o e =>
    Heap.get?_push_of_some _ (Heap.get?_push_of_some _ e)
  have new : ((hp.push (PySem.W.kdv_tup us)).push (PySem.HandSPX.excO C hp.objs.size)).get? (hp.objs.size + 1) =
      some (PySem.HandSPX.excO C hp.objs.size) := by heap_get
  have I2 := I1.laid (t' := tk) old sz (exo_ok (P := X.prog) (w := X.w) (H := upd H1 (hp.objs.size + 1) (exo (hp.objs.size + 1) C none)) new)
  have hsp := q1 _ hn
  have r2 : Vals (V.ref (hp.objs.size + 1) :: (vs ++ [])) (Value.ref (hp.objs.size + 1) :: (us ++ [])) := .cons rfl (r1.append .nil)
  have lps : (Value.ref (hp.objs.size + 1) :: us ++ []).length = ps.length := by
    have e := r2.length
    rw [G.len _ _ _ _ hsp] at e
    exact e.symm
  have lus : us.length ≤ sizeLine := by rw [← Paired.length r1, sizeLine_eq]; omega
  have run := G.run _ X.stack _ _ ⟨Value.ref (hp.objs.size + 1) :: us, []⟩ _ _ _ (fun _ _ _ => False) (hr.make C us []) (I2.env0.make C us []) (hb _ (Value.ref (hp.objs.size + 1) :: us) I2.kIn lps) r2 hsp
  refine wpAny_call (PySem.HandSPX.call_own F.excBase_ValueError (fun Y => PySem.HandSPX.refsVE_contains Y bm hbm) (I1.kIn _ _ hC) (PySem.W.looks_findIn I1.kIn hi) (fun self => PySem.W.bind_fn I1.kIn self ht) lus (codeAny_mono run ?_))
  rintro (er | fl) s' hq'
  · exact pas0 σ pins _ _ er s' I2 hq'
  · cases fl with
    | ret u =>
      obtain ⟨v, G2, hos, ab, un, ok2, rv, ev, d, gs, ga, gd, fresh, q3⟩ := hq'
      subst ev
      obtain ⟨z2, y2, x2, w2, u2⟩ := s'
      obtain ⟨t0, GG, J, kept, gone, at2, na⟩ := mk_end0 (d2 := x2) (t2 := w2) I1 sz old un ok2 hos ab ga gd fresh
      have hz : L2N.Zn (.ref C) (some d) ({ cls := .ref C, dict := some d, data := .fields #[.ref t0, .none, .none, .none, .bool false, .none] } : Obj) := ⟨rfl, rfl, fun vs e => by cases e; rfl⟩
      exact ⟨rv, ⟨_, _, _, ⟨GG, y2, x2, w2, u2⟩, _, _, _, rfl, J, kept, gone, at2, hz, rfl, rfl, na, rfl, ab, raises_own O.cl.exC O.cl.tyC, q3⟩⟩
    | next => exact hq'.elim
    | brk => exact hq'.elim
    | cont => exact hq'.elim
/-- raise X(e, ..) -/
def tRaiseE (C : Addr) (fs : List Str) (W : WX) (ta : TA) : TS := fun _ σ H => tMkO C (spErr C fs) [] ta σ H fun cls d H' => W cls d σ H'
theorem ps_raiseE {X : Cx} {x : Str} {C : Addr} {fs : List Str} {e : Expr} {es : List Expr} {ta : TA} {W : WX} {p pos pos2 : Pos} (hc : X.calm = true) (O : OwnE X.prog X.w X.K X.mg X.base x C fs) (hr : Room 2 X.A) (tk : L2N.Takes X W) (hg : Gl X x) (ha : PA X (e :: es) ta)
    (hdb : (x == ("__debug__" : Str)) = false := by decide) (he : starEach (e :: es) X.env = (false, eval e X.env) :: starEach es X.env := by rfl) (hpl : (backTo pos (starEach es X.env)).any (·.1) = false := by rfl) :
    PS X (.Raise (some (.Call (.Name x p) (e :: es) [] pos)) none pos2) (tRaiseE C fs W ta) := L2N.ps_raise hc tk (pmk_err O hr hg ha hdb he hpl)
/-- behind the arguments' reading -/
theorem err_in {C : Addr} {fs : List Str} {us : List V} {H1 : Hp} {Q : XK} (hl : us.length = fs.length) (h100 : fs.length ≤ 100) (k : ∀ (d : Addr) (H2 : Hp), H1 d = none → Same H1 H2 → H2 d = some (.xd (fs.zip us).reverse) → Q (.ref C) (some d) H2) :
    us.length ≤ 1000 ∧ ∀ a, H1 a = none → spErr C fs (.ref a :: (us ++ [])) (upd H1 a (exo a C none))
      (fun v H2 => v = .non ∧ ∃ (d : Addr) (fs' : List (Str × V)), H2 a = some (exo a C (some d)) ∧ H2 d = some (exd d fs') ∧ H1 d = none ∧ Q (.ref C) (some d) (upd (L2.del H2 a) d (.xd fs'))) (fun _ _ _ => False) := by
  refine ⟨by omega, fun a na => ⟨a, us, by rw [List.append_nil], hl, upd_same, fun dx H2 nd ne ea ed sm => ⟨rfl, dx, _, ea, ed, ?_, ?_⟩⟩⟩
  · rw [upd_ne ne] at nd
    exact nd
  · rw [upd_ne ne] at nd
    refine k dx _ nd (fun b o e => ?_) upd_same
    have hb := ne_of_none e na
    rw [upd_ne (ne_of_none e nd), del_ne hb]
    exact sm b o (by rw [upd_ne hb]; exact e) hb
/-- the stores of __init__ -/
theorem err_1 {K : PySem.W.Frag} {C a : Addr} {f : Str} {y : V} {H : Hp} {R : Hp → Prop} (T : OexC K C) (hno : PySem.W.findIn K (.ref C) f = some none) (h : H a = some (exo a C none)) (k : ∀ dx H2, H dx = none → dx ≠ a → H2 a = some (exo a C (some dx)) → H2 dx = some (exd dx [(f, y)]) → (∀ b o, H b = some o → b ≠ a → H2 b = some o) → R H2) :
    ∃ a' C' : Addr, V.ref a = .ref a' ∧ OexC K C' ∧ PySem.W.findIn K (.ref C') f = some none ∧
      ((H a' = some (exo a' C' none) ∧ ∀ dx, H dx = none → dx ≠ a' → R (upd (upd H dx (exd dx [(f, y)])) a' (exo a' C' (some dx)))) ∨
        ∃ (dx : Addr) (fs : List (Str × V)), H a' = some (exo a' C' (some dx)) ∧ H dx = some (exd dx fs) ∧ fs.length ≤ 900 ∧ R (upd H dx (exd dx ((f, y) :: fs)))) :=
  ⟨a, C, rfl, T, hno, .inl ⟨h, fun dx n ne => k dx _ n ne upd_same (by rw [upd_ne ne]; exact upd_same) fun b o e m => by rw [upd_ne m, upd_ne (ne_of_none e n)]; exact e⟩⟩
theorem err_2 {K : PySem.W.Frag} {C a dx : Addr} {f : Str} {y : V} {H : Hp} {R : Hp → Prop} {fs : List (Str × V)} (T : OexC K C) (hno : PySem.W.findIn K (.ref C) f = some none) (h : H a = some (exo a C (some dx))) (h2 : H dx = some (exd dx fs)) (hl : fs.length ≤ 900) (hne : dx ≠ a)
    (k : ∀ H2, H2 a = some (exo a C (some dx)) → H2 dx = some (exd dx ((f, y) :: fs)) → (∀ b o, H b = some o → b ≠ dx → H2 b = some o) → R H2) :
    ∃ a' C' : Addr, V.ref a = .ref a' ∧ OexC K C' ∧ PySem.W.findIn K (.ref C') f = some none ∧
      ((H a' = some (exo a' C' none) ∧ ∀ dx, H dx = none → dx ≠ a' → R (upd (upd H dx (exd dx [(f, y)])) a' (exo a' C' (some dx)))) ∨
        ∃ (dx : Addr) (fs : List (Str × V)), H a' = some (exo a' C' (some dx)) ∧ H dx = some (exd dx fs) ∧ fs.length ≤ 900 ∧ R (upd H dx (exd dx ((f, y) :: fs)))) :=
  ⟨a, C, rfl, T, hno, .inr ⟨dx, fs, h, h2, hl, k _ (by rw [upd_ne hne.symm]; exact h) upd_same fun b o e m => by rw [upd_ne m]; exact e⟩⟩
end Lo

set_option Elab.async false
set_option linter.all false
set_option maxRecDepth 100000
set_option maxHeartbeats 4000000
namespace Lo
open PySem L2
/-! ### sets of words: set(list), sorted(set) -/
section
variable {P : Program} {w : World} {K : Type} [DecidableEq K]
def SetQ (knd : KeyKind P w K) (h : Heap) (a : Addr) (S : K → Bool) (n : Nat) : Prop :=
  ∃ o es ep t, h.get? a = some o ∧ o.ExactSet ∧ o.data = Data.set es ep t ∧ ElemsOf knd es.toList ∧ (es.toList.Pairwise fun x y => ∀ k, knd.is k x.2 = true → knd.is k y.2 = false) ∧
    (∀ k, S k = true ↔ ∃ e, e ∈ es.toList ∧ knd.is k e.2 = true) ∧ es.size < scanBound ∧ t.fits es.size = true ∧ es.size = n ∧ Ris t.place.toList ∧ (w.params.followText "set-order" = true ∨ t.led = true)
theorem gate {M : Model} {A : Around} {E : Value → Shared → Prop} {s : Shared} {α : Type} {g : Bool → Sem Unit} {b : Bool} {rest : Unit → Sem α} {R : α → Shared → Prop} (hg : ∀ (b : Bool) (s₁ : Shared) (Q' : Unit → Shared → Prop), Q' () s₁ → wpAny M A (g b) Q' E s₁)
    (k : (∀ (b : Bool) (s₁ : Shared) (Q' : Unit → Shared → Prop), Q' () s₁ → wpAny M A (g b) Q' E s₁) → wpAny M A (rest ()) R E s) : wpAny M A (g b >>= rest) R E s := wpAny_bind (hg _ _ _ (k hg))
theorem pw_sym {knd : KeyKind P w K} {es es' : List (Int × Value)} (h : es.Perm es') (k : es'.Pairwise fun x y => ∀ k, knd.is k x.2 = true → knd.is k y.2 = false) : es.Pairwise fun x y => ∀ k, knd.is k x.2 = true → knd.is k y.2 = false :=
  (h.pairwise_iff (fun {x y} hxy k hy => by
    cases e : knd.is k x.2 with
    | false => rfl
    | true => rw [hxy k e] at hy; exact hy.symm)).mpr k
theorem setQ_tail {knd : KeyKind P w K} {A : Around} {E : Value → Shared → Prop} {s : Shared} {a : Addr} {g : Bool → Sem Unit} (hg : ∀ (b : Bool) (s₁ : Shared) (Q' : Unit → Shared → Prop), Q' () s₁ → wpAny (model P w) A (g b) Q' E s₁)
    {o : Obj} {es : Array (Int × Value)} {ep : Nat} {t : SetTable} (ho : s.heap.get? a = some o) (hex : o.ExactSet) (hd : o.data = Data.set es ep t) {es1 : Array (Int × Value)} {t2 : SetTable} {S' : K → Bool}
    (hel : ElemsOf knd es1.toList) (hnd : es1.toList.Pairwise fun x y => ∀ k, knd.is k x.2 = true → knd.is k y.2 = false) (hm : ∀ k, S' k = true ↔ ∃ e, e ∈ es1.toList ∧ knd.is k e.2 = true) (hsb : es1.size < scanBound)
    (hf : t2.fits es1.size = true) (hr : Ris t2.place.toList) (hl : w.params.followText "set-order" = true ∨ t2.led = true) {wasDummy : Bool} {R : Option Bool → Shared → Prop}
    (h : ∀ h', Heap.SameBut a s.heap h' → SetQ knd h' a S' es1.size → R (some true) { s with heap := h' }) :
    wpAny (model P w) A (do
      storeSet a es1 t2
      if (!wasDummy && t2.tooFull) = true then do
        g (relayAll t2 es1 (SetTable.grown es1.size)).snd.snd
        storeSet a (relayAll t2 es1 (SetTable.grown es1.size)).fst (relayAll t2 es1 (SetTable.grown es1.size)).snd.fst
        pure (some true)
      else pure (some true)) R E s := by
  have e1 := store_at (es' := es1) (t' := t2) ho hd
  refine wpAny_bind (wpAny_storeSet_of ho hd ?_ (fits_of_scanBound hsb))
  have sb := Heap.SameBut.update s.heap a (Obj.putSet es1 t2)
  generalize s.heap.update a (Obj.putSet es1 t2) = h1 at *
  by_cases c : (!wasDummy && t2.tooFull) = true
  · rw [if_pos c]
    refine wpAny_bind (hg _ _ _ ?_)
    have hp := relayAll_perm t2 es1 (SetTable.grown es1.size)
    have hz : (relayAll t2 es1 (SetTable.grown es1.size)).fst.size = es1.size := by simpa using hp.length_eq
    refine wpAny_bind (wpAny_storeSet_of e1 rfl ?_ (fits_of_scanBound (by rw [hz]; exact hsb)))
    have e2 := store_at (es' := (relayAll t2 es1 (SetTable.grown es1.size)).fst) (t' := (relayAll t2 es1 (SetTable.grown es1.size)).snd.fst) e1 rfl
    have sb2 := sb.trans (Heap.SameBut.update h1 a (Obj.putSet (relayAll t2 es1 (SetTable.grown es1.size)).fst (relayAll t2 es1 (SetTable.grown es1.size)).snd.fst))
    refine wpAny_pure (h _ sb2 ⟨_, _, _, _, e2, ⟨hex.1, hex.2.1, hex.2.2⟩, rfl, fun e m => hel e (hp.mem_iff.mp m), pw_sym hp hnd, fun k => ?_, by rw [hz]; exact hsb, relayAll_fits _ _ _, hz, relayAll_ris _ _ _, ?_⟩)
    · rw [hm]
      exact ⟨fun ⟨e, m, q⟩ => ⟨e, hp.mem_iff.mpr m, q⟩, fun ⟨e, m, q⟩ => ⟨e, hp.mem_iff.mp m, q⟩⟩
    · rw [relayAll_led]
      exact hl
  · rw [if_neg c]
    exact wpAny_pure (h _ sb ⟨_, _, _, _, e1, ⟨hex.1, hex.2.1, hex.2.2⟩, rfl, hel, hnd, hm, hsb, hf, rfl, hr, hl⟩)
theorem setQ_add {knd : KeyKind P w K} {A : Around} {E : Value → Shared → Prop} {s : Shared} {a : Addr} {S : K → Bool} {n : Nat} {k : K} {x : Value} {Q : Bool → Shared → Prop}
    (hS : SetQ knd s.heap a S n) (hn : n + 1 < scanBound) (hx : knd.is k x = true) (hsc : x.scannable = true)
    (h : ∀ h', Heap.SameBut a s.heap h' → SetQ knd h' a (fun j => S j || decide (j = k)) (if S k = true then n else n + 1) → Q (!S k) { s with heap := h' }) :
    wpAny (model P w) A (setAddHashed a x (knd.hash k)) Q E s := by
  obtain ⟨o, es, ep, t, ho, hex, hd, hel, hnd, hm, hsb, hf, hsz, hr, hl⟩ := hS
  unfold setAddHashed
  refine wpAny_holding ?_
  unfold setAddHashedIn
  refine wpAny_bind (wpAny_setState_of ho hd hf ?_)
  simp only
  rw [byScan_of hsc hsb hel]
  rw [if_pos rfl]
  refine wpAny_bind ?_
  unfold setAddByScan
  refine wpAny_bind (wpAny_rule ?_)
  refine wpAny_bind (wpAny_setScan_of hx ho hd hf hel ?_)
  have hk : S k = true ↔ (es.toList.findIdx? fun e => knd.is k e.2).isSome = true := by
    rw [hm, List.findIdx?_isSome, List.any_eq_true]
  cases q : es.toList.findIdx? fun e => knd.is k e.2 with
  | some j =>
    rw [q] at hk
    have hk : S k = true := hk.mpr rfl
    refine wpAny_pure (wpAny_pure ?_)
    have e : (fun j => S j || decide (j = k)) = S := by
      funext j
      by_cases c : j = k
      · rw [c, hk]; rfl
      · rw [decide_eq_false c, Bool.or_false]
    have := h s.heap ⟨rfl, fun _ _ => rfl⟩ (by rw [e, if_pos hk]; exact ⟨o, es, ep, t, ho, hex, hd, hel, hnd, hm, hsb, hf, hsz, hr, hl⟩)
    rw [hk] at this
    exact this
  | none =>
    rw [q] at hk
    have hk : S k = false := by
      cases e : S k with
      | false => rfl
      | true => exact nomatch hk.mp e
    rw [hk, if_neg (fun z => nomatch z)] at h
    simp only
    have hp := layNew_perm t es (knd.hash k) x
    have hf1 := layNew_fits t es (knd.hash k) x
    have hr1 := layNew_ris t es (knd.hash k) x hr
    have hl1 := layNew_led t es (knd.hash k) x
    have hz : (layNew t es (knd.hash k) x).1.size = n + 1 := by
      have := hp.length_eq
      simp at this
      omega
    have hmem : ∀ e, e ∈ (layNew t es (knd.hash k) x).1.toList ↔ e ∈ es.toList ∨ e = (knd.hash k, x) := fun e => by
      rw [hp.mem_iff, Array.toList_push, List.mem_append, List.mem_singleton]
    have tl : ∀ (g : Bool → Sem Unit) (hg : ∀ (b : Bool) (s₁ : Shared) (Q' : Unit → Shared → Prop), Q' () s₁ → wpAny (model P w) A (g b) Q' E s₁) (t2 : SetTable), t2.fits (layNew t es (knd.hash k) x).1.size = true → Ris t2.place.toList → t2.led = t.led → wpAny (model P w) A (do
        storeSet a (layNew t es (knd.hash k) x).1 t2
        if (!(layNew t es (knd.hash k) x).2.2.1 && t2.tooFull) = true then do
          g (relayAll t2 (layNew t es (knd.hash k) x).1 (SetTable.grown (layNew t es (knd.hash k) x).1.size)).snd.snd
          storeSet a (relayAll t2 (layNew t es (knd.hash k) x).1 (SetTable.grown (layNew t es (knd.hash k) x).1.size)).fst (relayAll t2 (layNew t es (knd.hash k) x).1 (SetTable.grown (layNew t es (knd.hash k) x).1.size)).snd.fst
          pure (some true)
        else pure (some true)) (fun a_1 s' => wpAny (model P w) A (match a_1 with | some added => pure added | none => setAddHashedIn a x (knd.hash k) 99999) Q E s') E s := by
      intro g hg t2 f2 r2 l2
      refine setQ_tail (knd := knd) (S' := fun j => S j || decide (j = k)) hg ho hex hd ?_ ?_ ?_ (by rw [hz]; exact hn) f2 r2 (by rw [l2]; exact hl) fun h' sb hq => wpAny_pure (h h' sb (by rw [← hz]; exact hq))
      · intro e m
        rcases (hmem e).mp m with m | rfl
        · exact hel e m
        · exact ⟨⟨k, hx, rfl⟩, hsc⟩
      · refine pw_sym hp ?_
        rw [Array.toList_push, List.pairwise_append]
        refine ⟨hnd, List.pairwise_singleton _ _, fun e m y my j hj => ?_⟩
        rw [List.mem_singleton] at my
        subst my
        cases ex : knd.is j x with
        | false => rfl
        | true =>
          have ej := knd.inj x j k ex hx
          subst ej
          rw [(hm j).mpr ⟨e, m, hj⟩] at hk
          cases hk
      · intro j
        rw [Bool.or_eq_true, decide_eq_true_iff, hm]
        constructor
        · rintro (⟨e, m, q⟩ | rfl)
          · exact ⟨e, (hmem e).mpr (.inl m), q⟩
          · exact ⟨_, (hmem _).mpr (.inr rfl), hx⟩
        · rintro ⟨e, m, q⟩
          rcases (hmem e).mp m with m | rfl
          · exact .inl ⟨e, m, q⟩
          · exact .inr (knd.inj x j k q hx)
    refine gate (fun b s₁ Q' q => ?_) fun hg => ?_
    · cases b
      · exact wpAny_pure q
      · exact wpAny_rule q
    by_cases c : (layNew t es (knd.hash k) x).2.1.plain = true
    · rw [if_pos c, hashByValue_scannable 8 hsc]
      refine wpAny_bind (wpAny_pure ?_)
      refine tl _ hg _ ?_ ?_ ?_
      · split
        · exact hf1
        · exact hf1
      · split
        · exact hr1
        · exact hr1
      · split
        · exact hl1
        · exact hl1
    · rw [if_neg c]
      refine wpAny_bind (wpAny_pure ?_)
      exact tl _ hg _ hf1 hr1 hl1
theorem SetQ.at {knd : KeyKind P w K} {h h' : Heap} {a : Addr} {S : K → Bool} {n : Nat} (q : SetQ knd h a S n) (k : ∀ o, h.get? a = some o → h'.get? a = some o) : SetQ knd h' a S n :=
  let ⟨o, es, ep, t, ho, r⟩ := q
  ⟨o, es, ep, t, k o ho, r⟩
theorem SetQ.congr {knd : KeyKind P w K} {h : Heap} {a : Addr} {S S' : K → Bool} {n : Nat} (q : SetQ knd h a S n) (k : S' = S) : SetQ knd h a S' n := k ▸ q
theorem setQ_update {knd : KeyKind P w K} {A : Around} {I : Addr} {fp wr : List Addr} {G : Array GenState → Array GenState → Prop} {n : Nat} {Pv : Nat → Value → Prop} {St : Nat → Shared → Prop} {R : Result → Shared → Prop}
    (hW : WalksS P w A.in1 I fp wr G n Pv St) (S : Addr) (hS : ¬ S ∈ fp) (ks : List K) (hn : n = ks.length) (hb : ks.length + 1 < scanBound) (hv : ∀ i v, Pv i v → ∃ k, ks[i]? = some k ∧ knd.is k v = true ∧ v.scannable = true) :
    ∀ (k i : Nat) (s : Shared), n - i = k → i ≤ n → St i s → (∃ c, c ≤ i ∧ SetQ knd s.heap S (fun j => decide (j ∈ ks.take i)) c) →
      (∀ (s' : Shared) (c : Nat), Moved (S :: wr) G s s' → c ≤ n → SetQ knd s'.heap S (fun j => decide (j ∈ ks)) c → R (Except.ok (Flow.ret Value.none)) s') →
      codeAny (model P w) A (Code.builtin "set.update.loop" { pos := [Value.ref S, Value.ref I] }) R s
  | k, i, s, hk, hi, hst, ⟨c, hc, hq⟩, h => by
    refine codeAny_builtin PyProof.Rows.F.entry_set_update_loop ?_
    unfold Builtin.«set.update.loop»
    simp only
    show wpAny _ A.in1 _ _ _ s
    have hSw : ¬ S ∈ wr := fun m => hS (hW.sub _ m)
    by_cases e : i = n
    · subst e
      refine wpAny_bind (hW.done s _ _ hst fun s' m => wpAny_pure (h s' c ⟨fun b o nb => m.heap b o fun z => nb (List.mem_cons_of_mem _ z), m.gens, m.drawn, m.os, m.toks⟩ hc ?_))
      refine (hq.at fun o => m.heap S o hSw).congr ?_
      rw [hn, List.take_length]
    · refine wpAny_bind (hW.item i s _ _ (by omega) hst fun v s' hp hst' m => ?_)
      obtain ⟨z, hz, hzv, hsc⟩ := hv i v hp
      simp only
      refine wpAny_bind (wpAny_holding ?_)
      unfold setAdd
      refine wpAny_holding (wpAny_bind (knd.pyHash hzv ?_))
      have hq1 := hq.at fun o => m.heap S o hSw
      refine setQ_add (s := { s' with toks := s'.toks + 1 }) (n := c) hq1 (by omega) hzv hsc fun h' sb q2 => wpAny_pure ⟨plainId_quiet PyProof.Rows.F.plain_set_update_loop _, ?_⟩
      have hst2 := hW.frame (i + 1) s' h' (s'.toks + 1) hst' (Nat.le_succ _) fun b mb o ho => by rw [sb.2 b (fun z => hS (z ▸ mb))]; exact ho
      refine setQ_update hW S hS ks hn hb hv (n - (i + 1)) (i + 1) _ rfl (by omega) hst2 ⟨_, ?_, q2.congr ?_⟩ fun s3 c3 m3 => h s3 c3 ⟨fun b o nb ho => ?_, ?_, ?_, ?_, ?_⟩
      · split <;> omega
      · funext j
        have e : ks.take (i + 1) = ks.take i ++ [z] := by rw [List.take_add_one, hz]; rfl
        rw [e]
        by_cases c1 : j ∈ ks.take i
        · rw [decide_eq_true c1, decide_eq_true (List.mem_append_left _ c1)]; rfl
        · rw [decide_eq_false c1, Bool.false_or]
          by_cases c2 : j = z
          · rw [decide_eq_true c2, decide_eq_true (List.mem_append_right _ (by rw [c2]; simp))]
          · rw [decide_eq_false c2, decide_eq_false fun q => (List.mem_append.mp q).elim c1 fun q => c2 (by simpa using q)]
      · refine m3.heap b o nb ?_
        show h'.get? b = some o
        rw [sb.2 b (fun z => nb (by rw [z]; exact List.mem_cons_self))]
        exact m.heap b o (fun z => nb (List.mem_cons_of_mem _ z)) ho
      · exact hW.gtrans _ _ _ m.gens m3.gens
      · exact m3.drawn.trans m.drawn
      · exact m3.os.trans m.os
      · exact Nat.le_trans m.toks (Nat.le_trans (Nat.le_succ _) m3.toks)
  termination_by k => k
  decreasing_by omega
theorem tc_quiet (a : Args) : (Code.builtin "type.__call__" a).quiet = true := by
  unfold Code.quiet Thread.loud
  simp [L2.call_set_tups._proof_1, Thread.atCollectorCode, Thread.yieldsInsideHandler, Thread.atExit]
theorem call_setQ {knd : KeyKind P w K} {A : Around} {E : Value → Shared → Prop} {s : Shared} {l : Addr} {items : Array Value} (ks : List K) {Q : Value → Shared → Prop} (hA : A.handled = none) (hl : s.heap.IsList l items)
    (hlen : items.size = ks.length) (hb : ks.length + 1 < scanBound) (hv : ∀ (i : Nat) (v : Value), items[i]? = some v → ∃ k, ks[i]? = some k ∧ knd.is k v = true ∧ v.scannable = true)
    (h : ∀ (h' : Heap) (tk c : Nat), c ≤ ks.length → SetQ knd h' s.heap.objs.size (fun j => decide (j ∈ ks)) c → (∀ (b : Addr) (o : Obj), s.heap.get? b = some o → h'.get? b = some o) → Q (Value.ref s.heap.objs.size) { s with heap := h', toks := tk }) :
    wpAny (model P w) A (call (Value.type "set") [Value.ref l]) Q E s := by
  refine wpAny_call (codeAny_of_tree ?_)
  show wpAny _ (A.under _) (pure (Fin.again (Code.builtin "type.__call__" { pos := [Value.type "set", Value.ref l] }))) _ _ s
  refine wpAny_pure ⟨tc_quiet _, ?_⟩
  refine codeAny_builtin F.entry_type_call ?_
  show wpAny _ A.in1 _ _ _ s
  unfold Builtin.«type.__call__»
  simp only
  refine wpAny_ite_false (by decide) ?_
  refine wpAny_ite_false (by decide +kernel) ?_
  rw [F.typeCall_set_1]
  refine wpAny_bind (wpAny_pure ?_)
  have hs := F.called_set
  obtain ⟨c0, tl, hm⟩ := hs.mro
  rw [hm]
  refine wpAny_bind (wpAny_pure ?_)
  refine wpAny_ite_false rfl ?_
  rw [hs.made]
  refine wpAny_bind (wpAny_pure ?_)
  simp only
  refine wpAny_bind (wpAny_pure ?_)
  refine wpAny_bind (wpAny_holding (wpAny_call ?_))
  refine codeAny_mono (code_set_led1 (E := fun _ _ => False) (Q₁ := fun v s' => v = Value.ref s.heap.objs.size ∧ s' = { s with heap := s.heap.push { cls := Value.type "set", data := Data.set #[] 0 (SetTable.fresh 0 0 !w.params.followText "set-order") } }) _ ⟨rfl, rfl⟩) fun r s1 hr => ?_
  obtain ⟨v, rfl, e1, e2⟩ : ∃ v, r = .ok (.ret v) ∧ v = Value.ref s.heap.objs.size ∧ s1 = { s with heap := s.heap.push { cls := Value.type "set", data := Data.set #[] 0 (SetTable.fresh 0 0 !w.params.followText "set-order") } } := by
    match r with
    | .ok (.ret v) => exact ⟨v, rfl, hr.1, hr.2⟩
    | .error _ => exact hr.elim
    | .ok (.next) => exact hr.elim
    | .ok (.brk) => exact hr.elim
  subst e1
  subst e2
  simp only
  have ho := Heap.get?_push_size (h := s.heap) (o := { cls := Value.type "set", data := Data.set #[] 0 (SetTable.fresh 0 0 !w.params.followText "set-order") }) rfl
  refine wpAny_bind (wpAny_isInstance (T := "set") ⟨_, ho, rfl⟩ hs.sub ?_)
  refine wpAny_ite_false rfl ?_
  refine wpAny_bind (wpAny_holding ?_)
  unfold callSpecial?
  refine wpAny_bind (wpAny_specialOf (T := "set") ⟨_, ho, rfl⟩ hs.init.lookup ?_)
  simp only
  refine wpAny_holding ?_
  rw [hs.init.bind]
  refine wpAny_bind (wpAny_pure ?_)
  simp only
  refine wpAny_bind (wpAny_call ?_)
  refine codeAny_call_builtin hs.init.plain F.entry_set_init (check_set_init_1 ⟨_, ho, rfl⟩ ?_)
  unfold Builtin.«set.__init__»
  simp only [List.cons_append, List.nil_append]
  refine wpAny_bind (wpAny_pure ?_)
  refine wpAny_bind ?_
  unfold typeNameOfCut
  refine wpAny_bind (?_ : wpAny _ _ (shownTypeOf _) _ _ _)
  unfold shownTypeOf
  refine wpAny_bind (wpAny_typeOf (T := "set") ⟨_, ho, rfl⟩ ?_)
  refine wpAny_ite_false (by decide) (wpAny_pure ?_)
  unfold typeNameCut typeName
  refine wpAny_pure ?_
  refine wpAny_bind ?_
  unfold checkCount
  refine wpAny_ite_false rfl ?_
  refine wpAny_ite_false rfl ?_
  refine wpAny_ite_false rfl (wpAny_pure ?_)
  refine wpAny_bind (wpAny_pure ?_)
  unfold setUsed
  refine wpAny_bind (wpAny_bind (wpAny_setState_of ho rfl rfl (wpAny_pure ?_)))
  refine wpAny_ite_false rfl ?_
  unfold Builtin.Frozenset.updateFrom
  refine wpAny_bind (wpAny_bind ?_)
  unfold Builtin.Frozenset.isAnySet
  obtain ⟨ol, hol, hcls, cap, hdat⟩ := hl
  have hol1 := Heap.get?_push_of_some (o := { cls := Value.type "set", data := Data.set #[] 0 (SetTable.fresh 0 0 !w.params.followText "set-order") }) hol
  refine wpAny_bind (wpAny_isInstance (T := "list") ⟨_, hol1, hcls⟩ F.sub_list_set ?_)
  refine wpAny_isInstance (T := "list") ⟨_, hol1, hcls⟩ F.sub_list_frozenset ?_
  refine wpAny_ite_false rfl ?_
  refine wpAny_bind (wpAny_typeOf (T := "list") ⟨_, hol1, hcls⟩ ?_)
  refine wpAny_ite_false (by decide) ?_
  refine wpAny_bind (wpAny_pyIter_list ⟨_, hol1, hcls, cap, hdat⟩ ?_)
  refine wpAny_bind (wpAny_runValue ?_)
  have hlt : l ≠ s.heap.objs.size + 1 := Nat.ne_of_lt (Nat.lt_succ_of_lt (Heap.lt_size hol))
  have hlt2 : l ≠ s.heap.objs.size := Nat.ne_of_lt (Heap.lt_size hol)
  have hI := Heap.get?_push_size (s.heap.push { cls := Value.type "set", data := Data.set #[] 0 (SetTable.fresh 0 0 !w.params.followText "set-order") }) (o := { cls := Value.type "list_iterator", data := Data.fields #[Value.ref l, Value.int 0 0] }) rfl
  have hol2 := Heap.get?_push_of_some { cls := Value.type "list_iterator", data := Data.fields #[Value.ref l, Value.int 0 0] } hol1
  have ho2 := Heap.get?_push_of_some { cls := Value.type "list_iterator", data := Data.fields #[Value.ref l, Value.int 0 0] } ho
  have hsz : (s.heap.push { cls := Value.type "set", data := Data.set #[] 0 (SetTable.fresh 0 0 !w.params.followText "set-order") }).objs.size = s.heap.objs.size + 1 := Heap.size_push _ _
  rw [hsz] at hI ⊢
  refine setQ_update (knd := knd) (Walks.toS (Walks.list (A := A.in1.in1.in1) hA (s.heap.objs.size + 1) l hlt items)) s.heap.objs.size ?_ ks hlen hb hv items.size 0 _ rfl (Nat.zero_le _) ⟨?_, ?_⟩ ⟨0, Nat.le_refl _, ?_⟩ fun s3 c3 m3 hc3 q3 => ?_
  · intro m
    simp only [List.mem_cons, List.not_mem_nil, or_false] at m
    rcases m with m | m
    · exact absurd m (Nat.ne_of_lt (Nat.lt_succ_self _))
    · exact hlt2 m.symm
  · exact ⟨_, hI, rfl, rfl⟩
  · exact ⟨_, hol2, hcls, cap, hdat⟩
  · refine ⟨_, _, _, _, ho2, ⟨rfl, rfl, rfl⟩, rfl, fun e m => ?_, ?_, fun j => ?_, ?_, rfl, rfl, ?_, ?_⟩
    · exact absurd m (by simp)
    · exact List.Pairwise.nil
    · simp
    · show 0 < scanBound
      omega
    · exact List.Pairwise.nil
    · show w.params.followText "set-order" = true ∨ (!w.params.followText "set-order") = true
      cases w.params.followText "set-order"
      · exact .inr rfl
      · exact .inl rfl
  · refine wpAny_pure (wpAny_pure (wpAny_pure ?_))
    refine wpAny_ite_false (by decide) (wpAny_pure ?_)
    have eg : s3.gens = s.gens := m3.gens
    have ed : s3.drawn = s.drawn := m3.drawn
    have eo : s3.os = s.os := m3.os
    have := h s3.heap s3.toks c3 (by omega) q3 fun b o hb => m3.heap b o (fun m => ?_) (Heap.get?_push_of_some _ (Heap.get?_push_of_some _ hb))
    · rw [← eg, ← ed, ← eo] at this
      exact this
    · have hb1 := Heap.lt_size hb
      rcases List.mem_cons.mp m with m | m
      · exact absurd m (Nat.ne_of_lt hb1)
      · exact absurd (List.mem_singleton.mp m) (Nat.ne_of_lt (Nat.lt_succ_of_lt hb1))
/-! ### sorted of a set of texts -/
def toS : Value → Str
  | .str z _ => z
  | _ => Str.empty
theorem strs_are : ∀ {vs : List Value}, (∀ v ∈ vs, ∃ z t, v = Value.str z t) → PyProof.Rows.StrsAre vs (vs.map toS)
  | [], _ => .nil
  | v :: vs, h => by
    obtain ⟨z, t, rfl⟩ := h v List.mem_cons_self
    exact .cons z t (strs_are fun u m => h u (List.mem_cons_of_mem _ m))
theorem isStrOf_of {z : Str} {v : Value} (h : Value.isStrOf z v = true) : ∃ t, v = Value.str z t := by
  cases v <;> simp [Value.isStrOf, Value.isStr] at h
  subst h
  exact ⟨_, rfl⟩
theorem sorted_setQ {A : Around} {E : Value → Shared → Prop} {s : Shared} {a : Addr} {S : Str → Bool} {n : Nat} {Q : Value → Shared → Prop} (hq : SetQ (strKind P w) s.heap a S n) (hA : A.handled = none) (hn : n < 64)
    (h : ∀ (s' : Shared) (p : Nat) (out : Array Value) (c : Nat) (ys : List Str), (∀ (b : Addr) (o : Obj), s.heap.get? b = some o → s'.heap.get? b = some o) → s'.gens = s.gens → s'.os = s.os → s.heap.objs.size ≤ p →
      s'.heap.get? p = some (PyProof.Rows.seqObj "list" out c) → PyProof.Rows.StrsAre out.toList ys → PyProof.Rows.sortedS ys = true → ys.Nodup → (∀ z, z ∈ ys ↔ S z = true) → ys.length = n → Q (Value.ref p) s') :
    wpAny (model P w) A (call (Value.builtin "sorted") [Value.ref a]) Q E s := by
  obtain ⟨o, es, ep, t, ho, hex, hd, hel, hnd, hm, hsb, hf, hsz, hr, hl⟩ := hq
  refine Calls.call_function_entry PyProof.Rows.kind_sorted PyProof.Rows.plain_sorted PyProof.Rows.entry_sorted (PyProof.Rows.args_sorted1 _) ?_
  unfold Builtin.sorted
  refine wpAny_bind ?_
  unfold checkCount
  refine wpAny_ite_false rfl ?_
  refine wpAny_ite_false rfl ?_
  refine wpAny_ite_false rfl (wpAny_pure ?_)
  refine wpAny_bind (collect_set (A := A.in1) hA ⟨o, ho, hex.1, hd⟩ hf hsb hr hl fun s1 out k1 z1 g1 o1 pm => ?_)
  have hlen : out.length = n := by
    have e := pm.length_eq
    rw [List.length_map] at e
    rw [e, ← hsz]
    exact Array.length_toList
  have ha : ∀ e ∈ es.toList, ∃ t, e.2 = Value.str (toS e.2) t := fun e m => by
    obtain ⟨⟨k, hk, _⟩, _⟩ := hel e m
    obtain ⟨t, ht⟩ := isStrOf_of hk
    rw [ht]
    exact ⟨t, rfl⟩
  have hs := strs_are (vs := out) fun v m => by
    obtain ⟨e, me, rfl⟩ := List.mem_map.mp (pm.mem_iff.mp m)
    obtain ⟨t, ht⟩ := ha e me
    exact ⟨_, t, ht⟩
  have nd : (out.map toS).Nodup := by
    have n1 : ((es.toList.map (·.2)).map toS).Nodup := by
      rw [List.map_map, List.Nodup, List.pairwise_map]
      refine (List.Pairwise.and_mem.mp hnd).imp fun {x y} ⟨mx, my, hxy⟩ e => ?_
      obtain ⟨t1, h1⟩ := ha x mx
      obtain ⟨t2, h2⟩ := ha y my
      have i1 : (strKind P w).is (toS x.2) x.2 = true := by rw [h1]; exact beq_self_eq_true _
      have i2 : (strKind P w).is (toS x.2) y.2 = true := by
        have e : toS x.2 = toS y.2 := e
        rw [e, h2]
        exact beq_self_eq_true _
      rw [hxy _ i1] at i2
      cases i2
    exact (pm.map toS).nodup_iff.mpr n1
  have mem : ∀ z, z ∈ out.map toS ↔ S z = true := fun z => by
    rw [hm]
    constructor
    · intro m
      obtain ⟨v, mv, rfl⟩ := List.mem_map.mp m
      obtain ⟨e, me, rfl⟩ := List.mem_map.mp (pm.mem_iff.mp mv)
      obtain ⟨t, ht⟩ := ha e me
      exact ⟨e, me, by rw [ht]; exact beq_self_eq_true _⟩
    · rintro ⟨e, me, hz⟩
      obtain ⟨t, ht⟩ := isStrOf_of hz
      exact List.mem_map.mpr ⟨e.2, pm.mem_iff.mpr (List.mem_map.mpr ⟨e, me, rfl⟩), by rw [ht]; rfl⟩
  refine wpAny_bind (wpAny_newList ?_ (by rw [hlen]; exact small64 hn))
  have hp := Heap.get?_push_size s1.heap (o := { cls := Value.type "list", data := Data.seq out.toArray }) rfl
  have old : ∀ (b : Addr) (o : Obj), s.heap.get? b = some o → (s1.heap.push { cls := Value.type "list", data := Data.seq out.toArray }).get? b = some o ∧ b < s1.heap.objs.size := fun b o hb => ⟨Heap.get?_push_of_some _ (k1 b o hb), Heap.lt_size (k1 b o hb)⟩
  refine wpAny_bind (wpAny_holding (wpAny_call_entry PyProof.Rows.slot_list_sort ⟨_, hp, rfl⟩ PyProof.Rows.entry_list_sort ?_ (PyProof.Rows.args_list_sort _)))
  refine PyProof.Rows.list_sort_treeK PyProof.Rows.strKind_oneLt hp (PyProof.Rows.StrsAre.keysOf hs) (fun v1 v2 rest e => ?_) (by rw [hlen]; exact hn) fun st' pm2 so => ?_
  · exact PyProof.Rows.keyKind_strs (e ▸ hs)
  · obtain ⟨ss, h1, h2, h3⟩ := PyProof.Rows.sorted_out_str hs pm2 so
    obtain ⟨c, hc⟩ := PyProof.Rows.sortedHeap_at (out := Array.map (fun x => x.2) (PyProof.Rows.arrOf st')) hp
    generalize hO : Array.map (fun x => x.2) (PyProof.Rows.arrOf st') = O at *
    have old2 : ∀ (b : Addr) (o : Obj), s.heap.get? b = some o → (PyProof.Rows.sortedHeap (s1.heap.push { cls := Value.type "list", data := Data.seq out.toArray }) s1.heap.objs.size out O).get? b = some o := fun b o hb => by
      obtain ⟨e1, e2⟩ := old b o hb
      have e3 : b < (s1.heap.push { cls := Value.type "list", data := Data.seq out.toArray }).objs.size := by
        rw [Heap.size_push]
        exact Nat.lt_succ_of_lt e2
      rw [PyProof.Rows.sortedHeap_old (Nat.ne_of_lt e2) e3]
      exact e1
    generalize PyProof.Rows.sortedHeap (s1.heap.push { cls := Value.type "list", data := Data.seq out.toArray }) s1.heap.objs.size out O = HF at *
    have key := h { heap := HF, gens := s1.gens, drawn := s1.drawn, toks := s1.toks, os := s1.os } s1.heap.objs.size _ c ss old2 g1 o1 z1 hc h1 h3 (h2.nodup_iff.mpr nd) (fun z => by rw [h2.mem_iff, mem]) (by rw [h2.length_eq, List.length_map, hlen])
    refine ⟨Value.none, rfl, ?_⟩
    exact wpAny_pure ⟨_, rfl, key⟩
theorem strs_at : ∀ {vs : List Value} {zs : List Str} {i : Nat} {v : Value}, PyProof.Rows.StrsAre vs zs → vs[i]? = some v → ∃ z t, zs[i]? = some z ∧ v = Value.str z t
  | _, _, 0, _, .cons y t _, e => by
    have e : some (Value.str y t) = some _ := e
    cases e
    exact ⟨y, t, rfl, rfl⟩
  | _, _, i + 1, _, .cons y t h, e => strs_at (i := i) h e
/-- the set that set(words) makes -/
def SetQO (P : Program) (w : World) (a : Addr) (zs : List Str) : HO := .ext fun h => ∃ c, c ≤ zs.length ∧ SetQ (strKind P w) h a (fun j => decide (j ∈ zs)) c
theorem setQO_ok {H : Hp} {h : Heap} {a : Addr} {zs : List Str} {c : Nat} (hc : c ≤ zs.length) (q : SetQ (strKind P w) h a (fun j => decide (j ∈ zs)) c) : ObjOk P w H h a (SetQO P w a zs) := by
  unfold SetQO
  rw [ObjOk.eq_13]
  exact ⟨⟨c, hc, q⟩, ⟨q.choose, q.choose_spec.choose_spec.choose_spec.choose_spec.1⟩, fun h1 h2 ⟨c, hc, q⟩ k => ⟨c, hc, q.at k⟩⟩
def rSetOfS (K : W.Frag) (P : Program) (w : World) : List V → Hp → VK → Prop := fun xs H Q => ∃ (l : Addr) (zs : List Str), xs = [V.ref l] ∧ SqL K H l (zs.map V.str) ∧ zs.length < 1000 ∧ ∀ a, H a = none → Q (.ref a) (upd H a (SetQO P w a zs))
theorem cr_setOfS {X : Cx} (hc : X.calm = true) : CallR X (Value.type "set") (rSetOfS X.K X.prog X.w) := by
  intro pins s σ H xs us Q I rx hr
  obtain ⟨l, zs, rfl, hl, hlen, k⟩ := hr
  cases Vals.ref1 rx
  obtain ⟨its, hv, ⟨o, n, ho, hcl, hdi, hda⟩, _⟩ := I.list hl
  have hs := Vals.strs hv
  have e : its.length = zs.length := by
    have := Vals.length hv
    rw [List.length_map] at this
    exact this.symm
  refine call_setQ (knd := strKind X.prog X.w) (items := its.toArray) zs (I.ok.hd hc) ⟨o, ho, hcl, n, hda⟩ (by rw [List.size_toArray]; exact e) ?_ (fun i v hi => ?_) fun h' tk c hc' q old => ?_
  · have : (1000 : Nat) < scanBound := by decide
    omega
  · rw [List.getElem?_toArray] at hi
    obtain ⟨z, t, hz, rfl⟩ := strs_at hs hi
    exact ⟨z, hz, beq_self_eq_true _, rfl⟩
  · exact ⟨.ref s.heap.objs.size, _, I.laid old (Nat.le_refl _) (setQO_ok hc' q), rfl, k _ (HOk.fresh I.hok (Nat.le_refl _))⟩
def rSortedQ (P : Program) (w : World) : List V → Hp → VK → Prop := fun vs H Q => ∃ (a : Addr) (zs : List Str), vs = [V.ref a] ∧ H a = some (SetQO P w a zs) ∧ zs.length < 64 ∧
  ∀ (ys : List Str) (p : Addr), PyProof.Rows.sortedS ys = true → ys.Nodup → (∀ z, z ∈ ys ↔ z ∈ zs) → H p = none → Q (.ref p) (upd H p (.lst (ys.map V.str)))
theorem cr_sortedQ {X : Cx} (hc : X.calm = true) : CallR X (Value.builtin "sorted") (rSortedQ X.prog X.w) := by
  intro pins s σ H xs us Q I rx hr
  obtain ⟨a, zs, rfl, ha, hlen, k⟩ := hr
  cases Vals.ref1 rx
  have q := I.hok a _ ha
  unfold SetQO at q
  rw [ObjOk.eq_13] at q
  obtain ⟨c, hc', q⟩ := q.1
  refine sorted_setQ q (I.ok.hd hc) (by omega) fun s' p out e ys old hg hos hle hp hs so nd mem len => ?_
  have hn := HOk.fresh I.hok hle
  refine ⟨.ref p, _, ?_, rfl, k ys p so nd (fun z => by rw [mem, decide_eq_true_iff]) hn⟩
  obtain ⟨h', g', d', t', o'⟩ := s'
  cases hos
  have hg : g' = s.gens := hg
  refine I.call (ch := []) (Un.laid old hle hn) (HOk.laid I.hok old hle ?_) (hg ▸ I.bare) (fun b m => nomatch m)
  rw [ObjOk.eq_1]
  refine ⟨?_, out.toList, e, vals_of_strs hs, by rw [Array.toArray_toList]; exact hp⟩
  rw [List.length_map, len]
  exact small64 (by omega)
end
end Lo

set_option Elab.async false
set_option linter.all false
set_option maxRecDepth 100000
set_option maxHeartbeats 4000000
namespace Lo
open PySem PySem.Spec PyProof.Rows L2
/-! ### errors with fields, caught -/
/-- isinstance(e, c), e the error that the suite holds, of the class at D, with a dict or without -/
def rIsD (K : PySem.W.Frag) (D a : Addr) (cls : Value) (d : Option Addr) : List V → Hp → VK → Prop := fun xs H Q => ∃ (c : V) (cv : Value) (b : Bool), xs = [.ref a, c] ∧ cls = .ref D ∧ (∀ x, d = some x → ∃ fs, H x = some (.xd fs)) ∧ (∀ u, RelV c u → u = cv) ∧ PySem.W.kitOne K (.ref D) cv = some b ∧ Q (.bl b) H
theorem call_isD {X : Cx} {a D : Addr} {oe : Obj} {cls : Value} {d : Option Addr} {pn : List (Addr × Obj)} (C : ExcC X.K D) (hz : Zc cls d oe) (hf : ∃ vs, oe.data = .fields vs) : CallR (X.suite a ((a, oe) :: pn)) (.builtin "isinstance") (rIsD X.K D a cls d) := by
  intro pins s σ H xs us Q I r h
  obtain ⟨c, cv, b, rfl, hcl, hd, hcv, e, q⟩ := h
  subst hcl
  match us, r with
  | _, .cons rx (.cons rt .nil) =>
    obtain rfl := hcv _ rt
    cases rx
    have hp := (I.pin (a, oe) (List.mem_append.mpr (.inl List.mem_cons_self))).1
    obtain ⟨vs, hv⟩ := hf
    obtain ⟨od, J⟩ : ∃ od, PySem.W.InstAt s.heap a oe D od := by
      cases d with
      | none => exact ⟨none, hp, hz.1, by unfold PySem.W.notCls; rw [hv] <;> rfl, by rw [hz.2]; exact True.intro⟩
      | some x =>
        obtain ⟨fs, ex⟩ := hd x rfl
        obtain ⟨mA, hns, _⟩ := (show ObjOk X.prog X.w H s.heap x (.xd fs) from I.hok x _ ex)
        obtain ⟨o, ho, _⟩ := lookIn_ns hns
        exact ⟨some o, hp, hz.1, by unfold PySem.W.notCls; rw [hv] <;> rfl, by rw [hz.2]; exact ho⟩
    obtain ⟨cd, hcd, _⟩ := PySem.W.any_some C.hd
    exact PySem.W.kia_one (PySem.W.kitx_exc (by rw [hcd]; rfl) C.hg C.hk C.hs C.ha C.hn C.ht C.hm) I.kIn J e (fun z => nomatch z) fun tk => ⟨.bl b, H, I.kept (t' := tk) fun _ _ z => z, rfl, q⟩
theorem list_1 {α : Type} {us : List α} {a : Str} (h : us.length = [a].length) : ∃ x, us = [x] := match us, h with | [x], _ => ⟨x, rfl⟩
theorem list_2 {α : Type} {us : List α} {a b : Str} (h : us.length = [a, b].length) : ∃ x y, us = [x, y] := match us, h with | [x, y], _ => ⟨x, y, rfl⟩
theorem list_3 {α : Type} {us : List α} {a b c : Str} (h : us.length = [a, b, c].length) : ∃ x y z, us = [x, y, z] := match us, h with | [x, y, z], _ => ⟨x, y, z, rfl⟩
/-! ### C(e, .., k = v, ..) -/
structure OwnK (P : Program) (w : World) (K : PySem.W.Frag) (mg : Str → Option Value) (base : Heap) (k : Nat) (x : Str) (C : Addr) (ps : List Str) (n : Nat) (ks : List Str) (gV : List V → List V → List V) (sp : Sp) : Prop where
  ex : ∃ f fd g, FnOk P w K mg base (L2N.CX P w) k f fd ps sp ∧ Mk K C f ∧ mg x = some (.ref C) ∧ KBn K fd ps (n + 1) ks g gV
def tOwnK (C : Addr) (n m : Nat) (sp : Sp) (gV : List V → List V → List V) (E : L2.St → XK) (t tk : TA) : TE := fun σ H Q => t σ H fun vs H1 => tk σ H1 fun zs H2 => vs.length = n ∧ zs.length = m ∧ ∀ x dx, H2 x = none → H2 dx = none → dx ≠ x →
  sp (gV (.ref x :: vs) zs) (upd (upd H2 dx (.own x)) x (.ins C dx [])) (fun v H3 => v = .non ∧ Q (.ref x) H3) (E σ)
theorem pe_ownk {X : Cx} {k n : Nat} {C : Addr} {ps ks : List Str} {sp : Sp} {E : L2.St → XK} {x : Str} {p pos : Pos} {e : Expr} {es : List Expr} {kws : List Keyword} {t tk : TA} {gV : List V → List V → List V} (O : OwnK X.prog X.w X.K X.mg X.base k x C ps n ks gV sp) (hr : Room (k + 1) X.A) (hg : Gl X x)
    (hx : ∀ σ, PassesAt (L2N.CX X.prog X.w) X σ (E σ)) (ha : PA X (e :: es) t) (hkw : PK X kws tk)
    (hall : (backToKw pos (keywordEach kws X.env)).all (·.1.isSome) = true := by rfl) (hks : (backToKw pos (keywordEach kws X.env)).filterMap (·.1) = ks := by rfl) (hdb : (x == ("__debug__" : Str)) = false := by decide)
    (he : starEach (e :: es) X.env = (false, eval e X.env) :: starEach es X.env := by rfl) (hpl : ((backTo pos (starEach (e :: es) X.env)).any (·.1) || (backToKw pos (keywordEach kws X.env)).any (·.1.isNone)) = false := by rfl) :
    PE X (.Call (.Name x p) (e :: es) kws pos) (tOwnK C n ks.length sp gV E t tk) := by
  obtain ⟨f, fd, g, F, M, hm, hb⟩ := O.ex
  constructor
  intro pins s σ H Q I h
  apply wpAny_Call_Name_kw (ld_glob I hg hm ?_ hdb)
  apply PySem.W.callWith_KW (h₀ := X.base) I.ok.mod.kin M.kp hall ?_ hpl he
  apply thn (ha.run pos pins s σ H _ I h)
  rintro us s1 ⟨vs, H1, I1, r, q⟩
  apply thn (hkw.run pos pins s1 σ H1 _ I1 q)
  rintro ws s2 ⟨zs, H2, I2, rz, l1, l2, q2⟩
  refine ⟨I2.kIn, ?_⟩
  rw [hks]
  have hq := q2 (s2.heap.objs.size + 1) s2.heap.objs.size (I2.hok.fresh (Nat.le_succ _)) (I2.hok.fresh (Nat.le_refl _)) (Nat.ne_of_lt (Nat.lt_succ_self _))
  have I3 := Inv.made (C := C) I2
  have r1 : Vals (V.ref (s2.heap.objs.size + 1) :: vs) (Value.ref (s2.heap.objs.size + 1) :: us) := .cons rfl r
  have n1 : (Value.ref (s2.heap.objs.size + 1) :: us).length = n + 1 := by rw [List.length_cons, ← r.length, l1]
  have run := F.run _ X.stack _ _ ⟨Value.ref (s2.heap.objs.size + 1) :: us, ks.zip ws⟩ _ _ _ (E σ) (hr.make C us (ks.zip ws)) (I3.env0.make C us (ks.zip ws)) (hb.to _ (Value.ref (s2.heap.objs.size + 1) :: us) ws I3.kIn n1 (rz.length.symm.trans l2)) (hb.rel r1 rz) hq
  refine wpAny_call (make_map (f := f) I2.kIn M.makes M.init (beq_iff_eq.mp M.fn) (codeAny_mono run ?_))
  rintro (e | fl) s' hq'
  · exact hx σ pins _ _ e s' I3 hq'
  · cases fl with
    | ret u =>
      obtain ⟨v, H', I4, rv, ev, q3⟩ := I3.after hq'
      subst ev
      exact ⟨rv, ⟨V.ref (s2.heap.objs.size + 1), H', I4, rfl, q3⟩⟩
    | next => exact hq'.elim
    | brk => exact hq'.elim
    | cont => exact hq'.elim
theorem vals_rev {vs : List V} {us : List Value} (h : Vals vs us) : Vals vs.reverse us.reverse := by
  induction h with
  | nil => exact .nil
  | cons r _ ih =>
    rw [List.reverse_cons, List.reverse_cons]
    exact ih.append (.cons r .nil)
theorem hq_nil {F : Str × V → Prop} : ∀ q ∈ ([] : List (Str × V)), F q := fun _ h => by cases h
theorem hq_cons {F : Str × V → Prop} {p : Str × V} {l : List (Str × V)} (h : F p) (k : ∀ q ∈ l, F q) : ∀ q ∈ p :: l, F q := fun q m => by
  rcases List.mem_cons.mp m with rfl | m
  · exact h
  · exact k q m
end Lo
namespace Lo
open PySem PySem.Spec PyProof.Rows L2
theorem iteBT {b : Bool} {A B : Prop} (h : b = true) (k : A) : if b = true then A else B := by rw [if_pos h]; exact k
theorem iteBF {b : Bool} {A B : Prop} (h : b = false) (k : B) : if b = true then A else B := by rw [if_neg (by rw [h]; decide)]; exact k
/-- a whole number from l to 1000000 -/
def wholeB (v : V) (l : Int) : Bool := match v with
  | .int i => decide (l ≤ i) && decide (i ≤ 1000000)
  | _ => false
/-! ### flat values compared -/
def dat : V → PyData
  | .non => .none | .bl b => .bool b | .int i => .int i | .str z => .str z
  | _ => .none
/-- None, a bool, an int, a text of sound signs -/
def fdB : V → Bool
  | .non => true | .bl _ => true | .int _ => true | .str z => PyData.strOk z
  | _ => false
theorem fd_flat {v : V} (h : fdB v = true) : flatV v = true := by
  cases v <;> first | rfl | cases h
theorem fd_all {K : PySem.W.Frag} {H : Hp} : ∀ {vs : List V}, vs.all fdB = true → DpAll K H vs (vs.map dat) ∧ PyData.canLayAll0 (vs.map dat) = true ∧ PyData.depthAll (vs.map dat) = 0
  | [], _ => ⟨.nil, rfl, rfl⟩
  | v :: vs, h => by
    obtain ⟨h1, h2⟩ := Bool.and_eq_true_iff.mp (show (fdB v && vs.all fdB) = true from h)
    obtain ⟨a, b, c⟩ := fd_all (K := K) (H := H) h2
    have one : Dp K H v (dat v) ∧ (dat v).canLay0 = true ∧ (dat v).depth = 0 := by
      cases v with
      | non => exact ⟨.non, rfl, rfl⟩
      | bl b => exact ⟨.bl b, rfl, rfl⟩
      | int i => exact ⟨.int i, rfl, rfl⟩
      | str z => exact ⟨.str z, h1, rfl⟩
      | _ => cases h1
    refine ⟨.cons one.1 a, ?_, ?_⟩
    · show ((dat v).canLay0 && PyData.canLayAll0 (vs.map dat)) = true
      rw [one.2.1, b]
      rfl
    · show max (dat v).depth (PyData.depthAll (vs.map dat)) = 0
      rw [one.2.2, c]
      rfl
theorem fd_tup {vs : List V} {K : PySem.W.Frag} {H : Hp} (h : vs.all fdB = true) : (PyData.tuple (vs.map dat)).canLay0 = true ∧ SeqAt.shaped (PyData.tuple (vs.map dat)) = true := by
  obtain ⟨_, b, c⟩ := fd_all (K := K) (H := H) h
  refine ⟨b, ?_⟩
  unfold SeqAt.shaped
  rw [show (PyData.tuple (vs.map dat)).canLay0 = true from b, Bool.true_and]
  refine decide_eq_true ?_
  show PyData.depthAll (vs.map dat) + 1 ≤ 64
  rw [c]
  decide
/-- t != u, tuples of the same flat values -/
theorem neTF {K : PySem.W.Frag} {H : Hp} {p q : Addr} {vs : List V} {Q : VK} (hp : H p = some (.tup vs)) (hq : H q = some (.tup vs)) (h : vs.all fdB = true) (k : Q (.bl false) H) : rNeD K (.ref p) (.ref q) H Q := by
  obtain ⟨c, s⟩ := fd_tup (K := K) (H := H) h
  have d := (fd_all (K := K) (H := H) h).1
  refine ⟨_, _, .tup (SqT.of hp) d, .tup (SqT.of hq) d, s, s, ?_⟩
  rw [SeqAt.eqv_refl _ c]
  exact k
theorem eqTF {K : PySem.W.Frag} {H : Hp} {p q : Addr} {vs : List V} {Q : VK} (hp : H p = some (.tup vs)) (hq : H q = some (.tup vs)) (h : vs.all fdB = true) (k : Q (.bl true) H) : rEqD K (.ref p) (.ref q) H Q := by
  obtain ⟨c, s⟩ := fd_tup (K := K) (H := H) h
  have d := (fd_all (K := K) (H := H) h).1
  refine ⟨_, _, .tup (SqT.of hp) d, .tup (SqT.of hq) d, s, s, ?_⟩
  rw [SeqAt.eqv_refl _ c]
  exact k
/-- one of a list at a place that was drawn -/
theorem at_mem {xs : List V} {d : Int} (h0 : 0 ≤ d) (h1 : d < (xs.length : Nat)) : ∃ v, atI xs d = some v ∧ v ∈ xs := by
  obtain ⟨D, rfl⟩ := Int.eq_ofNat_of_zero_le h0
  have hD : D < xs.length := by omega
  exact ⟨xs[D], atI_nat (by simp [hD]), List.getElem_mem hD⟩
end Lo

set_option Elab.async false
set_option linter.all false
set_option maxRecDepth 100000
set_option maxHeartbeats 4000000
namespace Lo
open PySem PySem.Spec PyProof.Rows L2
/-! ### own errors as values -/
def tExV (C : Addr) (fs : List Str) (ta : TA) : TE := fun σ H Q => ta σ H fun us H1 => us.length = fs.length ∧ fs.length ≤ 100 ∧
  ∀ (a d : Addr) (H2 : Hp), H1 a = none → H1 d = none → d ≠ a → Same H1 H2 → H2 a = some (exo a C (some d)) → H2 d = some (exd d (fs.zip us).reverse) → Q (.ref a) H2
theorem pe_exv {X : Cx} {x : Str} {C : Addr} {fs : List Str} {e : Expr} {es : List Expr} {ta : TA} {p pos : Pos} (O : OwnE X.prog X.w X.K X.mg X.base x C fs) (hr : Room 2 X.A) (hg : Gl X x) (ha : PA X (e :: es) ta)
    (hdb : (x == ("__debug__" : Str)) = false := by decide) (he : starEach (e :: es) X.env = (false, eval e X.env) :: starEach es X.env := by rfl) (hpl : (backTo pos (starEach es X.env)).any (·.1) = false := by rfl) :
    PE X (.Call (.Name x p) (e :: es) [] pos) (tExV C fs ta) := by
  obtain ⟨f, fd, ps, G, hi, ht, hm, hb⟩ := O.ex
  obtain ⟨nm, q, N, bs, bm, sn, sub, ab, col, dd, k0, k1, k2, k3, k5, hC, hbm⟩ := O.cl.cls
  constructor
  intro pins s σ H Q I h
  apply wpAny_Call_Name_kw (ld_glob I hg hm ?_ hdb)
  apply PySem.W.callWith_K (h₀ := X.base) I.ok.mod.kin O.cl.kC ?_ he hpl
  apply thn (ha.run pos pins s σ H _ I h)
  rintro us ⟨hp, g, dr, tk, os⟩ ⟨vs, H1, I1, r1, hl, h100, q1⟩
  refine ⟨I1.kIn, ?_⟩
  have sz : hp.objs.size ≤ hp.objs.size + 1 := Nat.le_succ _
  have hn : H1 (hp.objs.size + 1) = none := I1.hok.fresh sz
  have old : ∀ b o, hp.get? b = some o → ((hp.push (PySem.W.kdv_tup us)).push (PySem.HandSPX.excO C hp.objs.size)).get? b = some o := fun b o e =>
    Heap.get?_push_of_some _ (Heap.get?_push_of_some _ e)
  have new : ((hp.push (PySem.W.kdv_tup us)).push (PySem.HandSPX.excO C hp.objs.size)).get? (hp.objs.size + 1) =
      some (PySem.HandSPX.excO C hp.objs.size) := by heap_get
  have I2 := I1.laid (t' := tk) old sz (exo_ok (P := X.prog) (w := X.w) (H := upd H1 (hp.objs.size + 1) (exo (hp.objs.size + 1) C none)) new)
  have hsp : spErr C fs (.ref (hp.objs.size + 1) :: (vs ++ [])) (upd H1 (hp.objs.size + 1) (exo (hp.objs.size + 1) C none)) (fun v H2 => v = .non ∧ Q (.ref (hp.objs.size + 1)) H2) (fun _ _ _ => False) :=
    ⟨_, vs, by rw [List.append_nil], hl, upd_same, fun dx H2 nd ne ea ed sm => ⟨rfl, q1 _ dx H2 hn (by rw [upd_ne ne] at nd; exact nd) ne
      (fun b o e => sm b o (by rw [upd_ne (ne_of_none e hn)]; exact e) (ne_of_none e hn)) ea ed⟩⟩
  have r2 : Vals (V.ref (hp.objs.size + 1) :: (vs ++ [])) (Value.ref (hp.objs.size + 1) :: (us ++ [])) := .cons rfl (r1.append .nil)
  have lps : (Value.ref (hp.objs.size + 1) :: us ++ []).length = ps.length := by
    have e := r2.length
    rw [G.len _ _ _ _ hsp] at e
    exact e.symm
  have lus : us.length ≤ sizeLine := by rw [← Paired.length r1, sizeLine_eq]; omega
  have run := G.run _ X.stack _ _ ⟨Value.ref (hp.objs.size + 1) :: us, []⟩ _ _ _ (fun _ _ _ => False) (hr.make C us []) (I2.env0.make C us []) (hb _ (Value.ref (hp.objs.size + 1) :: us) I2.kIn lps) r2 hsp
  refine wpAny_call (PySem.HandSPX.call_own F.excBase_ValueError (fun Y => PySem.HandSPX.refsVE_contains Y bm hbm) (I1.kIn _ _ hC) (PySem.W.looks_findIn I1.kIn hi) (fun self => PySem.W.bind_fn I1.kIn self ht) lus (codeAny_mono run ?_))
  rintro (er | fl) s' hq'
  · exact pas0 σ pins _ _ er s' I2 hq'
  · cases fl with
    | ret u =>
      obtain ⟨v, H', I3, rv, ev, q3⟩ := I2.after hq'
      subst ev
      exact ⟨rv, ⟨.ref (hp.objs.size + 1), H', I3, rfl, q3⟩⟩
    | next => exact hq'.elim
    | brk => exact hq'.elim
    | cont => exact hq'.elim
/-- C(), C without own __init__ -/
def tExV0 (C : Addr) : TE := fun _ H Q => ∀ a : Addr, H a = none → Q (.ref a) (upd H a (exo a C none))
theorem pe_exv0 {X : Cx} {C : Addr} {bmB : List Value} {B newId initId : String} {x : Str} {p pos : Pos} (F : ExcBaseFacts B newId initId bmB) (q : PySem.W.excIn X.K C bmB newId = true) (gC : X.mg x = some (.ref C))
    (kC : PySem.W.keepIn X.K (.ref C) = true) (hg : Gl X x) (hdb : (x == ("__debug__" : Str)) = false := by decide) : PE X (.Call (.Name x p) [] [] pos) (tExV0 C) := by
  constructor
  intro pins s σ H Q I h
  apply wpAny_Call_Name_kw (ld_glob I hg gC ?_ hdb)
  apply PySem.W.callWith_K0 I.kIn kC
  obtain ⟨bm, N, nm, qn, bs, hdct, sn, sub, ab, col, dd, k0, k1, k2, k3, k5, mN, hC, hN, hni, T⟩ := exc_obj I.kIn q
  refine wpAny_call_exc_subT F T hC hN hni (fun h' e hm => ?_) (Nat.zero_le _)
  obtain ⟨t, he, _, _⟩ := hm.there
  have hn := I.hok.gone hm.new
  exact ⟨.ref e, _, I.laidN (t' := s.toks) hm.keeps hm.new hn (exo_ok he), rfl, h e hn⟩
/-- x.f, x an own error -/
def tExF (K : PySem.W.Frag) (f : Str) (te : TE) : TE := fun σ H Q => te σ H fun x H1 => ∃ (a C d : Addr) (fs : List (Str × V)) (v : V), x = .ref a ∧ XfC K C ∧ PySem.W.findIn K (.ref C) f = some none ∧ H1 a = some (exo a C (some d)) ∧ H1 d = some (exd d fs) ∧ fs.lookup f = some v ∧ Q v H1
theorem pe_exf {X : Cx} {K : PySem.W.Frag} {e : Expr} {te : TE} {pos : Pos} {f : Str} (he : PE X e te) (hK : X.K = K) (hb : attributeBase e f X.env (eval e X.env) = eval e X.env := by rfl) : PE X (.Attribute e f pos) (tExF K f te) := by
  subst hK
  constructor
  intro pins s σ H Q I h
  apply attr_of hb
  apply thn (he.run pins s σ H _ I h)
  rintro u s1 ⟨x, H1, I1, rx, a, C, d, fs, v, ex, T, hno, ea, ed, l, q⟩
  subst ex
  obtain rfl : u = Value.ref a := rx
  obtain ⟨t1, ho⟩ := exo_at I1.hok ea
  obtain ⟨mA, hns, hr⟩ := exd_at I1.hok ed
  obtain ⟨od, hod, hl⟩ := lookIn_ns hns
  obtain ⟨u, hu, ru⟩ := RelO.some_of (v := v) (o := mA f) (by rw [← l]; exact hr f)
  exact HandSPX.exc_get I1.kIn ⟨ho, rfl, rfl, hod⟩ T.ga T.gg T.exC (PySem.W.findObj_own T.hdC hno rfl (by rw [hl, hu])) (handed_of ru) ⟨v, H1, I1.tok _, ru, q⟩
/-- isinstance(x, c), x an own error -/
def rIsX (K : PySem.W.Frag) : List V → Hp → VK → Prop := fun xs H Q => ∃ (a C : Addr) (od : Option Addr) (c : V) (cv : Value) (b : Bool), xs = [.ref a, c] ∧ H a = some (exo a C od) ∧ (∀ d, od = some d → ∃ fs, H d = some (exd d fs)) ∧ ExcC K C ∧
  (∀ u, RelV c u → u = cv) ∧ PySem.W.kitOne K (.ref C) cv = some b ∧ Q (.bl b) H
theorem call_isX {X : Cx} : CallR X (.builtin "isinstance") (rIsX X.K) := by
  intro pins s σ H xs us Q I r h
  obtain ⟨a, C, od, c, cv, b, rfl, ea, hd, T, hcv, e, q⟩ := h
  match us, r with
  | _, .cons rx (.cons rt .nil) =>
    obtain rfl := hcv _ rt
    cases rx
    obtain ⟨t1, ho⟩ := exo_at I.hok ea
    obtain ⟨oo, J⟩ : ∃ oo, PySem.W.InstAt s.heap a { cls := .ref C, dict := od, data := .fields #[.ref t1, .none, .none, .none, .bool false, .none] } C oo := by
      cases od with
      | none => exact ⟨none, ho, rfl, rfl, True.intro⟩
      | some x =>
        obtain ⟨fs, ed⟩ := hd x rfl
        obtain ⟨mA, hns, _⟩ := exd_at I.hok ed
        obtain ⟨o, h1, _⟩ := lookIn_ns hns
        exact ⟨some o, ho, rfl, rfl, h1⟩
    obtain ⟨cd, hcd, _⟩ := PySem.W.any_some T.hd
    exact PySem.W.kia_one (PySem.W.kitx_exc (by rw [hcd]; rfl) T.hg T.hk T.hs T.ha T.hn T.ht T.hm) I.kIn J e (fun z => nomatch z) fun tk => ⟨.bl b, H, I.kept (t' := tk) fun _ _ z => z, rfl, q⟩
/-! ### sum of a list of bools -/
section
variable {P : Program} {w : World} {A : Around} {R : Result → Shared → Prop} {I : Addr} {fp wr : List Addr} {n : Nat} {Pv : Nat → Value → Prop} {St : Nat → Heap → Prop}
theorem sumB_loop (W : Walks P w A.in1 I fp wr n Pv St) (bv : Nat → Bool) (hv : ∀ i v, Pv i v → v = .bool (bv i)) (S : Addr) (hS : S ∉ fp) :
    ∀ (k i : Nat) (s : Shared) (tA : Tok) (c : Nat) (z : Int), (z = 0 ∨ z = 2) → n - i = k → i ≤ n → St i s.heap → s.heap.get? S = some { cls := .type "list", dict := none, data := .seq #[.int (preSum (fun j => if bv j = true then 1 else 0) i) tA] c, slots := #[] } →
    (∀ h' tk t', (∀ b o, b ∉ wr → b ≠ S → s.heap.get? b = some o → h'.get? b = some o) → R (.ok (.ret (.int (preSum (fun j => if bv j = true then 1 else 0) n) t'))) { s with heap := h', toks := tk }) →
    codeAny (model P w) A (.builtin "sum.loop" ⟨[.ref I, .ref S, rawInt z, rawInt 0], []⟩) R s := by
  have nS : S ∉ wr := fun h => hS (W.sub _ h)
  intro k
  induction k with
  | zero =>
    intro i s tA c z hz hk hi hst e hR
    obtain rfl : i = n := by omega
    apply codeAny_builtin F.entry_sum_loop
    rw [Around.under_plainId F.plain_sum_loop _]
    show wpAny _ A.in1 (seqItems? (.ref S) >>= _) _ _ s
    apply wpAny_bind
    apply wpAny_seqItems e rfl
    show wpAny _ A.in1 (tryCatch (pyNext (.ref I)) _ >>= _) _ _ s
    apply wpAny_bind
    apply wpAny_tryCatch
    refine W.done s _ _ hst fun h' tk hk' => ?_
    exact wpAny_pure (hR h' tk tA fun b o hb _ e => hk' b o hb e)
  | succ k ih =>
    intro i s tA c z hz hk hi hst e hR
    have lt : i < n := by omega
    apply codeAny_builtin F.entry_sum_loop
    rw [Around.under_plainId F.plain_sum_loop _]
    show wpAny _ A.in1 (seqItems? (.ref S) >>= _) _ _ s
    apply wpAny_bind
    apply wpAny_seqItems e rfl
    show wpAny _ A.in1 (tryCatch (pyNext (.ref I)) _ >>= _) _ _ s
    apply wpAny_bind
    apply wpAny_tryCatch
    refine W.item i s _ _ lt hst fun v h' tk hP hst' hk' => ?_
    obtain rfl := hv i v hP
    have e' := hk' S _ nS e
    have off : ∀ {b : Addr}, b ∈ fp → S ≠ b := fun hb q => hS (q ▸ hb)
    obtain ⟨y, hy⟩ : ∃ y : Int, (if bv i = true then (1 : Int) else 0) = y := ⟨_, rfl⟩
    obtain ⟨T, hT⟩ : ∃ T : Int, preSum (fun j => if bv j = true then 1 else 0) i = T := ⟨_, rfl⟩
    have e3 : preSum (fun j => if bv j = true then 1 else 0) (i + 1) = T + y := by
      show preSum (fun j => if bv j = true then 1 else 0) i + (if bv i = true then (1 : Int) else 0) = _
      rw [hy, hT]
    rw [hT] at e'
    have fin : ∀ (h2 : Heap) (z : Int) (tk2 tA2 : Tok) (c2 : Nat), (z = 0 ∨ z = 2) → (∀ b, b ≠ S → h2.get? b = h'.get? b) → h2.get? S = some { cls := .type "list", dict := none, data := .seq #[.int (T + y) tA2] c2, slots := #[] } →
        codeAny (model P w) A (.builtin "sum.loop" ⟨[.ref I, .ref S, rawInt z, rawInt 0], []⟩) R { s with heap := h2, toks := tk2 } := fun h2 z tk2 tA2 c2 hz k2 e2 =>
      ih (i + 1) _ tA2 c2 z hz (by omega) lt (W.frame _ _ _ hst' fun b hb o q => (k2 b (Ne.symm (off hb))).trans q) (by rw [e3]; exact e2) fun h3 tk3 t3 k3 => hR h3 tk3 t3 fun b o hb hs q => k3 b o hb hs ((k2 b hs).trans (hk' b o hb q))
    have slow : ∀ tk2 : Nat, wpAny (model P w) A.in1 (do
        updateSeq S fun _ => #[.int (T + y) tk2]
        letGo [Value.int T tA, Value.bool (bv i)]
        updateSeq S fun _ => #[.int (T + y) tk2]
        again (Code.builtin "sum.loop" ⟨[.ref I, .ref S, rawInt 2, rawInt 0], []⟩)) (fun x s' => match x with
          | .done f => R (.ok f) s'
          | .again c' => c'.quiet = true ∧ codeAny (model P w) A c' R s') (fun e s' => R (.error e) s') { s with heap := h', toks := tk + 1 } := fun tk2 => by
      apply wpAny_bind
      apply wpAny_updateSeq e' rfl
      have e2 := Heap.get?_update_self (Obj.mapSeq fun _ => #[Value.int (T + y) tk2]) e' rfl
      apply wpAny_bind
      apply wpAny_letGo
      apply wpAny_bind
      exact wpAny_updateSeq e2 rfl (wpAny_pure ⟨plainId_quiet F.plain_sum_loop _, fin _ 2 _ tk2 _ (.inr rfl) (fun b hb => (Heap.get?_update_other _ _ (Ne.symm hb)).trans (Heap.get?_update_other _ _ (Ne.symm hb))) (Heap.get?_update_self _ e2 rfl)⟩)
    rcases hz with rfl | rfl
    · show wpAny _ A.in1 (if (_ : Bool) = true then (mkInt (preSum (fun j => if bv j = true then 1 else 0) i + (if bv i = true then 1 else 0)) >>= _) else _) _ _ _
      rw [hy, hT]
      split
      · apply wpAny_bind
        apply wpAny_mkInt
        show wpAny _ A.in1 (updateSeq S (fun _ => #[.int (T + y) tk]) >>= _) _ _ _
        apply wpAny_bind
        exact wpAny_updateSeq e' rfl (wpAny_pure ⟨plainId_quiet F.plain_sum_loop _, fin _ 0 _ tk _ (.inl rfl) (fun b hb => Heap.get?_update_other _ _ (Ne.symm hb)) (Heap.get?_update_self _ e' rfl)⟩)
      · apply wpAny_bind
        apply wpAny_rule
        apply wpAny_bind
        refine wpAny_attempt (wpAny_holding (add_int_bool ?_))
        rw [hy]
        exact slow tk
    · show wpAny _ A.in1 ((holding [Value.bool (bv i)] (binaryOp .Add (.int (preSum (fun j => if bv j = true then 1 else 0) i) tA) (.bool (bv i)))).attempt >>= _) _ _ _
      rw [hT]
      apply wpAny_bind
      refine wpAny_attempt (wpAny_holding (add_int_bool ?_))
      rw [hy]
      exact slow tk
variable {E : Value → Shared → Prop} {s : Shared}
theorem sumB_raw {l : Addr} {bs : List Bool} {Q : Value → Shared → Prop} (hh : A.handled = none) (hl : s.heap.IsList l (bs.map Value.bool).toArray)
    (h : ∀ h' tk t', (∀ b o, s.heap.get? b = some o → h'.get? b = some o) → Q (.int (preSum (fun j => if bs.getD j false = true then 1 else 0) bs.length) t') { s with heap := h', toks := tk }) : wpAny (model P w) A (call (.builtin "sum") [.ref l]) Q E s := by
  have hlt : l < s.heap.objs.size := by obtain ⟨_, e, _⟩ := hl; exact Heap.lt_size e
  apply call_function_tree F.kind_sum F.plain_sum F.entry_sum (F.args_sum1 _)
  unfold Builtin.«sum»
  simp only [List.length_cons, List.length_nil]
  rw [if_neg (by decide)]
  apply wpAny_bind
  refine wpAny_of_eq (show Builtin.Builtins.bindParams "sum" ["start"] 0 { } = pure [none] from rfl) ?_
  apply wpAny_bind
  apply wpAny_pyIter_list hl
  have hn : l ≠ s.heap.objs.size := Nat.ne_of_lt hlt
  apply wpAny_bind
  apply wpAny_mkInt
  apply wpAny_bind
  apply wpAny_pure
  simp only [List.forIn_cons, List.forIn_nil]
  refine wpAny_bind (wpAny_bind (wpAny_bind (wpAny_isInstance (T := "int") (b := false) (typeIs_int _ _ _) PySem.sub_int_str ?_)))
  rw [if_neg Bool.false_ne_true]
  refine wpAny_pure (wpAny_bind (wpAny_bind (wpAny_isInstance (T := "int") (b := false) (typeIs_int _ _ _) PySem.sub_int_bytes ?_)))
  rw [if_neg Bool.false_ne_true]
  refine wpAny_pure (wpAny_bind (wpAny_bind (wpAny_isInstance (T := "int") (b := false) (typeIs_int _ _ _) PySem.sub_int_bytearray ?_)))
  rw [if_neg Bool.false_ne_true]
  apply wpAny_pure
  apply wpAny_pure
  refine wpAny_bind (wpAny_newObj_type ?_)
  have W := Walks.list (prog := P) (w := w) (A := A.in1) hh s.heap.objs.size l hn (bs.map Value.bool).toArray
  have hv : ∀ (i : Nat) (v : Value), (bs.map Value.bool).toArray[i]? = some v → v = .bool (bs.getD i false) := fun i v e => by
    rw [List.getElem?_toArray, List.getElem?_map] at e
    cases q : bs[i]? with
    | none => rw [q] at e; cases e
    | some b =>
      rw [q] at e
      cases e
      rw [List.getD_eq_getElem?_getD, q]
      rfl
  have size1 : ∀ o, (s.heap.push o).objs.size = s.heap.objs.size + 1 := fun o => Heap.size_push _ _
  have hn2 : (bs.map Value.bool).toArray.size = bs.length := by rw [List.size_toArray, List.length_map]
  refine wpAny_pure ⟨plainId_quiet F.plain_sum_loop _, sumB_loop W (fun j => bs.getD j false) hv _ ?_ _ 0 _ s.toks 0 0 (.inl rfl) rfl (Nat.zero_le _) ?_ (Heap.get?_push_size _ rfl) fun h' tk t' hk => ?_⟩
  · intro m
    rcases List.mem_cons.mp m with e | m
    · exact absurd ((size1 _).symm.trans e) (by omega)
    · rcases List.mem_cons.mp m with e | m
      · have q : s.heap.objs.size + 1 = l := (size1 _).symm.trans e
        have q2 : l < s.heap.objs.size := hlt
        rw [← q] at q2
        exact absurd (Nat.lt_of_succ_lt q2) (Nat.lt_irrefl _)
      · cases m
  · exact ⟨⟨_, Heap.get?_push_of_some _ (Heap.get?_push_size _ rfl), rfl, rfl⟩, (hl.push _).push _⟩
  · rw [hn2]
    refine h h' tk t' fun b o e => hk b o (fun m => ?_) (fun z => ?_) (Heap.get?_push_of_some _ (Heap.get?_push_of_some _ e))
    · rcases List.mem_cons.mp m with z | m
      · exact absurd (Heap.lt_size e) (by rw [z]; exact Nat.lt_irrefl _)
      · cases m
    · have lt := Heap.lt_size e
      rw [z] at lt
      have := size1 { cls := .type "list_iterator", data := .fields #[.ref l, .int 0 0] }
      exact absurd (show (s.heap.push { cls := .type "list_iterator", data := .fields #[.ref l, .int 0 0] }).objs.size < s.heap.objs.size from lt) (by omega)
end
def cntB (bs : List Bool) : Int := preSum (fun j => if bs.getD j false = true then 1 else 0) bs.length
def rSumB (K : PySem.W.Frag) : List V → Hp → VK → Prop := fun vs H Q => ∃ (a : Addr) (bs : List Bool), vs = [V.ref a] ∧ SqL K H a (bs.map V.bl) ∧ Q (.int (cntB bs)) H
theorem cr_sumB {X : Cx} (hc : X.calm = true) : CallR X (.builtin "sum") (rSumB X.K) := by
  intro pins s σ H vs us Q I r h
  obtain ⟨a, bs, rfl, hs, q⟩ := h
  obtain ⟨its, rv, hl, _⟩ := I.list hs
  rw [Vals.ref1 r]
  have e := rv.bls
  subst e
  exact sumB_raw (I.ok.hd hc) hl.isList fun h' tk t' hk => ⟨.int _, H, I.kept hk, ⟨_, rfl⟩, q⟩
/-! ### isinstance of the own errors among each other -/
structure ErrC (K : PySem.W.Frag) (C0 C : Addr) : Prop where
  ex : ∃ cd, PySem.W.clsIn K C = some cd ∧ cd.mro = [.ref C, .ref C0, .type "ValueError", .type "Exception", .type "BaseException", .type "object"] ∧ PySem.W.typeIn K (.ref C) = some (.type "type") ∧ ExcC K C
structure KitTab (K : PySem.W.Frag) (ca : Nat → Addr) (ns : List Nat) : Prop where
  ec : ∀ c ∈ ns, ExcC K (ca c)
  each : ∀ c ∈ ns, ∀ d ∈ ns, PySem.W.kitOne K (.ref (ca c)) (.ref (ca d)) = some (decide (c = d))
  base : ∀ c ∈ ns, PySem.W.kitOne K (.ref (ca c)) (.ref (ca 0)) = some true
  val : ∀ c ∈ ns, PySem.W.kitOne K (.ref (ca c)) (.type "ValueError") = some true
theorem ct_nil {F : Nat → Prop} : ∀ c ∈ ([] : List Nat), F c := fun _ h => by cases h
theorem ct_cons {K : PySem.W.Frag} {ca : Nat → Addr} {n : Nat} {l : List Nat} (h : ErrC K (ca 0) (ca n)) (k : ∀ c ∈ l, ErrC K (ca 0) (ca c)) : ∀ c ∈ n :: l, ErrC K (ca 0) (ca c) := fun c m => by
  rcases List.mem_cons.mp m with rfl | m
  · exact h
  · exact k c m
theorem inj_of {α β : Type} {f : α → β} : ∀ {l : List α}, (l.map f).Nodup → ∀ a ∈ l, ∀ b ∈ l, f a = f b → a = b
  | [], _, _, h, _, _, _ => by cases h
  | x :: l, h, a, ha, b, hb, e => by
    obtain ⟨h1, h2⟩ := List.nodup_cons.mp (show (f x :: l.map f).Nodup from h)
    rcases List.mem_cons.mp ha with e1 | ha2 <;> rcases List.mem_cons.mp hb with e2 | hb2
    · rw [e1, e2]
    · exact absurd (List.mem_map.mpr ⟨b, hb2, by rw [← e, e1]⟩) h1
    · exact absurd (List.mem_map.mpr ⟨a, ha2, by rw [e, e2]⟩) h1
    · exact inj_of h2 a ha2 b hb2 e
theorem kit_tab {K : PySem.W.Frag} {ca : Nat → Addr} {ns : List Nat} (nd : ((0 :: ns).map ca).Nodup) (h0 : ∃ cd, PySem.W.clsIn K (ca 0) = some cd ∧ PySem.W.typeIn K (.ref (ca 0)) = some (.type "type")) (h : ∀ c ∈ ns, ErrC K (ca 0) (ca c)) : KitTab K ca ns := by
  have sub : ∀ (c : Nat) (D : Value), c ∈ ns → PySem.W.subIn K (.ref (ca c)) D = some ([.ref (ca c), .ref (ca 0), .type "ValueError", .type "Exception", .type "BaseException", .type "object"].contains D) := fun c D hc => by
    obtain ⟨⟨cd, h1, h2, h3, _⟩⟩ := h c hc
    show PySem.W.mroIn K (ca c) D = _
    unfold PySem.W.mroIn
    rw [h1, Option.bind_some, h2]
    rfl
  have kc : ∀ (c d : Nat), c ∈ ns → (∃ cd, PySem.W.clsIn K (ca d) = some cd ∧ PySem.W.typeIn K (.ref (ca d)) = some (.type "type")) →
      PySem.W.kitOne K (.ref (ca c)) (.ref (ca d)) = some ([Value.ref (ca c), .ref (ca 0), .type "ValueError", .type "Exception", .type "BaseException", .type "object"].contains (.ref (ca d))) := fun c d hc ⟨cd, h1, h2⟩ => by
    unfold PySem.W.kitOne
    by_cases e : ca c = ca d
    · rw [if_pos (by rw [e]; exact beq_self_eq_true _), e]
      simp
    · rw [if_neg (by simpa using e)]
      show (if ((PySem.W.clsIn K (ca d)).isSome && PySem.W.typeIn K (.ref (ca d)) == some (.type "type")) = true then PySem.W.subIn K (.ref (ca c)) (.ref (ca d)) else none) = _
      rw [h1, h2]
      rw [if_pos (by simp), sub c _ hc]
  refine ⟨fun c hc => ?_, fun c hc d hd => ?_, fun c hc => ?_, fun c hc => ?_⟩
  · obtain ⟨⟨_, _, _, _, e⟩⟩ := h c hc
    exact e
  · obtain ⟨⟨cd, h1, _, h3, _⟩⟩ := h d hd
    rw [kc c d hc ⟨cd, h1, h3⟩]
    have n0 : ca d ≠ ca 0 := fun e => by
      obtain ⟨a, _⟩ := List.nodup_cons.mp (show (ca 0 :: ns.map ca).Nodup from nd)
      exact a (List.mem_map.mpr ⟨d, hd, e⟩)
    congr 1
    by_cases e : c = d
    · subst e
      simp
    · have e2 : ca d ≠ ca c := fun q => e (inj_of (List.nodup_cons.mp (show (ca 0 :: ns.map ca).Nodup from nd)).2 c hc d hd q.symm)
      simp [e, n0, e2]
  · rw [kc c 0 hc h0]
    simp
  · unfold PySem.W.kitOne
    rw [if_neg (by simp)]
    show (if PySem.W.kitMeta "ValueError" = true then PySem.W.subIn K (.ref (ca c)) (.type "ValueError") else none) = _
    rw [if_pos (by decide +kernel), sub c _ hc]
    simp
/-- the numbers of the own errors but their base -/
abbrev ERRS : List Nat := [1, 4, 5, 6, 7, 8, 9, 10, 11, 12, 13, 14, 15, 16, 17, 18, 19, 20, 21]
def ErrO (ca : Nat → Addr) (H : Hp) (a : Addr) : Prop := ∃ c ∈ ERRS, ∃ od, H a = some (exo a (ca c) od) ∧ ∀ d, od = some d → ∃ fs, H d = some (exd d fs)
def ErrT (ca : Nat → Addr) (H : Hp) (t : V) : Prop := ∃ q a, t = .ref q ∧ H q = some (.tup [.ref a, .bl true]) ∧ ErrO ca H a
theorem exo_lst {e C : Addr} {d : Option Addr} {xs : List V} : exo e C d ≠ .lst xs := fun z => by
  have y : HO.ext _ = HO.lst xs := z
  cases y
theorem exd_lst {e : Addr} {fs : List (Str × V)} {xs : List V} : exd e fs ≠ .lst xs := fun z => by
  have y : HO.ext _ = HO.lst xs := z
  cases y
theorem ErrO.same {ca : Nat → Addr} {H H' : Hp} {a : Addr} (h : ErrO ca H a) (s : Same H H') : ErrO ca H' a :=
  let ⟨c, m, od, e, k⟩ := h; ⟨c, m, od, s _ _ e, fun d q => let ⟨fs, z⟩ := k d q; ⟨fs, s _ _ z⟩⟩
theorem ErrO.put {ca : Nat → Addr} {H H' : Hp} {a D : Addr} {xs : List V} (h : ErrO ca H a) (e : H D = some (.lst xs)) (s : Keep D H H') : ErrO ca H' a :=
  let ⟨c, m, od, q, k⟩ := h; ⟨c, m, od, s _ _ q (ne_of q e exo_lst), fun d y => let ⟨fs, z⟩ := k d y; ⟨fs, s _ _ z (ne_of z e exd_lst)⟩⟩
theorem ErrT.same {ca : Nat → Addr} {H H' : Hp} {t : V} (h : ErrT ca H t) (s : Same H H') : ErrT ca H' t :=
  let ⟨q, a, e, h1, h2⟩ := h; ⟨q, a, e, s _ _ h1, h2.same s⟩
theorem ErrT.put {ca : Nat → Addr} {H H' : Hp} {t : V} {D : Addr} {xs : List V} (h : ErrT ca H t) (e : H D = some (.lst xs)) (s : Keep D H H') : ErrT ca H' t :=
  let ⟨q, a, y, h1, h2⟩ := h; ⟨q, a, y, s _ _ h1 (ne_of h1 e fun z => nomatch z), h2.put e s⟩
/-- an error of class c with these fields -/
structure ErrF (ca : Nat → Addr) (H : Hp) (a : Addr) (c : Nat) (d : Addr) (fs : List (Str × V)) : Prop where
  at_ : H a = some (exo a (ca c) (some d))
  dd : H d = some (exd d fs)
theorem ErrF.same {ca : Nat → Addr} {H H' : Hp} {a d : Addr} {c : Nat} {fs : List (Str × V)} (h : ErrF ca H a c d fs) (s : Same H H') : ErrF ca H' a c d fs := ⟨s _ _ h.at_, s _ _ h.dd⟩
theorem ErrF.put {ca : Nat → Addr} {H H' : Hp} {a d D : Addr} {c : Nat} {fs : List (Str × V)} {xs : List V} (h : ErrF ca H a c d fs) (e : H D = some (.lst xs)) (s : Keep D H H') : ErrF ca H' a c d fs := ⟨s _ _ h.at_ (ne_of h.at_ e exo_lst), s _ _ h.dd (ne_of h.dd e exd_lst)⟩
theorem ErrF.o {ca : Nat → Addr} {H : Hp} {a d : Addr} {c : Nat} {fs : List (Str × V)} (h : ErrF ca H a c d fs) (m : c ∈ ERRS := by decide) : ErrO ca H a := ⟨c, m, some d, h.at_, fun _ q => by cases q; exact ⟨fs, h.dd⟩⟩
theorem eqLF {K : PySem.W.Frag} {H : Hp} {p q : Addr} {vs : List V} {Q : VK} (hp : H p = some (.lst vs)) (hq : H q = some (.lst vs)) (h : vs.all fdB = true) (k : Q (.bl true) H) : rEqD K (.ref p) (.ref q) H Q := by
  obtain ⟨c, s⟩ := fd_tup (K := K) (H := H) h
  have d := (fd_all (K := K) (H := H) h).1
  have c' : (PyData.list (vs.map dat)).canLay0 = true := c
  have s' : SeqAt.shaped (PyData.list (vs.map dat)) = true := s
  refine ⟨_, _, .lst (SqL.of hp) d, .lst (SqL.of hq) d, s', s', ?_⟩
  rw [SeqAt.eqv_refl _ c']
  exact k
end Lo

set_option Elab.async false
set_option linter.all false
set_option maxRecDepth 100000
set_option maxHeartbeats 4000000
namespace Lo
open PySem PySem.Spec PyProof.Rows L2
/-! ### several clauses, each with a name -/
def wAll (K : PySem.W.Frag) (out : WX) (D : Ends) : List (Value × Nat × (Addr → Value → Option Addr → TS)) → WX
  | [] => out
  | (c, i, ts) :: r => fun cls d τ G => ∃ b, PySem.W.exmOne K cls c = some b ∧
      (b = true → ∀ a, G a = none → ts a cls d { nx := fun τ' G' => D.nx (τ'.set i none) G', rt := D.rt, bk := fun τ' G' => D.bk (τ'.set i none) G', ct := fun τ' G' => D.ct (τ'.set i none) G' } (τ.set i (some (.ref a))) G) ∧
      (b = false → wAll K out D r cls d τ G)
inductive Clauses (X : Cx) : List ExceptHandler → List (Value × Nat × (Addr → Value → Option Addr → TS)) → Prop
  | nil : Clauses X [] []
  | cons {x n : Str} {c : Value} {i : Nat} {ts : Addr → Value → Option Addr → TS} {b₀ : Stmt} {suite : List Stmt} {np pp : Pos} {hds : List ExceptHandler} {l : List (Value × Nat × (Addr → Value → Option Addr → TS))} (hi : X.N[i]? = some n) (hl : X.env.kindOf n = some .local) (hc : Names X x c)
      (su : ∀ (a : Addr) (oe : Obj) (cls : Value) (d : Option Addr) (pn : List (Addr × Obj)), L2N.Zn cls d oe → (∃ vs, oe.data = .fields vs) → PSs (X.suite a ((a, oe) :: pn)) (b₀ :: suite) (ts a cls d)) (r : Clauses X hds l) :
      Clauses X (.ExceptHandler (some (.Name x np)) (some n) (b₀ :: suite) pp :: hds) ((c, i, ts) :: l)
theorem ps_try_all {X : Cx} {body : List Stmt} {h₀ : ExceptHandler} {hds : List ExceptHandler} {l : List (Value × Nat × (Addr → Value → Option Addr → TS))} {pos : Pos} {tb : WX → TS} {out : WX} (hs : X.stack = X.env :: X.outer) (hf : X.env.frame = some X.env.locals) (hN : X.N.Nodup) (tk : L2N.Takes X out)
    (hb : ∀ (W : WX) (pn : List (Addr × Obj)) (xe : Value → Shared → Prop), L2N.Takes (X.tr pn xe) W → PassesOwn (model X.prog X.w) X.A X.env xe → PSs (X.tr pn xe) body (tb W)) (hh : Clauses X (h₀ :: hds) l) :
    PS X (.Try body (h₀ :: hds) [] [] pos) (fun D σ H => tb (wAll X.K out D l) D σ H) := by
  constructor
  intro pins s σ H D I h
  have ok := I.ok
  have frs' : X.A.frames = some (X.env :: X.outer) := by rw [ok.frames, hs]
  apply wpAny_Try_except
  have run := (hb (wAll X.K out D l) (X.pn ++ pins) (fun e t1 => wpAny (model X.prog X.w) X.A (noteFrame e X.env) (fun _ t2 => wpAny (model X.prog X.w) X.A (setFlight e none)
    (fun _ t3 => wpAny (model X.prog X.w) X.A (handleBy e X.env (h₀ :: hds)) (SP X pins D) X.xe t3) X.xe t2) X.xe t1) ?_ PassesOwn.looking).run [] s σ H D (I.toTry _) h
  · refine wpAny_mono run (fun f t hsp => ?_) (fun e t he => he)
    cases f with
    | next =>
      obtain ⟨τ, G, J, q⟩ := hsp
      exact wpAny_execs_nil ⟨τ, G, J.ofTry ok, q⟩
    | brk =>
      obtain ⟨τ, G, J, q⟩ := hsp
      exact ⟨τ, G, J.ofTry ok, q⟩
    | cont =>
      obtain ⟨τ, G, J, q⟩ := hsp
      exact ⟨τ, G, J.ofTry ok, q⟩
    | ret u =>
      obtain ⟨v, τ, G, J, r, q⟩ := hsp
      exact ⟨v, τ, G, J.ofTry ok, r, q⟩
  · intro u t xx
    obtain ⟨a, B, sI, pins2, τ, G, cls, d, rfl, J0, nb, up, sky, na, os, ag, w⟩ := xx
    have J : Inv X pins τ G sI := J0.ofTry ok
    rw [← show X.stack = X.env :: X.outer from hs] at frs'
    have sky2 : Sky B X.stack a (L2N.Zn cls d) X.env.locals t.heap := sky
    rw [hs] at frs' sky2
    show wpAny (model X.prog X.w) X.A (noteFrame (.ref a) X.env) _ _ _
    refine L2N.Sky.land L2N.Zn.steady frs' hf sky2 fun h3 fl up3 => ?_
    have J3 : Inv X pins τ G { t with heap := h3 } := J.landed nb fl.1 (up.trans up3) os ag
    obtain ⟨oe3, vs3, at3, z3, d3⟩ := fl.there
    have off : a ∉ frs (X.env :: X.outer) := fun m => by
      obtain ⟨_, o, e, no⟩ := fl.2.2.1.mem m
      rw [at3] at e
      cases e
      exact no _ d3
    have offL : a ≠ X.env.locals := fun z => off (List.mem_filterMap.mpr ⟨X.env, List.mem_cons_self, by rw [hf, z]⟩)
    have offF : a ∉ X.fs := fun m => by
      obtain ⟨e, he, q⟩ := List.mem_filterMap.mp m
      exact off (List.mem_filterMap.mpr ⟨e, List.mem_cons_of_mem _ he, q⟩)
    have S3 := J3.suite at3 d3 na offL offF
    have go : ∀ {hs2 : List ExceptHandler} {l2 : List (Value × Nat × (Addr → Value → Option Addr → TS))}, Clauses X hs2 l2 → wAll X.K out D l2 cls d τ G →
        wpAny (model X.prog X.w) X.A (handleBy (.ref a) X.env hs2) (SP X pins D) X.xe { t with heap := h3 } := by
      intro hs2 l2 cl
      induction cl with
      | nil =>
        intro w
        apply wpAny_handleBy_nil
        obtain ⟨k1, k2, k3, oe, vs, T, oT, ts2, he, hz, hd, h1, hr⟩ := id fl
        unfold PySem.passOn
        apply wpAny_bind
        apply wpAny_field he hd h1
        rw [if_neg (show ¬ ((Value.ref T == Value.none) = true) by simp)]
        have fin : wpAny (model X.prog X.w) X.A (setFlight (.ref a) X.env.frame) (fun _ t4 => wpAny (model X.prog X.w) X.A (throw (.ref a) : Sem Flow) (SP X pins D) X.xe t4) X.xe { t with heap := h3 } := by
          rw [hf]
          exact HandSPX.setFlight_upZ fl fun h4 hh4 up4 => wpAny_throw (tk _ _ ⟨a, B, sI, pins, τ, G, cls, d, rfl, J, nb, (up.trans up3).trans up4, .inr (.inr (by rw [hs]; exact hh4)), na, os, ag, w⟩)
        first
          | exact wpAny_bind (wpAny_pure (wpAny_bind fin))
          | exact wpAny_bind fin
      | @cons x n c i ts b₀ suite np pp hds2 l3 hi hl hc su r ih =>
        intro w
        obtain ⟨b, eb, yes, no⟩ := w
        apply wpAny_handleBy_cons (codeAny_handlers_test ?_) (by intro q; cases q)
        have look : PySem.W.Looks (model X.prog X.w) h3 (typeOf (.ref a)) cls := fun A Q E s k q => wpAny_typeOf_ref (k _ _ at3) (by rw [z3.1]; exact q)
        have test : ∀ {Q : Value → Shared → Prop} {E : Value → Shared → Prop}, Q c { t with heap := h3 } → wpAny (model X.prog X.w) (X.A.mark (some (.ref a))) (eval (.Name x np) X.env) Q E { t with heap := h3 } := fun {Q E} q => by
          rcases hc with ⟨hg, hdbg, hm | ⟨hm, hv, hnn⟩⟩
          · exact ld_glob (X := X.suite a ((a, oe3) :: (X.pn ++ pins))) S3 hg hm q hdbg
          · exact ld_blt (X := X.suite a ((a, oe3) :: (X.pn ++ pins))) S3 hg hm hv q hnn hdbg
        apply test
        apply (PySem.W.exm_one (M := model X.prog X.w) J3.kIn look eb).here
        cases b with
        | true =>
          apply codeAny_handlers_suite_as
          refine HandSPX.lands_againZ fl fun h4 fl4 up4 => ?_
          have J4 : Inv X pins τ G { t with heap := h4 } := J.landed nb fl4.1 ((up.trans up3).trans up4) os ag
          obtain ⟨oe4, vs4, at4, z4, d4⟩ := fl4.there
          refine store_ok (X := X.suite a ((a, oe4) :: (X.pn ++ pins))) (v := .ref a) (J4.suite at4 d4 na offL offF) hN hi (.inl hl) rfl (fun t5 S5 => ?_) (.inr hl)
          refine wpAny_mono ((su a oe4 cls d (X.pn ++ pins) z4 ⟨_, d4⟩).run [] t5 _ G _ S5 (yes rfl a na)) (fun f t6 hsp => ?_) (fun _ _ z => z.elim)
          cases f with
          | next =>
            obtain ⟨τ6, G6, S6, q6⟩ := hsp
            exact gone_ok (S6.unsuite ok) hN hi hl fun t7 J7 => ⟨_, _, J7, q6⟩
          | brk =>
            obtain ⟨τ6, G6, S6, q6⟩ := hsp
            exact gone_ok (S6.unsuite ok) hN hi hl fun t7 J7 => ⟨_, _, J7, q6⟩
          | cont =>
            obtain ⟨τ6, G6, S6, q6⟩ := hsp
            exact gone_ok (S6.unsuite ok) hN hi hl fun t7 J7 => ⟨_, _, J7, q6⟩
          | ret u =>
            obtain ⟨v6, τ6, G6, S6, r6, q6⟩ := hsp
            exact gone_ok (S6.unsuite ok) hN hi hl fun t7 J7 => ⟨_, _, _, J7, r6, q6⟩
        | false => exact ih (no rfl)
    exact go hh w
/-! ### min of a list of texts -/
theorem best_min (f : Nat → Str) : ∀ k, argBest (fun i j => decide ((f i).cps.toList < (f j).cps.toList)) k ≤ k ∧ ∀ j, j ≤ k → ¬ (f j).cps.toList < (f (argBest (fun i j => decide ((f i).cps.toList < (f j).cps.toList)) k)).cps.toList
  | 0 => ⟨Nat.le_refl _, fun j hj => by
    obtain rfl : j = 0 := by omega
    exact List.lt_irrefl _⟩
  | k + 1 => by
    obtain ⟨h1, h2⟩ := best_min f k
    unfold argBest
    by_cases c : (f (k + 1)).cps.toList < (f (argBest (fun i j => decide ((f i).cps.toList < (f j).cps.toList)) k)).cps.toList
    · rw [if_pos (decide_eq_true c)]
      refine ⟨Nat.le_refl _, fun j hj z => ?_⟩
      rcases Nat.lt_or_ge k j with q | q
      · obtain rfl : j = k + 1 := by omega
        exact List.lt_irrefl _ z
      · exact h2 j q (List.lt_trans z c)
    · rw [if_neg (by simpa using c)]
      refine ⟨Nat.le_succ_of_le h1, fun j hj => ?_⟩
      rcases Nat.lt_or_ge k j with q | q
      · obtain rfl : j = k + 1 := by omega
        exact c
      · exact h2 j q
def rMinS (K : PySem.W.Frag) : List V → Hp → VK → Prop := fun vs H Q => ∃ (a : Addr) (zs : List Str), vs = [V.ref a] ∧ SqL K H a (zs.map V.str) ∧ zs ≠ [] ∧ ∀ z, z ∈ zs → (∀ y ∈ zs, ¬ y.cps.toList < z.cps.toList) → Q (.str z) H
theorem strs_at2 : ∀ {us : List Value} {zs : List Str} {i : Nat} {v : Value}, PyProof.Rows.StrsAre us zs → us[i]? = some v → ∃ t, v = Value.str (zs.getD i Str.empty) t
  | _, _, 0, v, .cons x k t, h => by
    simp at h
    exact ⟨k, by rw [← h]; rfl⟩
  | _, _, i + 1, v, .cons x k t, h => by
    obtain ⟨q, e⟩ := strs_at2 (i := i) t (by simpa using h)
    exact ⟨q, by rw [e]; rfl⟩
theorem cr_minS {X : Cx} (hc : X.calm = true) : CallR X (.builtin "min") (rMinS X.K) := by
  intro pins s σ H vs us Q I r h
  obtain ⟨a, zs, rfl, hs, hne, q⟩ := h
  obtain ⟨its, rv, hl, _⟩ := I.list hs
  rw [Vals.ref1 r]
  have hst := rv.strs
  have hh := I.ok.hd hc
  have len : its.length = zs.length := by have := rv.length; rw [List.length_map] at this; exact this.symm
  have pos : 0 < zs.length := List.length_pos_iff.mpr hne
  have hl := hl.isList
  have hlt : a < s.heap.objs.size := by obtain ⟨_, e, _⟩ := hl; exact Heap.lt_size e
  have hn : a ≠ s.heap.objs.size := Nat.ne_of_lt hlt
  apply call_min_walk
  apply wpAny_pyIter_list hl
  refine ⟨_, _, _, _, _, _, fun i j => decide ((zs.getD i Str.empty).cps.toList < (zs.getD j Str.empty).cps.toList), rfl, Walks.list (A := X.A.in1) hh s.heap.objs.size a hn its.toArray, ⟨⟨_, Heap.get?_push_size _ rfl, rfl, rfl⟩, hl.push _⟩, fun b hb => ?_, by simp [len]; exact pos, ?_, fun v h' tk hP hk => ?_⟩
  · show b < (s.heap.push _).objs.size
    rw [Heap.size_push]
    simp only [List.mem_cons, List.not_mem_nil, or_false] at hb
    rcases hb with rfl | rfl
    · exact Nat.lt_succ_self _
    · exact Nat.lt_succ_of_lt hlt
  · intro i j vi vj s2 Q2 E2 hi hj hQ
    obtain ⟨t, rfl⟩ := strs_at2 hst (by simpa using hi)
    obtain ⟨u, rfl⟩ := strs_at2 hst (by simpa using hj)
    exact PyProof.Rows.lt_str hQ
  · obtain ⟨b1, b2⟩ := best_min (fun i => zs.getD i Str.empty) (zs.length - 1)
    rw [show its.toArray.size - 1 = zs.length - 1 by rw [List.size_toArray, len]] at hP
    generalize argBest (fun i j => decide ((zs.getD i Str.empty).cps.toList < (zs.getD j Str.empty).cps.toList)) (zs.length - 1) = m at *
    obtain ⟨t, rfl⟩ := strs_at2 hst (by simpa using hP)
    have hm : m < zs.length := by omega
    have e : zs.getD m Str.empty = zs[m] := by simp [List.getD_eq_getElem?_getD, hm]
    refine ⟨.str (zs.getD m Str.empty), H, I.kept (t' := tk) fun b o ho => hk b o (fun z => ?_) (Heap.get?_push_of_some _ ho), ⟨t, rfl⟩, q _ (by rw [e]; exact List.getElem_mem hm) fun y my => ?_⟩
    · simp only [List.mem_cons, List.not_mem_nil, or_false] at z
      exact absurd (Heap.lt_size ho) (by rw [z]; exact Nat.lt_irrefl _)
    · obtain ⟨j, hj, rfl⟩ := List.mem_iff_getElem.mp my
      have := b2 j (by omega)
      simpa [List.getD_eq_getElem?_getD, hj] using this
/-! ### a class method called within a try -/
def tClsS (C : Addr) (sp : Sp) (E : L2.St → XK) (ta : TE) (t : TA) : TE := fun σ H Q => ta σ H fun x H1 => x = .ref C ∧ t σ H1 fun vs H2 => sp (.ref C :: vs) H2 Q (E σ)
theorem pe_owncS {X : Cx} {k : Nat} {C : Addr} {m : Str} {ps : List Str} {sp : Sp} {E : L2.St → XK} {pos apos : Pos} {e o : Expr} {es : List Expr} {ta : TE} {t : TA} {pl : Sem Bool} (O : OwnC X.prog X.w X.K X.mg X.base k C m ps sp) (he : PE X o ta) (hr : Room k X.A)
    (hx : ∀ σ, PassesAt (L2N.CX X.prog X.w) X σ (E σ)) (ha : PA X (e :: es) t)
    (hst : starEach (e :: es) X.env = (false, eval e X.env) :: starEach es X.env := by rfl) (hpl : (backTo pos (starEach es X.env)).any (·.1) = false := by rfl)
    (ht : eval (.Call (.Attribute o m apos) (e :: es) [] pos) X.env = (do
        let ov ← eval o X.env
        standAt apos.atName
        let (g, first) ← holding [ov] (getMethod ov m pl)
        callWith pos g first (backTo pos (starEach (e :: es) X.env)) (backToKw pos (keywordEach [] X.env))) := by rfl) :
    PE X (.Call (.Attribute o m apos) (e :: es) [] pos) (tClsS C sp E ta t) := by
  obtain ⟨f, fd, q, mc, F, r, c, hb⟩ := O.ex
  constructor
  intro pins s σ H Q I h
  apply PySem.W.methodCall_KW (pl := pl) ?_ ht
  apply thn (he.run pins s σ H _ I h)
  rintro u s1 ⟨x, H1, I1, rx, ex, q1⟩
  subst ex
  obtain rfl : u = Value.ref C := rx
  refine ClX.getmethcm_ok I1 r c fun s2 I2 => ?_
  refine ClX.callwith_cm I2 (ClX.base_none I1 (Nat.le_refl _)) c.fi (thn (ha.run pos _ s2 σ H1 _ I2 q1) ?_) hst hpl
  rintro us s3 ⟨vs, H2, I3, rv, q2⟩
  refine ⟨⟨ClX.pin_at I3, I3.kIn⟩, ?_⟩
  have r2 : Vals (V.ref C :: vs) (Value.ref C :: us) := .cons rfl rv
  have len : (Value.ref C :: us ++ []).length = ps.length := by
    have e := r2.length
    rw [F.len _ _ _ _ q2] at e
    rw [List.append_nil]
    exact e.symm
  have bt := hb s3 (Value.ref C :: us) I3.kIn len
  rw [List.append_nil] at bt
  have run := F.run X.A X.stack s3 H2 ⟨Value.ref C :: us, []⟩ (Value.ref C :: us) (V.ref C :: vs) Q (E σ) hr I3.env0 bt r2 q2
  refine thn (Q := EP X ((s1.heap.objs.size, PySem.W.methodObj (.ref f) (.ref C)) :: pins) σ Q) (wpAny_call (PySem.W.method_call (ClX.pin_at I3) (codeAny_mono run ?_))) fun _ _ y => ClX.unpinE y
  rintro (e | fl) s' hq
  · exact hx σ _ _ _ e s' I3 hq
  · cases fl with
    | ret u => exact I3.after hq
    | next => exact hq.elim
    | brk => exact hq.elim
    | cont => exact hq.elim
theorem neLF {K : PySem.W.Frag} {H : Hp} {p q : Addr} {vs : List V} {Q : VK} (hp : H p = some (.lst vs)) (hq : H q = some (.lst vs)) (h : vs.all fdB = true) (k : Q (.bl false) H) : rNeD K (.ref p) (.ref q) H Q := by
  obtain ⟨c, s⟩ := fd_tup (K := K) (H := H) h
  have d := (fd_all (K := K) (H := H) h).1
  have c' : (PyData.list (vs.map dat)).canLay0 = true := c
  have s' : SeqAt.shaped (PyData.list (vs.map dat)) = true := s
  refine ⟨_, _, .lst (SqL.of hp) d, .lst (SqL.of hq) d, s', s', ?_⟩
  rw [SeqAt.eqv_refl _ c']
  exact k
end Lo

set_option Elab.async false
set_option linter.all false
set_option maxRecDepth 100000
set_option maxHeartbeats 4000000
namespace Lo
open PySem PySem.Spec PyProof.Rows L2
/-! ### slices -/
theorem cut_from {xs : List V} {k : Nat} : cutV xs (some (k : Int)) none = xs.drop k := by
  unfold cutV
  rw [HT.sIx_nat, HT.sIx_none]
  by_cases h : k ≤ xs.length
  · rw [Nat.min_eq_left h, ← List.length_drop, List.take_length]
  · rw [Nat.min_eq_right (by omega), Nat.sub_self, List.take_zero, List.drop_eq_nil_of_le (by omega)]
theorem cut_to {xs : List V} {k : Nat} : cutV xs none (some (k : Int)) = xs.take k := by
  unfold cutV
  rw [HT.sIx_nat, HT.sIx_none, List.drop_zero, Nat.sub_zero]
  by_cases h : k ≤ xs.length
  · rw [Nat.min_eq_left h]
  · rw [Nat.min_eq_right (by omega), List.take_length, List.take_of_length_le (by omega)]
/-! ### dicts -/
theorem valV_drop {κ : Type} [DecidableEq κ] : ∀ {kvs : List (κ × V)} {k j : κ}, valV (dropK kvs k) j = if j = k then none else valV kvs j
  | [], k, j => by
    show valV ([] : List (κ × V)) j = _
    rw [valV_nil]
    split <;> rfl
  | (i, v) :: r, k, j => by
    have ih := valV_drop (kvs := r) (k := k) (j := j)
    by_cases c : i = k
    · rw [dropK_pos c, ih]
      by_cases q : j = k
      · rw [if_pos q, if_pos q]
      · rw [if_neg q, if_neg q]
        have n : ¬ i = j := fun e => q (by rw [← e, c])
        unfold valV
        simp [n]
    · rw [dropK_neg c]
      by_cases e : i = j
      · subst e
        rw [if_neg c]
        unfold valV
        simp
      · have a : valV ((i, v) :: dropK r k) j = valV (dropK r k) j := by unfold valV; simp [e]
        have b : valV ((i, v) :: r) j = valV r j := by unfold valV; simp [e]
        rw [a, b, ih]
/-- texts == [] -/
theorem eq_nilS {K : PySem.W.Frag} {H : Hp} {p q : Addr} {zs : List Str} {Q : VK} (hp : H p = some (.lst (zs.map V.str))) (hq : H q = some (.lst [])) (h : ∀ z ∈ zs, Lets z) (k : Q (.bl (decide (zs = []))) H) : rEqD K (.ref p) (.ref q) H Q := by
  obtain ⟨a, b⟩ := strs_lay h
  have c : (PyData.list (zs.map .str)).canLay0 = true := a
  have s : SeqAt.shaped (PyData.list (zs.map .str)) = true := by
    unfold SeqAt.shaped
    rw [c, Bool.true_and]
    refine decide_eq_true ?_
    show PyData.depthAll (zs.map .str) + 1 ≤ 64
    rw [b]
    decide
  refine ⟨_, _, .lst (SqL.of hp) strs_dp, .lst (SqL.of hq) .nil, s, by rfl, ?_⟩
  have e : PyData.eqv (.list (zs.map .str)) (.list []) = decide (zs = []) := by
    cases zs with
    | nil => rfl
    | cons z r => rfl
  rw [e]
  exact k
/-! ### fractions in order -/
def leQ (x y : Int × Int) : Prop := x.1 * y.2 ≤ y.1 * x.2
theorem nrm_lt {a b : Int} (h : 0 < b) : (nrm a b).1 < 0 ↔ a < 0 := by
  have c := nrm_cross (a := a) (b := b)
  have r := (nrm_red (a := a) (b := b) (by omega)).pos
  constructor
  · intro n
    have : (nrm a b).1 * b < 0 := Int.mul_neg_of_neg_of_pos n h
    rw [c] at this
    exact Int.not_le.mp fun q => absurd (Int.mul_nonneg q (Int.le_of_lt r)) (by omega)
  · intro n
    have : a * (nrm a b).2 < 0 := Int.mul_neg_of_neg_of_pos n r
    rw [← c] at this
    exact Int.not_le.mp fun q => absurd (Int.mul_nonneg q (Int.le_of_lt h)) (by omega)
theorem sub_lt {x y : Int × Int} (h : Red x.1 x.2) (k : Red y.1 y.2) : (addP x (mulP y (-1, 1))).1 < 0 ↔ ¬ leQ y x := by
  rw [mulP_neg k]
  unfold addP leQ
  rw [nrm_lt (Int.mul_pos h.pos k.pos)]
  show x.1 * y.2 + -y.1 * x.2 < 0 ↔ _
  rw [Int.neg_mul]
  omega
/-! ### a text in a list of texts -/
theorem inV_strs {z : Str} {ys : List Str} : inV (.str z) (ys.map V.str) = decide (z ∈ ys) := by
  unfold inV
  rw [List.any_map]
  rw [Bool.eq_iff_iff, List.any_eq_true, decide_eq_true_iff]
  constructor
  · rintro ⟨y, m, e⟩
    have e : (y == z) = true := e
    rw [beq_iff_eq] at e
    rw [← e]
    exact m
  · intro m
    exact ⟨z, m, show (z == z) = true from beq_self_eq_true z⟩
theorem flat_strs {ys : List Str} : (ys.map V.str).all flatV = true := by
  rw [List.all_map]
  exact List.all_eq_true.mpr fun _ _ => rfl
end Lo

set_option Elab.async false
set_option linter.all false
set_option maxRecDepth 100000
set_option maxHeartbeats 4000000
namespace Lo
open PySem PySem.Spec PyProof.Rows L2 L2H
/-! ### within an except suite: a list's iterator comes to its end -/
theorem list_end_hot {prog : Program} {w : World} {A : Around} {E : Value → Shared → Prop} {s : Shared} {it l x1 : Addr} {i : Nat} {items : Array Value} {Q : Option Value → Shared → Prop} (hot : HotX.HotAt A x1 s.heap) (ne : x1 ≠ it)
    (hit : s.heap.IsListIter it l i) (hl : s.heap.IsList l items) (over : items[i]? = none) (q : ∀ h', Heap.ExtBut it s.heap h' → Q none { s with heap := h' }) : wpAny (model prog w) A (pyNext (.ref it)) Q E s := by
  have ⟨handled, o1, vs1, e1, d1, c1⟩ := hot
  have ⟨o, ho, _, hd⟩ := hit
  have ⟨ol, hol, _, _, hdl⟩ := hl
  unfold pyNext
  apply wpAny_bind
  apply wpAny_attempt
  apply wpAny_callSpecial?_slot (name := Str.ofString "__next__") hit.typeIs slot_listiter_next
  apply wpAny_call_entry slot_listiter_next hit.typeIs entry_listiter_next ?_ (args_listiter_next _)
  show wpAny _ _ (field (.ref it) 0 >>= _) _ _ s
  apply wpAny_bind
  apply wpAny_field ho hd (x := .ref l) rfl
  show wpAny _ _ (if (Value.ref l == Value.none) = true then _ else _) _ _ s
  rw [if_neg (show ¬ ((Value.ref l == Value.none) = true) by exact Bool.false_ne_true)]
  show wpAny _ _ (field (.ref it) 1 >>= _) _ _ s
  apply wpAny_bind
  apply wpAny_field ho hd (x := .int i 0) rfl
  show wpAny _ _ (seqItems? (.ref l) >>= _) _ _ s
  apply wpAny_bind
  apply wpAny_seqItems hol hdl
  simp only [Int.toNat_natCast, over]
  apply wpAny_bind
  apply wpAny_rule
  apply wpAny_bind
  apply wpAny_setField ho hd (by simp)
  show wpAny _ _ (newExc (.type "StopIteration") [] >>= _) _ _ _
  apply wpAny_bind
  simp only [newExc, newTuple]
  apply wpAny_bind
  refine wpAny_newObj_type ?_ (by size_fits)
  refine wpAny_bind (m := firstArgMember _ _) (wpAny_of_eq (a := Value.none) (by first | rfl | (simp only [firstArgMember]; rfl)) ?_)
  refine wpAny_newObj_type ?_ (by size_fits)
  have e2 := (Heap.get?_update_other s.heap (Obj.mapFields (·.setIfInBounds 0 Value.none)) (Ne.symm ne)).trans e1
  refine HotX.raiseNew_hot ⟨handled, o1, vs1, Heap.get?_push_of_some _ (Heap.get?_push_of_some _ e2), d1, c1⟩ (Nat.ne_of_lt (Heap.lt_size (Heap.get?_push_of_some _ e2))) (Heap.get?_push_size _ rfl) rfl (by first | (simp; done) | (simp; omega) | (simp only [Array.size_append]; simp; omega)) ?_
  refine wpAny_bind (wpAny_isInstance (T := "StopIteration") (b := true) ⟨_, Heap.get?_update_self _ (Heap.get?_push_size _ rfl) rfl, rfl⟩ isSubtype_stop ?_)
  refine wpAny_pure (q _ fun b o2 nb eb => ?_)
  have e3 := (Heap.get?_update_other s.heap (Obj.mapFields (·.setIfInBounds 0 Value.none)) (Ne.symm nb)).trans eb
  rw [Heap.get?_update_other _ _ (Nat.ne_of_gt (Heap.lt_size (Heap.get?_push_of_some _ e3)))]
  exact Heap.get?_push_of_some _ (Heap.get?_push_of_some _ e3)
/-- the walk over a list while x1's exception is handled -/
theorem walk_hot {prog : Program} {w : World} {A : Around} {x1 : Addr} (handled : A.handled = some (.ref x1)) (I l : Addr) (nl : l ≠ I) (nx : x1 ≠ I) (items : Array Value) :
    Walks prog w A I [I, l, x1] [I] items.size (fun i v => items[i]? = some v) (fun i h => h.IsListIter I l i ∧ h.IsList l items ∧ HotX.HotAt A x1 h) where
  sub := fun b hb => by simp at hb; simp [hb]
  frame := fun _ _ _ ⟨a, b, c, o, vs, e, d, n⟩ k => ⟨a.at fun u z => k I (by simp) u z, b.at fun u z => k l (by simp) u z, c, o, vs, k x1 (by simp) o e, d, n⟩
  item := fun i s Q E lt ⟨a, b, c, o, vs, e, d, n⟩ q => by
    refine wpAny_pyNext_list_item a b (x := items[i]) (by simp [lt]) fun h' a' sb => ?_
    exact q _ h' s.toks (by simp [lt]) ⟨a', b.extBut sb.extBut nl, c, o, vs, sb.extBut x1 o nx e, d, n⟩ fun y u ny z => sb.extBut y u (fun g => ny (by simp [g])) z
  done := fun s Q E ⟨a, b, c⟩ q => list_end_hot c nx a b (by simp) fun h' eb => q h' s.toks fun y u ny z => eb y u (fun g => ny (by simp [g])) z
  self := fun _ _ _ _ st q => wpAny_pyIter_listiter st.1 q
/-! ### min of texts within an except suite -/
theorem cr_minH {X : Cx} (hc : HotC X) : CallR X (.builtin "min") (rMinS X.K) := by
  intro pins s σ H vs us Q I r h
  obtain ⟨a, zs, rfl, hs, hne, q⟩ := h
  obtain ⟨its, rv, hl, _⟩ := I.list hs
  rw [Vals.ref1 r]
  have hst := rv.strs
  obtain ⟨x1, hot⟩ := hc.at I
  obtain ⟨handled, o1, vs1, e1, d1, c1⟩ := hot
  have len : its.length = zs.length := by have := rv.length; rw [List.length_map] at this; exact this.symm
  have pos : 0 < zs.length := List.length_pos_iff.mpr hne
  have hl := hl.isList
  have hlt : a < s.heap.objs.size := by obtain ⟨_, e, _⟩ := hl; exact Heap.lt_size e
  have x1lt : x1 < s.heap.objs.size := Heap.lt_size e1
  have hn : a ≠ s.heap.objs.size := Nat.ne_of_lt hlt
  apply call_min_walk
  apply wpAny_pyIter_list hl
  refine ⟨_, _, _, _, _, _, fun i j => decide ((zs.getD i Str.empty).cps.toList < (zs.getD j Str.empty).cps.toList), rfl, walk_hot (A := X.A.in1) handled s.heap.objs.size a hn (Nat.ne_of_lt x1lt) its.toArray,
    ⟨⟨_, Heap.get?_push_size _ rfl, rfl, rfl⟩, hl.push _, handled, o1, vs1, Heap.get?_push_of_some _ e1, d1, c1⟩, fun b hb => ?_, by simp [len]; exact pos, ?_, fun v h' tk hP hk => ?_⟩
  · show b < (s.heap.push _).objs.size
    rw [Heap.size_push]
    simp only [List.mem_cons, List.not_mem_nil, or_false] at hb
    rcases hb with rfl | rfl | rfl
    · exact Nat.lt_succ_self _
    · exact Nat.lt_succ_of_lt hlt
    · exact Nat.lt_succ_of_lt x1lt
  · intro i j vi vj s2 Q2 E2 hi hj hQ
    obtain ⟨t, rfl⟩ := strs_at2 hst (by simpa using hi)
    obtain ⟨u, rfl⟩ := strs_at2 hst (by simpa using hj)
    exact PyProof.Rows.lt_str hQ
  · obtain ⟨b1, b2⟩ := best_min (fun i => zs.getD i Str.empty) (zs.length - 1)
    rw [show its.toArray.size - 1 = zs.length - 1 by rw [List.size_toArray, len]] at hP
    generalize argBest (fun i j => decide ((zs.getD i Str.empty).cps.toList < (zs.getD j Str.empty).cps.toList)) (zs.length - 1) = m at *
    obtain ⟨t, rfl⟩ := strs_at2 hst (by simpa using hP)
    have hm : m < zs.length := by omega
    have e : zs.getD m Str.empty = zs[m] := by simp [List.getD_eq_getElem?_getD, hm]
    refine ⟨.str (zs.getD m Str.empty), H, I.kept (t' := tk) fun b o ho => hk b o (fun z => ?_) (Heap.get?_push_of_some _ ho), ⟨t, rfl⟩, q _ (by rw [e]; exact List.getElem_mem hm) fun y my => ?_⟩
    · simp only [List.mem_cons, List.not_mem_nil, or_false] at z
      exact absurd (Heap.lt_size ho) (by rw [z]; exact Nat.lt_irrefl _)
    · obtain ⟨j, hj, rfl⟩ := List.mem_iff_getElem.mp my
      have := b2 j (by omega)
      simpa [List.getD_eq_getElem?_getD, hj] using this
/-! ### [str(x) for x in a list of texts] within an except suite -/
def tStrs (K : PySem.W.Frag) (ti : TE) : TE := fun σ H Q => ti σ H fun v H1 => ∃ (a : Addr) (zs : List Str), v = .ref a ∧ SqL K H1 a (zs.map V.str) ∧ zs.length ≤ 1000 ∧ ∀ D, H1 D = none → Q (.ref D) (upd H1 D (.lst (zs.map V.str)))
theorem vals_strs : ∀ {us : List Value} {zs : List Str}, us.length = zs.length → (∀ j, j < zs.length → ∃ t, us[j]? = some (Value.str (zs.getD j Str.empty) t)) → Vals (zs.map V.str) us
  | [], [], _, _ => .nil
  | u :: us, z :: zs, l, h => by
    obtain ⟨t, e⟩ := h 0 (by simp)
    obtain rfl : u = Value.str z t := by simpa using e
    exact .cons ⟨t, rfl⟩ (vals_strs (by simpa using l) fun j hj => by
      obtain ⟨t, e⟩ := h (j + 1) (by simpa using hj)
      exact ⟨t, by simpa using e⟩)
  | [], _ :: _, l, _ => by simp at l
  | _ :: _, [], l, _ => by simp at l
theorem pair_at {F : Value → Value → Prop} : ∀ {xs ys : List Value}, Paired F xs ys → ∀ (j : Nat) (x : Value), xs[j]? = some x → ∃ y, ys[j]? = some y ∧ F x y
  | _, _, .cons h t, 0, x, e => ⟨_, rfl, by simp at e; exact e ▸ h⟩
  | _, _, .cons h t, j + 1, x, e => by
    obtain ⟨y, a, b⟩ := pair_at t j x (by simpa using e)
    exact ⟨y, by simpa using a, b⟩
theorem pe_strsH {X : Cx} {K : PySem.W.Frag} (hK : X.K = K) (hc : HotC X) {x : Str} {iter : Expr} {scope : Scope} {px p1 p2 p3 pos : Pos} {ti : TE} (free : ∀ y ∈ scope.names, y.2 ≠ .free) (cell : ∀ y ∈ scope.names, y.2 ≠ .cell) (kind : scope.kind = .function)
    (names : ∀ y ∈ scope.names, y.2 = .local → scope.names.lookup y.1 = some .local) (lx : scope.names.lookup x = some .local) (gs : ∀ C, (compEnv scope C X.env).kindOf "str" = some .globalImplicit) (ls : ∀ C, (compEnv scope C X.env).kindOf x = some .local)
    (hm : X.mg "str" = none) (he : PE X iter ti) (dbx : (x == ("__debug__" : Str)) = false := by decide) (hs : ∀ v, foldedSetIterable iter X.env v = pure v := by intro _; rfl) :
    PE X (.ListComp (.Call (.Name "str" p1) [.Name x p2] [] p3) [⟨.Name x px, iter, [], 0⟩] scope pos) (tStrs K ti) := by
  subst hK
  constructor
  intro pins s σ H Q I h
  apply wpAny_ListComp_walk (fun _ => true) (fun v y => ∃ z t, v = Value.str z t ∧ y = Value.str z t) free cell kind names lx ?_ hs
  apply thn (he.run pins s σ H _ I h)
  rintro u s1 ⟨v, H1, I1, r1, a, zs, rfl, sq, small, q⟩
  obtain rfl : u = .ref a := r1
  obtain ⟨its, rv, hl, _⟩ := I1.list sq
  have hl := hl.isList
  have hst := rv.strs
  obtain ⟨x1, handled, o1, vs1, e1, d1, c1⟩ := hc.at I1
  have len : its.length = zs.length := by have := rv.length; rw [List.length_map] at this; exact this.symm
  have hlt : a < s1.heap.objs.size := by obtain ⟨_, e, _⟩ := hl; exact Heap.lt_size e
  have x1lt : x1 < s1.heap.objs.size := Heap.lt_size e1
  have off : ∀ {b : Addr} {o : Obj}, s1.heap.get? b = some o → b ∉ [s1.heap.objs.size] := fun {b o} e m => by
    have z : b = s1.heap.objs.size := by simpa using m
    exact absurd (Heap.lt_size e) (by rw [z]; exact Nat.lt_irrefl _)
  apply wpAny_pyIter_list hl
  refine ⟨_, _, _, _, _, _, rfl, walk_hot handled s1.heap.objs.size a (Nat.ne_of_lt hlt) (Nat.ne_of_lt x1lt) its.toArray, by simp [len, sizeLine_eq]; omega,
    ⟨⟨_, Heap.get?_push_size _ rfl, rfl, rfl⟩, hl.push _, handled, o1, vs1, Heap.get?_push_of_some _ e1, d1, c1⟩, fun b hb => ?_, ⟨?_, ?_⟩, ?_⟩
  · show b < (s1.heap.push _).objs.size
    rw [Heap.size_push]
    simp only [List.mem_cons, List.not_mem_nil, or_false] at hb
    rcases hb with rfl | rfl | rfl
    · exact Nat.lt_succ_self _
    · exact Nat.lt_succ_of_lt hlt
    · exact Nat.lt_succ_of_lt x1lt
  · intro C i v s3 m3 E' _ _ _ _ _
    exact wpAny_pure ⟨rfl, ⟨s3.heap, s3.toks, rfl, fun _ _ e => e⟩⟩
  · intro C i v s3 m3 E' hP _ ns mx keep _
    obtain ⟨t, rfl⟩ := strs_at2 hst (by simpa using hP)
    have bk : X.base.StaysIn s3.heap := fun b o e => keep b o (off (I1.bk b o e)) (Heap.get?_push_of_some _ (I1.bk b o e))
    obtain ⟨mb, h1, h2⟩ := I1.ok.mod.blt
    refine wpAny_Call_Name_kw ?_
    refine Calls.Name_function_global (env := compEnv scope C X.env) kind (gs C) ?_
    apply Calls.loadGlobal_builtin (by show s3.heap.Ns X.env.globals _; rw [I1.ok.glob]; exact I1.ok.mod.glob.keeps bk) hm (by show s3.heap.Ns X.env.builtins _; rw [I1.ok.blt]; exact h1.keeps bk) ((h2 "str" (by decide)).trans PySem.Pv.boot_str)
    refine PyProof.Rows.callWith_type1 ?_
    apply Calls.spliced_cons
    apply wpAny_Name ?_ dbx
    apply wpAny_loadName_local (env := compEnv scope C X.env) kind (ls C) ns mx
    apply Calls.spliced_nil
    exact PySem.P.str_of_str ⟨⟨_, _, rfl, rfl⟩, ⟨s3.heap, s3.toks, rfl, fun _ _ e => e⟩⟩
  · intro D h' tk ys vs nD _ ⟨n, pl⟩ hlen hP hF hk
    have nD1 : s1.heap.get? D = none := by
      cases z : s1.heap.get? D with
      | none => rfl
      | some o => rw [Heap.get?_push_of_some _ z] at nD; cases nD
    have hn := I1.hok.gone nD1
    have vs' : vs.filter (fun _ => true) = vs := List.filter_eq_self.mpr fun _ _ => rfl
    rw [vs'] at hF
    have hval : Vals (zs.map V.str) ys.toList := vals_strs (by rw [← hF.length, hlen, List.size_toArray, len]) fun j hj => by
      have hjv : j < vs.length := by rw [hlen, List.size_toArray, len]; exact hj
      obtain ⟨y, ey, z, t, e1, e2⟩ := pair_at hF j vs[j] (by simp [hjv])
      obtain ⟨t2, e3⟩ := strs_at2 hst (i := j) (v := vs[j]) (by simpa using hP j vs[j] (by simp [hjv]))
      rw [e1] at e3
      cases e3
      exact ⟨t, by rw [ey, e2]⟩
    refine ⟨.ref D, _, I1.laidN (t' := tk) (o := .lst (zs.map V.str)) (fun b o e => hk b o (off e) (Heap.get?_push_of_some _ e)) nD1 hn ⟨by rw [List.length_map, sizeLine_eq]; omega, ys.toList, n, hval, pl⟩, rfl, q D hn⟩
theorem hot_suite {X : Cx} {a : Addr} {oe : Obj} {cls : Value} {d : Option Addr} (hA : X.A.handled = some (.ref a)) (hp : (a, oe) ∈ X.pn) (hz : L2N.Zn cls d oe) (hf : ∃ vs, oe.data = .fields vs) : HotC X :=
  ⟨(a, oe), ⟨hA, hf.elim fun vs e => ⟨vs, e, hz.2.2 vs e⟩⟩, hp⟩
end Lo

set_option Elab.async false
set_option linter.all false
set_option maxRecDepth 100000
set_option maxHeartbeats 4000000
/-! LoB9: lcm; one common bottom; cents dealt out; lists that are not equal. -/
namespace Lo
open PySem PySem.Spec PyProof.Rows L2
/-! ### lcm -/
def rLcm : List V → Hp → VK → Prop := fun vs H Q => ∃ a b : Int, vs = [.int a, .int b] ∧ Sz 8000 a ∧ Sz 8000 b ∧ Sz 8000 ((Nat.lcm a.natAbs b.natAbs : Nat) : Int) ∧ Q (.int ((Nat.lcm a.natAbs b.natAbs : Nat) : Int)) H
theorem cr_lcm {X : Cx} : CallR X (.builtin "math.lcm") rLcm := by
  intro pins s σ H vs us Q I r h
  obtain ⟨a, b, rfl, ha, hb, hc, q⟩ := h
  obtain ⟨t, u, rfl⟩ := Vals.int2 r
  have h1 : (max 1 a.natAbs).log2 < 8000 := PySem.Flt.log2_lt_of (by decide) (Nat.max_lt.mpr ⟨Nat.one_lt_two_pow (by decide), ha⟩)
  have h2 : (max a.natAbs b.natAbs).log2 < 8000 := PySem.Flt.log2_lt_of (by decide) (Nat.max_lt.mpr ⟨ha, hb⟩)
  have e1 : Nat.lcm 1 a.natAbs = a.natAbs := Nat.lcm_one_left _
  have h3 : ((Nat.lcm a.natAbs b.natAbs : Nat) : Int).natAbs.log2 < 8000 := PySem.Flt.log2_lt_of (by decide) hc
  have h4 : (8000 : Nat) ≤ bitsLine := by rw [PySem.bitsLine_eq]; decide
  have g := PySem.W.mg_run_lcm a t b u (by omega) (by omega) (by rw [e1]; omega)
  rw [e1] at g
  exact call_function_meets PySem.W.MGF.kind_lcm PySem.W.MGF.plain_lcm PySem.W.MGF.entry_lcm (PySem.W.MGF.args_lcm _ _) g.meets ⟨.int _, H, I.tok _, ⟨_, rfl⟩, q⟩
/-- the least common bottom -/
def lcmL (fs : List (Int × Int)) : Nat := fs.foldl (fun b f => Nat.lcm b f.2.natAbs) 1
theorem lcmL_snoc {fs : List (Int × Int)} {f : Int × Int} : lcmL (fs ++ [f]) = Nat.lcm (lcmL fs) f.2.natAbs := by
  unfold lcmL
  rw [List.foldl_append]
  rfl
theorem lcmG_dvd (fs : List (Int × Int)) : ∀ b : Nat, b ∣ fs.foldl (fun b f => Nat.lcm b f.2.natAbs) b ∧ ∀ f ∈ fs, f.2.natAbs ∣ fs.foldl (fun b f => Nat.lcm b f.2.natAbs) b := by
  induction fs with
  | nil => exact fun b => ⟨Nat.dvd_refl _, fun f m => nomatch m⟩
  | cons g fs ih =>
    intro b
    obtain ⟨h1, h2⟩ := ih (Nat.lcm b g.2.natAbs)
    refine ⟨Nat.dvd_trans (Nat.dvd_lcm_left _ _) h1, fun f m => ?_⟩
    rcases List.mem_cons.mp m with rfl | m
    · exact Nat.dvd_trans (Nat.dvd_lcm_right _ _) h1
    · exact h2 f m
theorem lcmL_dvd {fs : List (Int × Int)} {f : Int × Int} (m : f ∈ fs) : f.2.natAbs ∣ lcmL fs := (lcmG_dvd fs 1).2 f m
theorem lcmL_take {fs : List (Int × Int)} (i : Nat) : lcmL (fs.take i) ∣ lcmL fs := by
  have e : lcmL fs = (fs.drop i).foldl (fun b f => Nat.lcm b f.2.natAbs) (lcmL (fs.take i)) := by
    unfold lcmL
    rw [← List.foldl_append, List.take_append_drop]
  rw [e]
  exact (lcmG_dvd _ _).1
theorem lcmG_pos (fs : List (Int × Int)) : ∀ b : Nat, 0 < b → (∀ f ∈ fs, 0 < f.2) → 0 < fs.foldl (fun b f => Nat.lcm b f.2.natAbs) b := by
  induction fs with
  | nil => exact fun b h _ => h
  | cons g fs ih =>
    intro b hb h
    have := h g List.mem_cons_self
    exact ih _ (Nat.lcm_pos hb (by omega)) fun f m => h f (List.mem_cons_of_mem _ m)
theorem lcmL_pos {fs : List (Int × Int)} (h : ∀ f ∈ fs, 0 < f.2) : 0 < lcmL fs := lcmG_pos fs 1 (by decide) h
theorem dvd_sz {n : Nat} {a b : Nat} (h : a ∣ b) (hb : 0 < b) (z : Sz n (b : Int)) : Sz n (a : Int) := by
  have l := Nat.le_of_dvd hb h
  exact z.le (by omega)
/-- all tops over the common bottom -/
def topsL (fs : List (Int × Int)) : List Int := fs.map fun f => f.1 * ((lcmL fs : Int) / f.2)
theorem topsL_len {fs : List (Int × Int)} : (topsL fs).length = fs.length := by simp [topsL]
theorem part_pos {fs : List (Int × Int)} (h : ∀ f ∈ fs, 0 < f.2) {f : Int × Int} (m : f ∈ fs) : 0 < (lcmL fs : Int) / f.2 := by
  have h1 := lcmL_dvd m
  have h2 := lcmL_pos h
  have h3 := h f m
  obtain ⟨c, hc⟩ := h1
  have e : (lcmL fs : Int) = f.2 * c := by
    rw [hc]
    push_cast
    congr 1
    omega
  rw [e, Int.mul_ediv_cancel_left _ (by omega)]
  rcases Nat.eq_zero_or_pos c with z | z
  · rw [z] at hc
    omega
  · omega
theorem part_sz {n : Nat} {fs : List (Int × Int)} (h : ∀ f ∈ fs, 0 < f.2) (z : Sz n (lcmL fs : Int)) {f : Int × Int} (m : f ∈ fs) : Sz n ((lcmL fs : Int) / f.2) := by
  refine z.le ?_
  have h1 := part_pos h m
  have h2 := lcmL_pos h
  have h3 : (lcmL fs : Int) / f.2 ≤ lcmL fs := Int.ediv_le_self _ (by omega)
  omega
/-! ### nearest, and what is dealt -/
def near (c w T : Int) : Int := (2 * c * w + T) / (2 * T)
theorem near_nrm {c w T : Int} (h : 0 < T) : (2 * (nrm (c * w) T).1 + (nrm (c * w) T).2) / (2 * (nrm (c * w) T).2) = near c w T := by
  have e1 := nrm_a (a := c * w) (b := T)
  have e2 := nrm_b (a := c * w) (b := T)
  have p := (nrm_red (a := c * w) (b := T) (by omega)).pos
  have gp : 0 < nrmC (c * w) T := by
    rcases Int.lt_or_le 0 (nrmC (c * w) T) with h1 | h1
    · exact h1
    · have := Int.mul_nonpos_of_nonneg_of_nonpos (Int.le_of_lt p) h1
      omega
  generalize nrmC (c * w) T = g at *
  generalize (nrm (c * w) T).1 = t at *
  generalize (nrm (c * w) T).2 = b at *
  unfold near
  have f1 : 2 * c * w + T = g * (2 * t + b) := by rw [Int.mul_assoc, ← e1, ← e2, Int.mul_add]; ac_rfl
  have f2 : 2 * T = g * (2 * b) := by rw [← e2]; ac_rfl
  rw [f1, f2, Int.mul_ediv_mul_of_pos _ _ gp]
theorem near_zero {c T : Int} (h : 0 < T) : near c 0 T = 0 := by
  unfold near
  rw [Int.mul_zero, Int.zero_add]
  exact Int.ediv_eq_zero_of_lt (by omega) (by omega)
theorem near_all {c T : Int} (h : 0 < T) : near c T T = c := by
  unfold near
  have e : 2 * c * T + T = T + c * (2 * T) := by rw [Int.add_comm, Int.mul_comm 2 c, Int.mul_assoc]
  rw [e, Int.add_mul_ediv_right _ _ (by omega), Int.ediv_eq_zero_of_lt (by omega) (by omega), Int.zero_add]
theorem near_between {c w T : Int} (h : 0 < T) : -T < 2 * (near c w T * T - c * w) ∧ 2 * (near c w T * T - c * w) ≤ T := by
  have h1 := Int.emod_nonneg (2 * c * w + T) (show 2 * T ≠ 0 by omega)
  have h2 := Int.emod_lt_of_pos (2 * c * w + T) (show 0 < 2 * T by omega)
  have h3 := Int.mul_ediv_add_emod (2 * c * w + T) (2 * T)
  unfold near
  generalize (2 * c * w + T) % (2 * T) = r at *
  generalize (2 * c * w + T) / (2 * T) = q at *
  have e : 2 * T * q = 2 * (q * T) := by rw [Int.mul_assoc, Int.mul_comm T q]
  have e2 : 2 * c * w = 2 * (c * w) := Int.mul_assoc _ _ _
  rw [e, e2] at h3
  omega
/-- the sum of the first ones -/
def sumT (ws : List Int) (k : Nat) : Int := (ws.take k).sum
theorem sumT_zero {ws : List Int} : sumT ws 0 = 0 := rfl
theorem sumT_succ {ws : List Int} {k : Nat} {x : Int} (h : ws[k]? = some x) : sumT ws (k + 1) = sumT ws k + x := by
  unfold sumT
  rw [List.take_add_one, h]
  simp
theorem sumT_all {ws : List Int} : sumT ws ws.length = ws.sum := by
  unfold sumT
  rw [List.take_length]
def partOf (c T : Int) (ws : List Int) (k : Nat) : Int := near c (sumT ws (k + 1)) T - near c (sumT ws k) T
def dealtL (c T : Int) (ws : List Int) : List Int := (List.range ws.length).map (partOf c T ws)
theorem dealtL_len {c T : Int} {ws : List Int} : (dealtL c T ws).length = ws.length := by simp [dealtL]
theorem dealtL_get {c T : Int} {ws : List Int} {k : Nat} (h : k < ws.length) : (dealtL c T ws)[k]? = some (partOf c T ws k) := by
  unfold dealtL
  rw [List.getElem?_map, List.getElem?_range h]
  rfl
theorem part_near {c T : Int} {ws : List Int} {k : Nat} {x : Int} (h : 0 < T) (hx : ws[k]? = some x) : (partOf c T ws k * T - c * x).natAbs < T := by
  obtain ⟨a1, a2⟩ := near_between (c := c) (w := sumT ws (k + 1)) h
  obtain ⟨b1, b2⟩ := near_between (c := c) (w := sumT ws k) h
  rw [sumT_succ hx] at a1 a2
  unfold partOf
  rw [sumT_succ hx]
  generalize near c (sumT ws k + x) T = m at *
  generalize near c (sumT ws k) T = n at *
  rw [Int.mul_add] at a1 a2
  rw [Int.sub_mul]
  generalize c * sumT ws k = u at *
  generalize c * x = v at *
  generalize m * T = p at *
  generalize n * T = q at *
  omega
/-- no proportion -/
def BadA (fs : List (Int × Int)) : Prop := (topsL fs).sum = 0 ∨ ∃ t ∈ topsL fs, t < 0
theorem bad_neg {fs : List (Int × Int)} (h : ∀ f ∈ fs, 0 < f.2) {f : Int × Int} (m : f ∈ fs) (n : f.1 < 0) : BadA fs :=
  .inr ⟨_, List.mem_map.mpr ⟨f, m, rfl⟩, Int.mul_neg_of_neg_of_pos n (part_pos h m)⟩
theorem bad_zero {fs : List (Int × Int)} (h : ∀ f ∈ fs, f.1 = 0) : BadA fs := by
  refine .inl ?_
  have e : topsL fs = fs.map fun _ => (0 : Int) := List.map_congr_left fun f m => by rw [h f m, Int.zero_mul]
  rw [e]
  clear h e
  induction fs with
  | nil => rfl
  | cons f fs ih =>
    rw [List.map_cons, List.sum_cons, Int.zero_add]
    exact ih
theorem sum_nonneg : ∀ {ws : List Int}, (∀ w ∈ ws, 0 ≤ w) → 0 ≤ ws.sum
  | [], _ => Int.le_refl _
  | w :: ws, h => by
    rw [List.sum_cons]
    have h1 := h w List.mem_cons_self
    have h2 := sum_nonneg fun v m => h v (List.mem_cons_of_mem w m)
    omega
theorem not_bad {fs : List (Int × Int)} (h : ¬ BadA fs) : (∀ t ∈ topsL fs, 0 ≤ t) ∧ 0 < (topsL fs).sum := by
  have h1 : ∀ t ∈ topsL fs, 0 ≤ t := fun t m => Int.not_lt.mp fun n => h (.inr ⟨t, m, n⟩)
  have h2 := sum_nonneg h1
  have h3 : (topsL fs).sum ≠ 0 := fun n => h (.inl n)
  exact ⟨h1, by omega⟩
theorem sum_sz {n : Nat} : ∀ {ws : List Int} {k : Nat}, (∀ w ∈ ws, Sz n w) → ws.length ≤ k → Sz (n + k) ws.sum
  | [], k, _, _ => show (0 : Int).natAbs < 2 ^ (n + k) from Nat.two_pow_pos _
  | w :: ws, 0, _, l => by simp at l
  | w :: ws, k + 1, h, l => by
    rw [List.sum_cons]
    have h1 := h w List.mem_cons_self
    have h2 := sum_sz (k := k) (fun v m => h v (List.mem_cons_of_mem w m)) (by simpa using l)
    exact (h1.mono (Nat.le_add_right n k)).add' h2
theorem sumT_sz {n : Nat} {ws : List Int} {k : Nat} (h : ∀ w ∈ ws, Sz n w) (l : ws.length ≤ k) (i : Nat) : Sz (n + k) (sumT ws i) := by
  unfold sumT
  refine sum_sz (fun w m => h w (List.mem_of_mem_take m)) ?_
  rw [List.length_take]
  omega
/-! ### lists that are compared item by item -/
/-- what == says of two values: flat ones by their worth, an object is itself -/
def EqB (x y : V) (b : Bool) : Prop := (flatV x = true ∧ flatV y = true ∧ eqV x y = b) ∨ ∃ a, x = .ref a ∧ y = .ref a ∧ b = true
def rNeL : R2 := fun x y H Q => ∃ (a b : Addr) (xs ys : List V) (e : Nat → Bool), x = .ref a ∧ y = .ref b ∧ H a = some (.lst xs) ∧ H b = some (.lst ys) ∧ xs.length = ys.length ∧ (∀ i x y, xs[i]? = some x → ys[i]? = some y → EqB x y (e i)) ∧ Q (.bl (!(List.range xs.length).all e)) H
theorem eqB_at {A : Around} {s : Shared} {x y : V} {u v : Value} {b : Bool} (h : EqB x y b) (r : RelV x u) (q : RelV y v) : SeqAt.EqAt A s u v b := by
  rcases h with ⟨fx, fy, e⟩ | ⟨a, rfl, rfl, rfl⟩
  · have z := eqAt_V (A := A) (s := s) r q fx fy
    rw [e] at z
    exact z
  · cases r
    cases q
    exact SeqAt.EqAt.same (.ref a)
theorem op_neL {X : Cx} (hu : X.A.units < cLine) : OpR X (compareOp .NotEq) rNeL := by
  intro pins s σ H x y v u Q I rx ry ⟨a, b, xs, ys, e, ex, ey, ha, hb, hl, he, q⟩
  subst ex ey
  cases (show v = Value.ref a from rx)
  cases (show u = Value.ref b from ry)
  obtain ⟨z, its, k, r, e1⟩ := I.hok a _ ha
  obtain ⟨z2, its2, k2, r2, e2⟩ := I.hok b _ hb
  have l1 : its.toArray.size = xs.length := by rw [List.size_toArray, ← r.length]
  have l2 : its2.toArray.size = xs.length := by rw [List.size_toArray, ← r2.length, hl]
  refine SeqAt.RcNeAt.lists (A := X.A) (e := e) ⟨_, e1, rfl, _, rfl⟩ ⟨_, e2, rfl, _, rfl⟩ (by rw [l1, l2]) hu (fun j h1 h2 => ?_) X.prog X.w X.xe _ ⟨.bl _, H, I, rfl, by rw [l1]; exact q⟩
  have k1 : j < xs.length := by rw [← l1]; exact h1
  have k2 : j < ys.length := by rw [← hl]; exact k1
  have g1 : its[j]? = some its.toArray[j] := by
    have h1' : j < its.length := by simpa using h1
    rw [List.getElem?_eq_getElem h1'] <;> simp
  have g2 : its2[j]? = some its2.toArray[j] := by
    have h2' : j < its2.length := by simpa using h2
    rw [List.getElem?_eq_getElem h2'] <;> simp
  obtain ⟨u, hu, ru⟩ := r.get (List.getElem?_eq_getElem k1)
  obtain ⟨v, hv, rv⟩ := r2.get (List.getElem?_eq_getElem k2)
  rw [g1] at hu
  rw [g2] at hv
  rw [Option.some.inj hu, Option.some.inj hv]
  exact eqB_at (he j _ _ (List.getElem?_eq_getElem k1) (List.getElem?_eq_getElem k2)) ru rv
/-- a list and its copy -/
theorem neCopy {H : Hp} {a b : Addr} {xs : List V} {Q : VK} (ha : H a = some (.lst xs)) (hb : H b = some (.lst xs)) (h : ∀ x ∈ xs, (∃ i, x = .int i) ∨ ∃ p, x = .ref p) (k : Q (.bl false) H) : rNeL (.ref a) (.ref b) H Q := by
  refine ⟨a, b, xs, xs, fun _ => true, rfl, rfl, ha, hb, rfl, fun i x y h1 h2 => ?_, ?_⟩
  · rw [h1] at h2
    cases h2
    rcases h x (List.mem_of_getElem? h1) with ⟨i, rfl⟩ | ⟨p, rfl⟩
    · exact .inl ⟨rfl, rfl, by simp [eqV]⟩
    · exact .inr ⟨p, rfl, rfl, rfl⟩
  · have e : (List.range xs.length).all (fun _ => true) = true := by simp
    rw [e]
    exact k
/-! ### amounts as the law draws them -/
def Amt (f : Int × Int) : Prop := Red f.1 f.2 ∧ 0 ≤ f.1 ∧ Sz 70 f.1 ∧ f.2 ≤ 100
def AmtAt (H : Hp) (x : V) (f : Int × Int) : Prop := ∃ t, x = .ref t ∧ H t = some (.tup [.int f.1, .int f.2])
theorem AmtAt.same {H H' : Hp} {x : V} {f : Int × Int} (h : AmtAt H x f) (s : Same H H') : AmtAt H' x f := let ⟨t, e, q⟩ := h; ⟨t, e, s _ _ q⟩
theorem AmtAt.put {H H' : Hp} {x : V} {f : Int × Int} {c : Addr} {xs : List V} (h : AmtAt H x f) (e : H c = some (.lst xs)) (k : Keep c H H') : AmtAt H' x f := let ⟨t, e1, q⟩ := h; ⟨t, e1, tput q e k⟩
theorem NumV.put {ca : Nat → Addr} {H H' : Hp} {x : V} {a b : Int} {c : Addr} {xs : List V} (h : NumV ca H x a b) (e : H c = some (.lst xs)) (k : Keep c H H') : NumV ca H' x a b := h.keep e (fun _ _ _ z => nomatch z) k
def Handed (ca : Nat → Addr) (H : Hp) : List V → List (Int × Int) → Prop := Paired fun x f => NumV ca H x f.1 f.2
theorem Handed.same {ca : Nat → Addr} {H H' : Hp} {xs : List V} {fs : List (Int × Int)} (h : Handed ca H xs fs) (s : Same H H') : Handed ca H' xs fs := Paired.mapP h fun _ _ n => n.same s
theorem Handed.put {ca : Nat → Addr} {H H' : Hp} {xs ys : List V} {fs : List (Int × Int)} {c : Addr} (h : Handed ca H xs fs) (e : H c = some (.lst ys)) (k : Keep c H H') : Handed ca H' xs fs := Paired.mapP h fun _ _ n => n.put e k
theorem Handed.plain {ca : Nat → Addr} {H : Hp} {xs : List V} {fs : List (Int × Int)} (h : Handed ca H xs fs) : ∀ x ∈ xs, (∃ i, x = .int i) ∨ ∃ p, x = .ref p := fun x m => by
  obtain ⟨i, hi⟩ := List.getElem?_of_mem m
  have l := h.length
  have li := (List.getElem?_eq_some_iff.mp hi).1
  have hf : fs[i]? = some (fs[i]'(by omega)) := List.getElem?_eq_getElem (by omega)
  rcases paired_get h hi hf with ⟨e, _⟩ | ⟨p, e, _⟩
  · exact .inl ⟨_, e⟩
  · exact .inr ⟨p, e⟩
theorem paired_app {α β : Type} {F : α → β → Prop} : ∀ {a b : List α} {c d : List β}, Paired F a c → Paired F b d → Paired F (a ++ b) (c ++ d)
  | _, _, _, _, .nil, h => h
  | _, _, _, _, .cons r t, h => .cons r (paired_app t h)
theorem paired_take {α β : Type} {F : α → β → Prop} : ∀ {a : List α} {c : List β} (n : Nat), Paired F a c → Paired F (a.take n) (c.take n)
  | _, _, 0, _ => .nil
  | _, _, _ + 1, .nil => .nil
  | _, _, n + 1, .cons r t => .cons r (paired_take n t)
theorem paired_drop {α β : Type} {F : α → β → Prop} : ∀ {a : List α} {c : List β} (n : Nat), Paired F a c → Paired F (a.drop n) (c.drop n)
  | _, _, 0, h => h
  | _, _, _ + 1, .nil => .nil
  | _, _, n + 1, .cons r t => paired_drop n t
theorem amt_lcm {fs : List (Int × Int)} (h : ∀ f ∈ fs, 0 < f.2 ∧ f.2 ≤ 1000) (l : fs.length ≤ 20) : Sz 2000 (lcmL fs : Int) := by
  have g : ∀ (fs : List (Int × Int)) (b n : Nat), (∀ f ∈ fs, 0 < f.2 ∧ f.2 ≤ 1000) → b ≤ 1024 ^ n → fs.foldl (fun b f => Nat.lcm b f.2.natAbs) b ≤ 1024 ^ (n + fs.length) := by
    intro fs
    induction fs with
    | nil => exact fun b n _ h => h
    | cons f fs ih =>
      intro b n hf hb
      have h1 := hf f List.mem_cons_self
      have h2 : Nat.lcm b f.2.natAbs ≤ b * f.2.natAbs := by
        unfold Nat.lcm
        exact Nat.div_le_self _ _
      have h3 : b * f.2.natAbs ≤ 1024 ^ n * 1024 := Nat.mul_le_mul hb (by omega)
      have h4 := ih (Nat.lcm b f.2.natAbs) (n + 1) (fun g m => hf g (List.mem_cons_of_mem _ m)) (by rw [Nat.pow_succ]; omega)
      rw [List.length_cons, Nat.add_comm fs.length 1, ← Nat.add_assoc]
      exact h4
  have h1 := g fs 1 0 h (by decide)
  have h2 : 1024 ^ (0 + fs.length) ≤ 1024 ^ 20 := Nat.pow_le_pow_right (by decide) (by omega)
  have h3 : (1024 : Nat) ^ 20 < 2 ^ 2000 := by
    have e : (1024 : Nat) = 2 ^ 10 := by decide
    rw [e, ← Nat.pow_mul]
    exact Nat.pow_lt_pow_right (by decide) (by decide)
  unfold Sz
  rw [Int.natAbs_natCast]
  exact Nat.lt_of_le_of_lt h1 (Nat.lt_of_le_of_lt h2 h3)
/-- few amounts with small bottoms -/
structure Ok20 (fs : List (Int × Int)) : Prop where
  len : fs.length ≤ 20
  all : ∀ f ∈ fs, Sz 100 f.1 ∧ 0 < f.2 ∧ f.2 ≤ 1000
theorem Ok20.a {fs : List (Int × Int)} (h : Ok20 fs) : ∀ f ∈ fs, Sz 2000 f.1 ∧ 0 < f.2 := fun f m => ⟨(h.all f m).1.mono, (h.all f m).2.1⟩
theorem Ok20.l {fs : List (Int × Int)} (h : Ok20 fs) : Sz 2000 (lcmL fs : Int) := amt_lcm (fun f m => (h.all f m).2) h.len
theorem Ok20.n {fs : List (Int × Int)} (h : Ok20 fs) : fs.length ≤ 1000 := by have := h.len; omega
theorem lt_sz {n m : Nat} {z : Int} (h : z.natAbs < 2 ^ n) (l : n ≤ m := by decide) : Sz m z := Sz.mono (n := n) h l
theorem Ok20.snoc {fs : List (Int × Int)} {f : Int × Int} (h : Ok20 fs) (l : fs.length < 20) (z : f.1.natAbs < 2 ^ 100) (p : 0 < f.2) (q : f.2 ≤ 1000) : Ok20 (fs ++ [f]) :=
  ⟨by rw [List.length_append]; simp; omega, fun g m => by
    rcases List.mem_append.mp m with m | m
    · exact h.all g m
    · rw [List.mem_singleton.mp m]
      exact ⟨z, p, q⟩⟩
theorem Ok20.cons {fs : List (Int × Int)} {f : Int × Int} (h : Ok20 fs) (l : fs.length < 20) (z : f.1.natAbs < 2 ^ 100) (p : 0 < f.2) (q : f.2 ≤ 1000) : Ok20 ([f] ++ fs) :=
  ⟨by rw [List.length_append]; simp; omega, fun g m => by
    rcases List.mem_append.mp m with m | m
    · rw [List.mem_singleton.mp m]
      exact ⟨z, p, q⟩
    · exact h.all g m⟩
end Lo

set_option Elab.async false
set_option linter.all false
set_option maxRecDepth 100000
set_option maxHeartbeats 4000000
/-! LoB10: own [], []=, in, len; sorted of a dict whose keys are tuples of ints. -/
namespace Lo
open PySem PySem.Spec PyProof.Rows L2
section
variable {X : Cx} {k : Nat} {C : Addr} {ps : List Str} {sp : Sp}
theorem fn_get {K : PySem.W.Frag} {C f g : Addr} {m : Str} (h1 : PySem.W.findIn K (.ref C) m = some (some (.ref g))) (h2 : PySem.W.fnIn K g = true) (h : PySem.W.findIn K (.ref C) m = some (some (.ref f))) : PySem.W.fnIn K f = true := by
  rw [h1] at h
  cases h
  exact h2
theorem passOf {E : XK} (h : ∀ σ, PassesAt (L2N.CX X.prog X.w) X σ E) : Passes (L2N.CX X.prog X.w) X E := fun pins σ => h σ pins
/-- o[i], o an instance with an own __getitem__ -/
def tIxOwn (C : Addr) (sp : Sp) (E : L2.St → XK) (ta tb : TE) : TE := fun σ H Q => ta σ H fun x H1 => tb σ H1 fun y H2 => ∃ a dx fs, x = .ref a ∧ H2 a = some (.ins C dx fs) ∧ sp [x, y] H2 Q (E σ)
theorem pe_ixOwn {E : L2.St → XK} {a b : Expr} {ta tb : TE} {pos : Pos} (O : OwnM X.prog X.w X.K X.mg X.base k C "__getitem__" ps sp) (hf : ∀ f, PySem.W.findIn X.K (.ref C) "__getitem__" = some (some (.ref f)) → PySem.W.fnIn X.K f = true) (hr : Room (k + 1) X.A)
    (hx : ∀ σ, PassesAt (L2N.CX X.prog X.w) X σ (E σ)) (ha : PE X a ta) (hb : PE X b tb) (hsl : ∀ o i, subscripted b true o i = runValue (.builtin "lifetime.subscript" ⟨[o, i], []⟩)) : PE X (.Subscript a b pos) (tIxOwn C sp E ta tb) := by
  obtain ⟨f, fd, F, hm, hbd⟩ := O.ex
  refine ⟨fun pins s σ H Q I h => ?_⟩
  refine Subscript_ (binT (R := fun x y H2 => ∃ a dx fs, x = .ref a ∧ H2 a = some (.ins C dx fs) ∧ sp [x, y] H2 Q (E σ)) ha hb I h fun v u s2 x y H2 I2 rx ry ⟨a, dx, fs, ex, ea, q2⟩ => ?_)
  subst ex
  obtain rfl : v = Value.ref a := rx
  obtain ⟨_, od, J⟩ := inst_at I2 ea
  obtain ⟨m, hF⟩ := I2.fr
  refine PySem.W.sub_K hF I2.ok.mod.kin J hm.at_ (hf f hm.at_) hm.fn ?_ (hsl _ _)
  have bd := hbd s2 [.ref a, u] I2.kIn (F.len _ _ _ _ q2)
  refine wpAny_call (codeAny_mono (F.run X.A.in1 X.stack s2 H2 ⟨[.ref a, u], []⟩ [.ref a, u] [.ref a, y] Q (E σ) hr.in1 I2.env0.in1 bd (.cons rfl (.cons ry .nil)) q2) fun r s' hq => ?_)
  cases r with
  | error e => exact hx σ pins H2 s2 e s' I2 hq
  | ok fl =>
    cases fl with
    | ret u => exact I2.after hq
    | next => exact False.elim hq
    | brk => exact False.elim hq
    | cont => exact False.elim hq
/-- o[i] = v -/
def tSetOwn (C : Addr) (sp : Sp) (E : XK) : TSet := fun o i v H R => ∃ a dx fs, o = .ref a ∧ H a = some (.ins C dx fs) ∧ sp [o, i, v] H (fun _ H' => R H') E
theorem set_own {E : XK} (O : OwnM X.prog X.w X.K X.mg X.base k C "__setitem__" ps sp) (hq : PySem.W.noSeq X.K C = true) (hr : Room k X.A) (hx : ∀ σ, PassesAt (L2N.CX X.prog X.w) X σ E) : PSet X (tSetOwn C sp E) := by
  obtain ⟨f, fd, F, hm, hbd⟩ := O.ex
  intro pins s σ H o i v ov iv u Q I ro ri rv ⟨a, dx, fs, ex, ea, q⟩
  subst ex
  obtain rfl : ov = Value.ref a := ro
  obtain ⟨_, od, J⟩ := inst_at I ea
  obtain ⟨m, hF⟩ := I.fr
  refine PySem.W.ksp_setItem hF I.ok.mod.kin J hq hm.at_ hm.fn ?_
  refine wpAny_mono (run_fn (us := [.ref a, iv, u]) (vs := [.ref a, i, v]) (dvs := []) F hr hbd .nil (passOf hx) I (.cons rfl (.cons ri (.cons rv .nil))) q) (fun r s' h => ?_) fun _ _ z => z
  obtain ⟨w, H', I', _, q'⟩ := h
  exact ⟨H', I', q'⟩
/-- x in o, x not in o -/
def rInOwn (neg : Bool) (C : Addr) (sp : Sp) (E : XK) : R2 := fun x y H Q => ∃ a dx fs, y = .ref a ∧ H a = some (.ins C dx fs) ∧ sp [y, x] H (fun v H' => ∃ b, v = .bl b ∧ Q (.bl (if neg then !b else b)) H') E
theorem op_inOwn {E : XK} (O : OwnM X.prog X.w X.K X.mg X.base k C "__contains__" ps sp) (hr : Room k X.A) (hx : ∀ σ, PassesAt (L2N.CX X.prog X.w) X σ E) : OpR X (compareOp .In) (rInOwn false C sp E) := by
  obtain ⟨f, fd, F, hm, hbd⟩ := O.ex
  intro pins s σ H x y v u Q I rx ry ⟨a, dx, fs, ey, ea, q⟩
  subst ey
  obtain rfl : u = Value.ref a := ry
  obtain ⟨_, od, J⟩ := inst_at I ea
  obtain ⟨m, hF⟩ := I.fr
  refine PySem.W.in_K hF I.ok.mod.kin J hm.at_ hm.fn ?_
  refine wpAny_mono (run_fn (us := [.ref a, v]) (vs := [.ref a, x]) (dvs := []) F hr hbd .nil (passOf hx) I (.cons rfl (.cons rx .nil)) q) (fun r s' h => ?_) fun _ _ z => z
  obtain ⟨w, H', I', rw', b, ew, q'⟩ := h
  subst ew
  obtain rfl : r = Value.bool b := rw'
  exact wpAny_truthy_bool ⟨.bl b, H', I', rfl, q'⟩
theorem op_notInOwn {E : XK} (O : OwnM X.prog X.w X.K X.mg X.base k C "__contains__" ps sp) (hr : Room k X.A) (hx : ∀ σ, PassesAt (L2N.CX X.prog X.w) X σ E) : OpR X (compareOp .NotIn) (rInOwn true C sp E) := by
  obtain ⟨f, fd, F, hm, hbd⟩ := O.ex
  intro pins s σ H x y v u Q I rx ry ⟨a, dx, fs, ey, ea, q⟩
  subst ey
  obtain rfl : u = Value.ref a := ry
  obtain ⟨_, od, J⟩ := inst_at I ea
  obtain ⟨m, hF⟩ := I.fr
  refine PySem.W.notIn_K hF I.ok.mod.kin J hm.at_ hm.fn ?_
  refine wpAny_mono (run_fn (us := [.ref a, v]) (vs := [.ref a, x]) (dvs := []) F hr hbd .nil (passOf hx) I (.cons rfl (.cons rx .nil)) q) (fun r s' h => ?_) fun _ _ z => z
  obtain ⟨w, H', I', rw', b, ew, q'⟩ := h
  subst ew
  obtain rfl : r = Value.bool b := rw'
  exact wpAny_truthy_bool ⟨.bl (!b), H', I', rfl, q'⟩
/-- len(o) -/
def rLenOwn (C : Addr) (sp : Sp) (E : XK) : List V → Hp → VK → Prop := fun xs H Q => ∃ a dx fs, xs = [.ref a] ∧ H a = some (.ins C dx fs) ∧ sp [.ref a] H (fun v H' => ∃ n : Nat, v = .int n ∧ n < 2 ^ 62 ∧ Q (.int n) H') E
theorem call_lenOwn {E : XK} (O : OwnM X.prog X.w X.K X.mg X.base k C "__len__" ps sp) (hr : Room (k + 1) X.A) (hx : ∀ σ, PassesAt (L2N.CX X.prog X.w) X σ E) : CallR X (.builtin "len") (rLenOwn C sp E) := by
  obtain ⟨f, fd, F, hm, hbd⟩ := O.ex
  intro pins s σ H xs us Q I r ⟨a, dx, fs, ex, ea, q⟩
  subst ex
  obtain ⟨u, rfl, r1⟩ := vals1 r
  obtain rfl : u = Value.ref a := r1
  obtain ⟨_, od, J⟩ := inst_at I ea
  obtain ⟨m, hF⟩ := I.fr
  refine PySem.W.len_K hF I.ok.mod.kin J hm.at_ hm.fn ?_
  have bd := hbd s [.ref a] I.kIn (F.len _ _ _ _ q)
  refine wpAny_call (codeAny_mono (F.run X.A.in1 X.stack s H ⟨[.ref a], []⟩ [.ref a] [.ref a] _ E hr.in1 I.env0.in1 bd (.cons rfl .nil) q) fun r s' hq => ?_)
  cases r with
  | error e => exact hx σ pins H s e s' I hq
  | ok fl =>
    cases fl with
    | ret u =>
      obtain ⟨z, H', I', rz, n, ez, hn, q'⟩ := I.after hq
      subst ez
      obtain ⟨t, rfl⟩ := rz
      have : (n : Int) < 2 ^ 63 := by
        have e1 : (2 : Nat) ^ 62 = 4611686018427387904 := by decide
        have e2 : (2 : Int) ^ 63 = 9223372036854775808 := by decide
        omega
      exact ⟨⟨by omega, this⟩, ⟨.int n, H', I'.tok _, ⟨_, rfl⟩, q'⟩⟩
    | next => exact False.elim hq
    | brk => exact False.elim hq
    | cont => exact False.elim hq
/-! ### sorted(d), the keys tuples of ints -/
def rSortDT (d : Nat) (B : Int) : List V → Hp → VK → Prop := fun vs H Q => ∃ (a : Addr) (kvs : List (List Key × V)) (ks : List (List Int)), vs = [.ref a] ∧ H a = some (.dT kvs) ∧ kvs.map (·.1) = ks.map (fun n => n.map Sum.inl) ∧ kvs.length < 64 ∧ (∀ n ∈ ks, n.length = d ∧ TS.Bd B n) ∧
  ∀ (ys : List Addr) (ns : List (List Int)) (p : Addr), Paired (fun y n => H y = some (.tup (n.map V.int))) ys ns → ns.Perm ks → ns.Pairwise (fun n m => TS.code B n ≤ TS.code B m) → H p = none → Q (.ref p) (upd H p (.lst (ys.map V.ref)))
theorem paired_perm {α β : Type} {F : α → β → Prop} : ∀ {a b : List α} {c : List β}, Paired F a c → b.Perm a → ∃ d, Paired F b d ∧ d.Perm c := by
  intro a b c h p
  induction p generalizing c with
  | nil => exact ⟨c, h, .refl _⟩
  | cons x _ ih =>
    cases h with
    | cons r t =>
      obtain ⟨d, h1, h2⟩ := ih t
      exact ⟨_ :: d, .cons r h1, .cons _ h2⟩
  | swap x y l =>
    cases h with
    | cons r t =>
      cases t with
      | cons r2 t2 => exact ⟨_ :: _ :: _, .cons r2 (.cons r t2), .swap _ _ _⟩
  | trans _ _ ih1 ih2 =>
    obtain ⟨d, h1, h2⟩ := ih2 h
    obtain ⟨e, h3, h4⟩ := ih1 h1
    exact ⟨e, h3, h4.trans h2⟩
theorem keys_at {H : Hp} : ∀ {kvs : List (List Key × V)} {ks : List (List Int)} {bs : List Addr}, kvs.map (·.1) = ks.map (fun n => n.map Sum.inl) → IsKeys H kvs bs → Paired (fun y n => H y = some (.tup (n.map V.int))) bs ks
  | [], [], [], _, _ => .nil
  | [], _ :: _, _, e, _ => by simp at e
  | _ :: _, [], _, e, _ => by simp at e
  | kv :: kvs, n :: ks, b :: bs, e, .cons h t => by
    rw [List.map_cons, List.map_cons] at e
    injection e with e1 e2
    refine .cons ?_ (keys_at e2 t)
    rw [h, e1, List.map_map]
    rfl
theorem paired_pw {α β : Type} {F : α → β → Prop} {f : α → Int} {g : β → Int} : ∀ {a : List α} {c : List β}, Paired F a c → (∀ x y, F x y → f x = g y) → a.Pairwise (fun x y => f x ≤ f y) → c.Pairwise (fun x y => g x ≤ g y)
  | _, _, .nil, _, _ => .nil
  | x :: a, y :: c, .cons r t, h, p => by
    obtain ⟨p1, p2⟩ := List.pairwise_cons.mp p
    refine List.pairwise_cons.mpr ⟨fun z m => ?_, paired_pw t h p2⟩
    obtain ⟨w, mw, e⟩ : ∃ w ∈ a, F w z := by
      clear p p1 p2
      induction t with
      | nil => cases m
      | cons r2 t2 ih =>
        rcases List.mem_cons.mp m with rfl | m
        · exact ⟨_, List.mem_cons_self, r2⟩
        · obtain ⟨w, mw, e⟩ := ih m
          exact ⟨w, List.mem_cons_of_mem _ mw, e⟩
    rw [← h _ _ r, ← h _ _ e]
    exact p1 w mw
def adV : Value → Addr
  | .ref a => a
  | _ => 0
theorem adV_refs : ∀ {us : List Value}, (∀ u ∈ us, ∃ a, u = Value.ref a) → us = (us.map adV).map Value.ref
  | [], _ => rfl
  | u :: us, h => by
    obtain ⟨a, rfl⟩ := h u List.mem_cons_self
    rw [List.map_cons, List.map_cons, ← adV_refs fun v m => h v (List.mem_cons_of_mem _ m)]
    rfl
theorem cr_sortedDT {d : Nat} {B : Int} (hc : X.calm = true) (hd : 1 ≤ d) : CallR X (.builtin "sorted") (rSortDT d B) := by
  intro pins s σ H vs us Q I r h
  obtain ⟨a, kvs, ks, rfl, ha, hk, h64, hb, q⟩ := h
  obtain ⟨u, rfl, rx⟩ := r.one
  cases rx
  obtain ⟨z, hs, xs, pr, o, es, ep, ho, hx, hdt, he, hn⟩ := (show ObjOk X.prog X.w H s.heap a (.dT kvs) from I.hok a _ ha)
  have l1 : es.size = xs.length := size_of_entries he
  have l2 : kvs.length = xs.length := Paired.length pr
  have hbs := keys_at hk (isKeys_of pr)
  refine PySem.Calls.call_function_entry PyProof.Rows.kind_sorted PyProof.Rows.plain_sorted PyProof.Rows.entry_sorted (PyProof.Rows.args_sorted1 _) ?_
  unfold Builtin.«sorted»
  refine wpAny_bind (m := checkCount "sorted" 1 1 _) (wpAny_pure ?_)
  refine wpAny_bind (PySem.W.kdu_collect (A := X.A.in1) (kdl_raw hs hx hdt) (I.ok.hd hc) ho (by omega) fun h' tk acc hkp it => ?_)
  have ea : acc.toList = (xs.map fun x => x.2.1).map Value.ref := by
    rw [List.map_map]
    have hl : acc.toList.length = xs.length := by rw [Array.length_toList, it.1]; exact l1
    apply List.ext_getElem?
    intro j
    rw [List.getElem?_map]
    cases hj : acc.toList[j]? with
    | none =>
      have h1 := List.getElem?_eq_none_iff.mp hj
      rw [List.getElem?_eq_none (by omega)]
      all_goals rfl
    | some v =>
      obtain ⟨en, hen, hv⟩ := it.2 j v (by rw [← Array.getElem?_toList]; exact hj)
      have qe := entry_at he j
      rw [hen] at qe
      cases hb : xs[j]? with
      | none =>
        rw [hb] at qe
        exact nomatch (show some en = none from qe)
      | some b =>
        rw [hb] at qe
        have e2 : en = entryOfKey (tupleKind (mixKind X.prog X.w)) b := Option.some.inj qe
        rw [hv, e2]
        all_goals rfl
  generalize hB : (xs.map fun x => x.2.1) = bs at *
  have lb : bs.length = kvs.length := by rw [← hB, List.length_map, l2]
  have I1 : Inv X pins σ H { s with heap := h', toks := tk } := I.kept hkp
  have al : acc.toList.length < 64 := by rw [ea, List.length_map, lb]; exact h64
  refine wpAny_bind (wpAny_newList ?_ (by rw [sizeLine_eq]; omega))
  have hoL : (h'.push (seqObj "list" acc.toList.toArray 0)).get? h'.objs.size = some (seqObj "list" acc.toList.toArray 0) := Heap.get?_push_size _ rfl
  show wpAny _ _ _ _ _ { s with heap := h'.push (seqObj "list" acc.toList.toArray 0), toks := tk }
  have tI : ∀ v ∈ acc.toList, ∃ ns, TS.TupInts h' v ns ∧ ns.length = d ∧ TS.Bd B ns := fun v m => by
    rw [ea] at m
    obtain ⟨b, mb, rfl⟩ := List.mem_map.mp m
    obtain ⟨i, hi⟩ := List.getElem?_of_mem mb
    have li := (List.getElem?_eq_some_iff.mp hi).1
    have hn : ks[i]? = some (ks[i]'(by rw [← hbs.length]; exact li)) := List.getElem?_eq_getElem _
    have ht := paired_get hbs hi hn
    exact ⟨_, tupI_raw I1 (SqT.of ht), hb _ (List.mem_of_getElem? hn)⟩
  have kp : ∀ b o, h'.get? b = some o → o.cls = .type "tuple" → (h'.push (seqObj "list" acc.toList.toArray 0)).get? b = some o := fun b o e _ => Heap.get?_push_of_some _ e
  refine wpAny_bind (wpAny_holding (wpAny_call_entry PyProof.Rows.slot_list_sort ⟨_, hoL, rfl⟩ PyProof.Rows.entry_list_sort
    (TS.sort_tups (s := { s with heap := h'.push (seqObj "list" acc.toList.toArray 0), toks := tk }) (d := d) (B := B) hoL al hd (TS.TupsOk.keeps (h := h') tI kp) (fun v => TS.code B (TS.intsOf h' v)) (fun v hv ns t => ?_) fun out a1 a2 => ⟨_, rfl, ?_⟩) (PyProof.Rows.args_list_sort _)))
  · obtain ⟨ns0, t0, _⟩ := tI v hv
    have e : ns = ns0 := t.ints.symm.trans (t0.keeps kp).ints
    rw [e]
    show TS.code B (TS.intsOf h' v) = TS.code B ns0
    rw [t0.ints]
  · have h3 : ∀ u ∈ out.toList, ∃ a, u = Value.ref a := fun u hu => by
      have := a1.mem_iff.mp hu
      rw [ea] at this
      obtain ⟨b, _, rfl⟩ := List.mem_map.mp this
      exact ⟨b, rfl⟩
    have h4 := adV_refs h3
    have h5 : (out.toList.map adV).Perm bs := by
      have := a1.map adV
      rw [ea, List.map_map] at this
      have e : (adV ∘ Value.ref) = id := rfl
      rw [e, List.map_id] at this
      exact this
    obtain ⟨ns, p1, p2⟩ := paired_perm hbs h5
    obtain ⟨e', he'⟩ := PyProof.Rows.sortedHeap_at (vs := acc.toList) (out := out) hoL
    have hlen : ((out.toList.map adV).map V.ref).length ≤ sizeLine := by
      rw [List.length_map, h5.length_eq, sizeLine_eq]
      omega
    refine wpAny_pure ⟨_, rfl, .ref h'.objs.size, upd H h'.objs.size (.lst ((out.toList.map adV).map V.ref)), I1.laid (t' := tk) (fun b u e => ?_) (Nat.le_refl _)
      (show ObjOk X.prog X.w _ _ _ (.lst ((out.toList.map adV).map V.ref)) from ⟨hlen, out.toList, e', by have v : Vals ((out.toList.map adV).map V.ref) ((out.toList.map adV).map Value.ref) := vals_refs _; rw [← h4] at v; exact v, by rw [Array.toArray_toList]; exact he'⟩), rfl, q _ ns _ p1 p2 ?_ (I1.hok.fresh (Nat.le_refl _))⟩
    · have hb : b < h'.objs.size := Heap.lt_size e
      rw [PyProof.Rows.sortedHeap_old (Nat.ne_of_lt hb) (by rw [size_push']; exact Nat.lt_succ_of_lt hb)]
      exact Heap.get?_push_of_some _ e
    · rw [h4, List.pairwise_map] at a2
      refine paired_pw (f := fun y => TS.code B (TS.intsOf h' (.ref y))) (g := fun n => TS.code B n) p1 (fun y n e => ?_) a2
      show TS.code B (TS.intsOf h' (.ref y)) = TS.code B n
      rw [(tupI_raw I1 (SqT.of e)).ints]
/-! ### d.pop(k), del d[k], the keys tuples -/
theorem someT {H : Hp} {kvs : List (List Key × V)} {xs : List (List Key × Addr × Value)} {k : List Key} {v : V} (rel : KT H kvs xs) (h : valV kvs k = some v) : ∃ p, atKey xs k = some p ∧ RelV v p.2 := by
  have r := rel.val k
  rw [h] at r
  cases e : atKey xs k with
  | none => rw [e] at r; exact (show False from r).elim
  | some p => rw [e] at r; exact ⟨p, rfl, r⟩
theorem d_dropT {pins : List (Addr × Obj)} {σ : L2.St} {H : Hp} {s : Shared} {a : Addr} {kvs : List (List Key × V)} {k : List Key} {xs : List (List Key × Addr × Value)} {h' : Heap} {tk : Nat} (I : Inv X pins σ H s) (ha : H a = some (.dT kvs)) (z : kvs.length ≤ sizeLine) (hd : (a == sysModules) = false) (rel : KT H kvs xs)
    (dd' : h'.DictOfH (tupleKind (mixKind X.prog X.w)) a (DT.dropH xs k)) (hs : Heap.SameBut a s.heap h') : Inv X pins σ (upd H a (.dT (dropK kvs k))) { s with heap := h', toks := tk } := by
  obtain ⟨o, es, ep, hq, h2, h3, h4, _, h5⟩ := dd'
  exact d_write I (by rw [ha]; exact True.intro) hs ⟨o, hq⟩ ⟨Nat.le_trans (dropK_le kvs k) z, hd, _, (L2.DX.KT_drop k rel).keeps (fun c ys ec => (by rw [upd_ne (ne_of ec ha (fun z => nomatch z))]; exact ec)), o, es, ep, hq, h2, h3, h4, h5⟩
def rPopT1 : V → List V → Hp → VK → Prop := fun x xs H Q => ∃ (a : Addr) (kvs : List (List Key × V)) (k : List Key) (b : Addr) (v : V), x = .ref a ∧ xs = [.ref b] ∧ H a = some (.dT kvs) ∧ H b = some (.tup (k.map kV)) ∧ valV kvs k = some v ∧ Q v (upd H a (.dT (dropK kvs k)))
theorem mt_popT1 (hu : X.A.units + 1 < cLine) : MtR X "dict.pop" rPopT1 := by
  intro pins s σ H x xs v us Q I rx rxs h
  obtain ⟨a, kvs, k, b, v0, rfl, rfl, ha, hb, hv, q⟩ := h
  cases rx
  obtain ⟨u1, rfl, r1⟩ := vals1 rxs
  cases r1
  obtain ⟨z, hd, xs', rel, dd⟩ := dt_of I.hok ha
  have hz : xs'.length ≤ sizeLine := by rw [← Paired.length rel]; exact z
  obtain ⟨p, hp, rp⟩ := someT rel hv
  exact call_pop_heap (knd := tupleKind (mixKind X.prog X.w)) (.inl rfl) (PySem.F.args_dict_pop_2 _ _) (tupleKind_room_in1 hu) (key_of I.hok hb) hd dd hp (fun h' dd' hs => ⟨v0, _, d_dropT I ha z hd rel dd' hs, rp, q⟩) hz
def sDDelT (td ty : TE) : TS := fun D σ H => td σ H fun x H1 => ty σ H1 fun y H2 => ∃ a kvs k b v, x = .ref a ∧ H2 a = some (.dT kvs) ∧ y = .ref b ∧ H2 b = some (.tup (k.map kV)) ∧ valV kvs k = some v ∧ D.nx σ (upd H2 a (.dT (dropK kvs k)))
theorem ps_ddelT {o i : Expr} {tpos pos : Pos} {td ty : TE} (hu : X.A.units + 1 < cLine) (ho : PE X o td) (hi : PE X i ty) : PS X (.Delete [.Subscript o i tpos] pos) (sDDelT td ty) := by
  refine ⟨fun pins s σ H D I h => ?_⟩
  refine wpAny_Delete (wpAny_deleteEach_cons (wpAny_delete_Subscript (thn (ho.run pins s σ H _ I h) fun u s1 ⟨x, H1, I1, rx, q1⟩ => thn (hi.run pins s1 σ H1 _ I1 q1) fun iv s2 ⟨y, H2, I2, ry, a, kvs, k, b, v, ex, ha, ey, hb, hv, q2⟩ => ?_)))
  subst ex ey
  obtain rfl : u = Value.ref a := rx
  obtain rfl : iv = Value.ref b := ry
  obtain ⟨z, hd, xs', rel, dd⟩ := dt_of I2.hok ha
  have hz : xs'.length ≤ sizeLine := by rw [← Paired.length rel]; exact z
  obtain ⟨p, hp, rp⟩ := someT rel hv
  exact wpAny_delItem_heap (knd := tupleKind (mixKind X.prog X.w)) (tupleKind_room_in1 hu) (key_of I2.hok hb) hd dd hp (fun h' dd' hs => wpAny_deleteEach_nil ⟨σ, _, d_dropT I2 ha z hd rel dd' hs, q2⟩) hz
end
/-! ### books: what stands at which place -/
def keyP (p : Int × Int) : List Key := [.inl p.1, .inl p.2]
theorem keyP_inj {p q : Int × Int} (h : keyP p = keyP q) : p = q := by
  unfold keyP at h
  injection h with h1 h2
  injection h2 with h2 _
  exact Prod.ext (Sum.inl.inj h1) (Sum.inl.inj h2)
theorem keyP_kV {p : Int × Int} : (keyP p).map kV = [.int p.1, .int p.2] := rfl
abbrev Ent := List V
abbrev Bk := List ((Int × Int) × Ent)
def ltP (p q : Int × Int) : Prop := p.1 < q.1 ∨ (p.1 = q.1 ∧ p.2 < q.2)
instance (p q : Int × Int) : Decidable (ltP p q) := inferInstanceAs (Decidable (_ ∨ _))
theorem ltP.ne {p q : Int × Int} (h : ltP p q) : p ≠ q := fun e => by
  subst e
  rcases h with h | ⟨_, h⟩ <;> omega
theorem ltP.trans {p q r : Int × Int} (h : ltP p q) (k : ltP q r) : ltP p r := by
  unfold ltP at *
  omega
theorem ltP_tri {p q : Int × Int} (h : p ≠ q) (k : ¬ ltP p q) : ltP q p := by
  unfold ltP at *
  have : ¬ (p.1 = q.1 ∧ p.2 = q.2) := fun e => h (Prod.ext e.1 e.2)
  omega
/-- an entry put at its place -/
def insE (p : Int × Int) (x : Ent) : Bk → Bk
  | [] => [(p, x)]
  | e :: r => if p = e.1 then (p, x) :: r else if ltP p e.1 then (p, x) :: e :: r else e :: insE p x r
def delE (p : Int × Int) (es : Bk) : Bk := es.filter fun e => decide (e.1 ≠ p)
def getE (p : Int × Int) (es : Bk) : Option Ent := (es.find? fun e => decide (e.1 = p)).map (·.2)
def Asc (es : Bk) : Prop := es.Pairwise fun a b => ltP a.1 b.1
theorem mem_insE {p : Int × Int} {x : Ent} : ∀ {es : Bk}, Asc es → ∀ e, e ∈ insE p x es ↔ e = (p, x) ∨ (e ∈ es ∧ e.1 ≠ p)
  | [], _, e => by simp [insE]
  | a :: r, h, e => by
    obtain ⟨h1, h2⟩ := List.pairwise_cons.mp h
    unfold insE
    split
    · rename_i q
      constructor
      · intro m
        rcases List.mem_cons.mp m with m | m
        · exact .inl m
        · exact .inr ⟨List.mem_cons_of_mem _ m, fun z => (h1 e m).ne (by rw [← q, z])⟩
      · rintro (m | ⟨m, n⟩)
        · rw [m]
          exact List.mem_cons_self
        · rcases List.mem_cons.mp m with m | m
          · exact absurd (by rw [m, ← q]) n
          · exact List.mem_cons_of_mem _ m
    · rename_i q
      split
      · rename_i l
        constructor
        · intro m
          rcases List.mem_cons.mp m with m | m
          · exact .inl m
          · refine .inr ⟨m, fun z => ?_⟩
            rcases List.mem_cons.mp m with m | m
            · exact q (by rw [← z, m])
            · exact (l.trans (h1 e m)).ne z.symm
        · rintro (m | ⟨m, n⟩)
          · rw [m]
            exact List.mem_cons_self
          · exact List.mem_cons_of_mem _ m
      · rw [List.mem_cons, mem_insE h2 e, List.mem_cons]
        constructor
        · rintro (m | m | ⟨m, n⟩)
          · exact .inr ⟨.inl m, fun z => q (by rw [← z, m])⟩
          · exact .inl m
          · exact .inr ⟨.inr m, n⟩
        · rintro (m | ⟨m | m, n⟩)
          · exact .inr (.inl m)
          · exact .inl m
          · exact .inr (.inr ⟨m, n⟩)
theorem asc_insE {p : Int × Int} {x : Ent} : ∀ {es : Bk}, Asc es → Asc (insE p x es)
  | [], _ => List.pairwise_singleton _ _
  | a :: r, h => by
    obtain ⟨h1, h2⟩ := List.pairwise_cons.mp h
    unfold insE
    split
    · rename_i q
      refine List.pairwise_cons.mpr ⟨fun e m => ?_, h2⟩
      have := h1 e m
      rw [← q] at this
      exact this
    · rename_i q
      split
      · rename_i l
        refine List.pairwise_cons.mpr ⟨fun e m => ?_, h⟩
        rcases List.mem_cons.mp m with rfl | m
        · exact l
        · exact l.trans (h1 e m)
      · rename_i l
        refine List.pairwise_cons.mpr ⟨fun e m => ?_, asc_insE h2⟩
        rcases (mem_insE h2 e).mp m with rfl | ⟨m, _⟩
        · exact ltP_tri q l
        · exact h1 e m
theorem asc_delE {p : Int × Int} {es : Bk} (h : Asc es) : Asc (delE p es) := h.filter _
theorem mem_delE {p : Int × Int} {es : Bk} {e : (Int × Int) × Ent} : e ∈ delE p es ↔ e ∈ es ∧ e.1 ≠ p := by
  unfold delE
  rw [List.mem_filter, decide_eq_true_iff]
theorem asc_uniq {es : Bk} (h : Asc es) {e f : (Int × Int) × Ent} (a : e ∈ es) (b : f ∈ es) (q : e.1 = f.1) : e = f := by
  induction es with
  | nil => cases a
  | cons x r ih =>
    obtain ⟨h1, h2⟩ := List.pairwise_cons.mp h
    rcases List.mem_cons.mp a with ea | a
    · rcases List.mem_cons.mp b with eb | b
      · rw [ea, eb]
      · rw [ea] at q
        exact absurd q (h1 f b).ne
    · rcases List.mem_cons.mp b with eb | b
      · rw [eb] at q
        exact absurd q.symm (h1 e a).ne
      · exact ih h2 a b
theorem find_eq {es : Bk} {p : Int × Int} {y : (Int × Int) × Ent} (h : es.find? (fun e => decide (e.1 = p)) = some y) : y.1 = p := by
  have := List.find?_some h
  simpa using this
theorem getE_mem {es : Bk} (h : Asc es) {p : Int × Int} {x : Ent} : getE p es = some x ↔ (p, x) ∈ es := by
  unfold getE
  constructor
  · intro e
    obtain ⟨y, hy, rfl⟩ := Option.map_eq_some_iff.mp e
    have h1 := List.mem_of_find?_eq_some hy
    have h2 := find_eq hy
    rw [← h2]
    exact h1
  · intro m
    cases e : es.find? fun e => decide (e.1 = p) with
    | none =>
      have := List.find?_eq_none.mp e _ m
      exact absurd (decide_eq_true rfl) this
    | some y =>
      have h1 := List.mem_of_find?_eq_some e
      have h2 := find_eq e
      rw [asc_uniq h h1 m h2]
      rfl
theorem getE_none {es : Bk} {p : Int × Int} : getE p es = none ↔ ∀ e ∈ es, e.1 ≠ p := by
  unfold getE
  rw [Option.map_eq_none_iff, List.find?_eq_none]
  exact ⟨fun h e m q => h e m (decide_eq_true q), fun h e m q => h e m (of_decide_eq_true q)⟩
end Lo

set_option Elab.async false
set_option linter.all false
set_option maxRecDepth 100000
set_option maxHeartbeats 4000000
/-! LoB11: data compared; books at their addresses. -/
namespace Lo
open PySem PySem.Spec PyProof.Rows L2
/-! ### data -/
structure Da (K : PySem.W.Frag) (H : Hp) (v : V) (d : PyData) (n : Nat) : Prop where
  dp : Dp K H v d
  lay : d.canLay0 = true
  dep : d.depth ≤ n
structure DaAll (K : PySem.W.Frag) (H : Hp) (vs : List V) (ds : List PyData) (n : Nat) : Prop where
  dp : DpAll K H vs ds
  lay : PyData.canLayAll0 ds = true
  dep : PyData.depthAll ds ≤ n
section
variable {K : PySem.W.Frag} {H H' : Hp} {v w : V} {d e : PyData} {vs : List V} {ds : List PyData} {n m : Nat} {a b : Addr} {Q : VK}
theorem Da.int {i : Int} : Da K H (.int i) (.int i) n := ⟨.int i, rfl, Nat.zero_le _⟩
theorem Da.bl {b : Bool} : Da K H (.bl b) (.bool b) n := ⟨.bl b, rfl, Nat.zero_le _⟩
theorem Da.non : Da K H .non .none n := ⟨.non, rfl, Nat.zero_le _⟩
theorem Da.str {z : Str} (h : PyData.strOk z = true) : Da K H (.str z) (.str z) n := ⟨.str z, h, Nat.zero_le _⟩
theorem DaAll.nil : DaAll K H [] [] n := ⟨.nil, rfl, Nat.zero_le _⟩
theorem DaAll.cons (h : Da K H v d n) (t : DaAll K H vs ds n) : DaAll K H (v :: vs) (d :: ds) n :=
  ⟨.cons h.dp t.dp, by show (d.canLay0 && PyData.canLayAll0 ds) = true; rw [h.lay, t.lay]; rfl, by show max d.depth (PyData.depthAll ds) ≤ n; exact Nat.max_le.mpr ⟨h.dep, t.dep⟩⟩
theorem Da.lst (h : DaAll K H vs ds n) (e : SqL K H a vs) : Da K H (.ref a) (.list ds) (n + 1) := ⟨.lst e h.dp, h.lay, Nat.succ_le_succ h.dep⟩
theorem Da.tup (h : DaAll K H vs ds n) (e : SqT K H a vs) : Da K H (.ref a) (.tuple ds) (n + 1) := ⟨.tup e h.dp, h.lay, Nat.succ_le_succ h.dep⟩
theorem Da.shaped (h : Da K H v d n) (l : n ≤ 60 := by decide) : SeqAt.shaped d = true := by
  unfold SeqAt.shaped
  rw [h.lay, Bool.true_and]
  have := h.dep
  exact decide_eq_true (by omega)
theorem Da.mono (h : Da K H v d n) (l : n ≤ m := by decide) : Da K H v d m := ⟨h.dp, h.lay, Nat.le_trans h.dep l⟩
theorem Da.ne (h : Da K H v d n) (k : Da K H w d m) (q : Q (.bl false) H) (l : n ≤ 60 := by decide) (l2 : m ≤ 60 := by decide) : rNeD K v w H Q := by
  refine ⟨_, _, h.dp, k.dp, h.shaped l, k.shaped l2, ?_⟩
  rw [SeqAt.eqv_refl _ h.lay]
  exact q
theorem Da.eq (h : Da K H v d n) (k : Da K H w d m) (q : Q (.bl true) H) (l : n ≤ 60 := by decide) (l2 : m ≤ 60 := by decide) : rEqD K v w H Q := by
  refine ⟨_, _, h.dp, k.dp, h.shaped l, k.shaped l2, ?_⟩
  rw [SeqAt.eqv_refl _ h.lay]
  exact q
theorem DaAll.paired {α : Type} {R : V → α → Prop} {f : α → PyData} (h : ∀ v x, R v x → Da K H v (f x) n) : ∀ {vs : List V} {xs : List α}, Paired R vs xs → DaAll K H vs (xs.map f) n
  | _, _, .nil => .nil
  | _, _, .cons r t => .cons (h _ _ r) (DaAll.paired h t)
theorem DaAll.strs {zs : List Str} (h : ∀ z ∈ zs, PyData.strOk z = true) : DaAll K H (zs.map V.str) (zs.map PyData.str) n := by
  induction zs with
  | nil => exact .nil
  | cons z zs ih => exact .cons (.str (h z List.mem_cons_self)) (ih fun y m => h y (List.mem_cons_of_mem _ m))
end
theorem lets_ok {z : Str} (h : Lets z) : PyData.strOk z = true := by
  show z.cps.all (· < 0x110000) = true
  rw [← Array.all_toList, List.all_eq_true]
  intro c m
  have := h c m
  exact decide_eq_true (by omega)
/-! ### entries -/
def entB (k n y : V) : Bool := if k = .str "late" then nmV n && nmV y else (decide (k = .str "buy" ∨ k = .str "sell" ∨ k = .str "back")) && (nmV n && wholeB y 1)
/-- a value, and whether it is an entry -/
def EntV (H : Hp) (v : V) (b : Bool) : Prop :=
  (flatV v = true ∧ b = false) ∨ (∃ a xs, v = .ref a ∧ H a = some (.lst xs) ∧ b = false) ∨ (∃ a xs, v = .ref a ∧ H a = some (.tup xs) ∧ xs.length ≠ 3 ∧ b = false) ∨
  ∃ a k n y, v = .ref a ∧ H a = some (.tup [k, n, y]) ∧ flatV k = true ∧ shortV n ∧ shortV y ∧ b = entB k n y
theorem EntV.same {H H' : Hp} {v : V} {b : Bool} (s : Same H H') (h : EntV H v b) : EntV H' v b := by
  rcases h with h | ⟨a, xs, e, h, q⟩ | ⟨a, xs, e, h, q⟩ | ⟨a, k, n, y, e, h, q⟩
  · exact .inl h
  · exact .inr (.inl ⟨a, xs, e, s _ _ h, q⟩)
  · exact .inr (.inr (.inl ⟨a, xs, e, s _ _ h, q⟩))
  · exact .inr (.inr (.inr ⟨a, k, n, y, e, s _ _ h, q⟩))
/-- a good entry: a word, a name, units or a lot -/
structure EntOk (x : Ent) : Prop where
  ex : ∃ (k n : Str) (y : V), x = [.str k, .str n, y] ∧ NameOk n ∧ ((k = "late" ∧ ∃ l, y = .str l ∧ NameOk l) ∨ ((k = "buy" ∨ k = "sell" ∨ k = "back") ∧ ∃ u : Int, y = .int u ∧ 1 ≤ u ∧ u ≤ 1000000))
theorem NameOk.sh {z : Str} (h : NameOk z) : z.length ≤ 1000 := by have := h.le; omega
theorem EntOk.v {H : Hp} {a : Addr} {x : Ent} (h : EntOk x) (e : H a = some (.tup x)) : EntV H (.ref a) true := by
  obtain ⟨k, n, y, rfl, hn, hk⟩ := h.ex
  refine .inr (.inr (.inr ⟨a, .str k, .str n, y, rfl, e, rfl, ⟨rfl, fun z q => by cases q; exact hn.sh⟩, ?_, ?_⟩))
  · rcases hk with ⟨_, l, rfl, hl⟩ | ⟨_, u, rfl, _⟩
    · exact ⟨rfl, fun z q => by cases q; exact hl.sh⟩
    · exact ⟨rfl, fun z q => by cases q⟩
  · unfold entB
    rcases hk with ⟨rfl, l, rfl, hl⟩ | ⟨hk, u, rfl, u1, u2⟩
    · rw [if_pos rfl]
      show true = (nmB n && nmB l)
      rw [hn.nm, hl.nm]
      rfl
    · have hw : wholeB (.int u) 1 = true := by
        show (decide (1 ≤ u) && decide (u ≤ 1000000)) = true
        rw [decide_eq_true u1, decide_eq_true u2]
        rfl
      have hn2 : nmV (.str n) = true := hn.nm
      rw [if_neg (by rcases hk with rfl | rfl | rfl <;> decide +kernel), hw, hn2]
      rcases hk with rfl | rfl | rfl <;> simp
theorem word_ok : PyData.strOk "buy" = true ∧ PyData.strOk "sell" = true ∧ PyData.strOk "back" = true ∧ PyData.strOk "late" = true := by decide +kernel
/-- an entry as data -/
def dEnt (x : Ent) : PyData := .tuple (x.map dat)
theorem EntOk.da {K : PySem.W.Frag} {H : Hp} {a : Addr} {x : Ent} (h : EntOk x) (e : H a = some (.tup x)) : Da K H (.ref a) (dEnt x) 1 := by
  obtain ⟨k, n, y, rfl, hn, hk⟩ := h.ex
  obtain ⟨w1, w2, w3, w4⟩ := word_ok
  have hk1 : PyData.strOk k = true := by
    rcases hk with ⟨rfl, _⟩ | ⟨rfl | rfl | rfl, _⟩
    · exact w4
    · exact w1
    · exact w2
    · exact w3
  have hy : Da K H y (dat y) 0 := by
    rcases hk with ⟨_, l, rfl, hl⟩ | ⟨_, u, rfl, _⟩
    · exact .str (lets_ok hl.ls)
    · exact .int
  exact .tup (.cons (.str hk1) (.cons (.str (lets_ok hn.ls)) (.cons hy .nil))) (SqT.of e)
/-! ### dicts of entries, books -/
def EntR (H : Hp) (v : V) (x : Ent) : Prop := ∃ t, v = .ref t ∧ H t = some (.tup x)
structure BkOk (H : Hp) (kvs : List (List Key × V)) (es : Bk) : Prop where
  nd : (kvs.map (·.1)).Nodup
  so : Asc es
  fw : ∀ k v, valV kvs k = some v → ∃ e ∈ es, k = keyP e.1 ∧ EntR H v e.2
  bw : ∀ e ∈ es, ∃ v, valV kvs (keyP e.1) = some v
def DicAt (H : Hp) (d : Addr) (es : Bk) : Prop := ∃ kvs, H d = some (.dT kvs) ∧ BkOk H kvs es
def BookAt (ca : Nat → Addr) (H : Hp) (p D : Addr) (es : Bk) : Prop := (∃ dx, H p = some (.ins (ca 22) dx [("_entries", .ref D)])) ∧ DicAt H D es
/-- places and entries are good -/
def BkW (es : Bk) : Prop := ∀ e ∈ es, (0 ≤ e.1.1 ∧ e.1.1 ≤ 1000000 ∧ 0 ≤ e.1.2 ∧ e.1.2 ≤ 1000000) ∧ EntOk e.2
theorem EntR.same {H H' : Hp} {v : V} {x : Ent} (s : Same H H') (h : EntR H v x) : EntR H' v x := let ⟨t, e, q⟩ := h; ⟨t, e, s _ _ q⟩
theorem EntR.keep {H H' : Hp} {v : V} {x : Ent} {c : Addr} {u : HO} (h : EntR H v x) (e : H c = some u) (n : ∀ xs, u ≠ .tup xs) (k : Keep c H H') : EntR H' v x := let ⟨t, e1, q⟩ := h; ⟨t, e1, k _ _ q (ne_of q e fun z => n _ z.symm)⟩
theorem BkOk.same {H H' : Hp} {kvs : List (List Key × V)} {es : Bk} (h : BkOk H kvs es) (s : Same H H') : BkOk H' kvs es := ⟨h.nd, h.so, fun k v e => let ⟨x, m, q, r⟩ := h.fw k v e; ⟨x, m, q, r.same s⟩, h.bw⟩
theorem BkOk.keep {H H' : Hp} {kvs : List (List Key × V)} {es : Bk} {c : Addr} {u : HO} (h : BkOk H kvs es) (e : H c = some u) (n : ∀ xs, u ≠ .tup xs) (k : Keep c H H') : BkOk H' kvs es := ⟨h.nd, h.so, fun j v q => let ⟨x, m, q, r⟩ := h.fw j v q; ⟨x, m, q, r.keep e n k⟩, h.bw⟩
theorem DicAt.same {H H' : Hp} {d : Addr} {es : Bk} (h : DicAt H d es) (s : Same H H') : DicAt H' d es := let ⟨kvs, e, q⟩ := h; ⟨kvs, s _ _ e, q.same s⟩
theorem DicAt.keep {H H' : Hp} {d : Addr} {es : Bk} {c : Addr} {u : HO} (h : DicAt H d es) (nd : d ≠ c) (e : H c = some u) (n : ∀ xs, u ≠ .tup xs) (k : Keep c H H') : DicAt H' d es := let ⟨kvs, q, r⟩ := h; ⟨kvs, k _ _ q nd, r.keep e n k⟩
theorem DicAt.putL {H H' : Hp} {d : Addr} {es : Bk} {c : Addr} {xs : List V} (h : DicAt H d es) (e : H c = some (.lst xs)) (k : Keep c H H') : DicAt H' d es := h.keep (by obtain ⟨kvs, q, _⟩ := h; exact ne_of q e fun z => nomatch z) e (fun _ z => nomatch z) k
theorem BookAt.same {ca : Nat → Addr} {H H' : Hp} {p D : Addr} {es : Bk} (h : BookAt ca H p D es) (s : Same H H') : BookAt ca H' p D es := ⟨let ⟨dx, e⟩ := h.1; ⟨dx, s _ _ e⟩, h.2.same s⟩
theorem BookAt.putL {ca : Nat → Addr} {H H' : Hp} {p D : Addr} {es : Bk} {c : Addr} {xs : List V} (h : BookAt ca H p D es) (e : H c = some (.lst xs)) (k : Keep c H H') : BookAt ca H' p D es :=
  ⟨let ⟨dx, q⟩ := h.1; ⟨dx, k _ _ q (ne_of q e fun z => nomatch z)⟩, h.2.putL e k⟩
theorem BookAt.putD {ca : Nat → Addr} {H H' : Hp} {p D : Addr} {es : Bk} {c : Addr} {kvs : List (List Key × V)} (h : BookAt ca H p D es) (n : D ≠ c) (e : H c = some (.dT kvs)) (k : Keep c H H') : BookAt ca H' p D es :=
  ⟨let ⟨dx, q⟩ := h.1; ⟨dx, k _ _ q (ne_of q e fun z => nomatch z)⟩, h.2.keep n e (fun _ z => nomatch z) k⟩
theorem DicAt.dT {H : Hp} {d : Addr} {es : Bk} (h : DicAt H d es) : ∃ kvs, H d = some (.dT kvs) := let ⟨kvs, e, _⟩ := h; ⟨kvs, e⟩
theorem DicAt.asc {H : Hp} {d : Addr} {es : Bk} (h : DicAt H d es) : Asc es := let ⟨_, _, q⟩ := h; q.so
theorem BkOk.get {H : Hp} {kvs : List (List Key × V)} {es : Bk} (h : BkOk H kvs es) (p : Int × Int) : (valV kvs (keyP p) = none ∧ getE p es = none) ∨ ∃ v x, valV kvs (keyP p) = some v ∧ getE p es = some x ∧ EntR H v x := by
  cases e : valV kvs (keyP p) with
  | none =>
    refine .inl ⟨rfl, getE_none.mpr fun f m q => ?_⟩
    obtain ⟨v, hv⟩ := h.bw f m
    rw [q, e] at hv
    cases hv
  | some v =>
    obtain ⟨f, m, q, r⟩ := h.fw _ _ e
    have q := keyP_inj q
    refine .inr ⟨v, f.2, rfl, (getE_mem h.so).mpr ?_, r⟩
    rw [q]
    exact m
theorem BkOk.len {H : Hp} {kvs : List (List Key × V)} {es : Bk} (h : BkOk H kvs es) : kvs.length = es.length := by
  have n2 : (es.map fun e => keyP e.1).Nodup := by
    rw [List.nodup_iff_pairwise_ne, List.pairwise_map]
    exact h.so.imp fun l q => l.ne (keyP_inj q)
  have p := nodup_perm h.nd n2 fun k => by
    constructor
    · intro m
      cases e : valV kvs k with
      | none => exact absurd m (by
          intro m
          obtain ⟨kv, m1, rfl⟩ := List.mem_map.mp m
          have : (kvs.any fun x => decide (x.1 = kv.1)) = true := List.any_eq_true.mpr ⟨kv, m1, decide_eq_true rfl⟩
          rw [valV_any, e] at this
          cases this)
      | some v =>
        obtain ⟨f, mf, q, _⟩ := h.fw k v e
        exact List.mem_map.mpr ⟨f, mf, q.symm⟩
    · intro m
      obtain ⟨f, mf, rfl⟩ := List.mem_map.mp m
      obtain ⟨v, hv⟩ := h.bw f mf
      have : (kvs.any fun x => decide (x.1 = keyP f.1)) = true := by rw [valV_any, hv]; rfl
      obtain ⟨kv, m1, q⟩ := List.any_eq_true.mp this
      exact List.mem_map.mpr ⟨kv, m1, of_decide_eq_true q⟩
  have := p.length_eq
  rw [List.length_map, List.length_map] at this
  exact this
theorem putT_keys {kvs : List (List Key × V)} {k : List Key} {v : V} (h : (kvs.map (·.1)).Nodup) : ((putK kvs k v).map (·.1)).Nodup := by
  cases e : valV kvs k with
  | none =>
    rw [putK_new v e, List.map_append, List.nodup_append]
    refine ⟨h, by simp, fun a ha b hb => ?_⟩
    have eb : b = k := by simpa using hb
    rintro rfl
    rw [eb] at ha
    obtain ⟨kv, m1, q⟩ := List.mem_map.mp ha
    have : (kvs.any fun x => decide (x.1 = k)) = true := List.any_eq_true.mpr ⟨kv, m1, decide_eq_true q⟩
    rw [valV_any, e] at this
    cases this
  | some u =>
    have a : (kvs.any fun kv => decide (kv.1 = k)) = true := by rw [valV_any, e]; rfl
    unfold putK
    rw [if_pos a]
    have hk : (kvs.map fun kv => if kv.1 = k then (kv.1, v) else kv).map (·.1) = kvs.map (·.1) := by
      rw [List.map_map]
      refine List.map_congr_left fun kv _ => ?_
      show (if kv.1 = k then (kv.1, v) else kv).1 = kv.1
      split <;> rfl
    rw [hk]
    exact h
theorem BkOk.put {H : Hp} {kvs : List (List Key × V)} {es : Bk} {p : Int × Int} {x : Ent} {v : V} (h : BkOk H kvs es) (r : EntR H v x) : BkOk H (putK kvs (keyP p) v) (insE p x es) := by
  refine ⟨putT_keys h.nd, asc_insE h.so, fun k u e => ?_, fun e m => ?_⟩
  · rw [valV_put] at e
    split at e
    · rename_i q
      cases e
      exact ⟨(p, x), (mem_insE h.so _).mpr (.inl rfl), q, r⟩
    · rename_i q
      obtain ⟨f, mf, q2, r2⟩ := h.fw k u e
      exact ⟨f, (mem_insE h.so _).mpr (.inr ⟨mf, fun z => q (by rw [q2, z])⟩), q2, r2⟩
  · rw [valV_put]
    rcases (mem_insE h.so e).mp m with rfl | ⟨m, n⟩
    · exact ⟨v, if_pos rfl⟩
    · rw [if_neg fun z => n (keyP_inj z)]
      exact h.bw e m
theorem BkOk.del {H : Hp} {kvs : List (List Key × V)} {es : Bk} {p : Int × Int} (h : BkOk H kvs es) : BkOk H (dropK kvs (keyP p)) (delE p es) := by
  refine ⟨List.Nodup.sublist (List.Sublist.map _ List.filter_sublist) h.nd, asc_delE h.so, fun k u e => ?_, fun e m => ?_⟩
  · rw [valV_drop] at e
    split at e
    · cases e
    · rename_i q
      obtain ⟨f, mf, q2, r2⟩ := h.fw k u e
      exact ⟨f, mem_delE.mpr ⟨mf, fun z => q (by rw [q2, z])⟩, q2, r2⟩
  · obtain ⟨m, n⟩ := mem_delE.mp m
    rw [valV_drop, if_neg fun z => n (keyP_inj z)]
    exact h.bw e m
theorem BkOk.nil {H : Hp} : BkOk H [] [] := ⟨List.nodup_nil, List.Pairwise.nil, fun k v e => (by rw [valV_nil] at e; cases e), fun e m => (by cases m)⟩
theorem len_insE {p : Int × Int} {x : Ent} : ∀ {es : Bk}, (insE p x es).length ≤ es.length + 1
  | [] => Nat.le_refl _
  | a :: r => by
    unfold insE
    split
    · simp
    · split
      · simp
      · have := len_insE (p := p) (x := x) (es := r)
        simp only [List.length_cons]
        omega
theorem len_delE {p : Int × Int} {es : Bk} : (delE p es).length ≤ es.length := List.length_filter_le _ _
theorem bkW_ins {p : Int × Int} {x : Ent} {es : Bk} (a : Asc es) (h : BkW es) (hp : 0 ≤ p.1 ∧ p.1 ≤ 1000000 ∧ 0 ≤ p.2 ∧ p.2 ≤ 1000000) (hx : EntOk x) : BkW (insE p x es) := fun e m => by
  rcases (mem_insE a e).mp m with rfl | ⟨m, _⟩
  · exact ⟨hp, hx⟩
  · exact h e m
theorem bkW_del {p : Int × Int} {es : Bk} (h : BkW es) : BkW (delE p es) := fun e m => h e (mem_delE.mp m).1
/-! ### places in order -/
def PlR (H : Hp) (a : Addr) (q : Int × Int) : Prop := H a = some (.tup [.int q.1, .int q.2])
def pl2 (q : Int × Int) : List Int := [q.1, q.2]
theorem pl2_inj {p q : Int × Int} (h : pl2 p = pl2 q) : p = q := by
  unfold pl2 at h
  injection h with h1 h2
  injection h2 with h2 _
  exact Prod.ext h1 h2
def Pl6 (q : Int × Int) : Prop := 0 ≤ q.1 ∧ q.1 ≤ 1000000 ∧ 0 ≤ q.2 ∧ q.2 ≤ 1000000
theorem code_pl {q : Int × Int} : TS.code 1000001 (pl2 q) = q.1 * 1000001 + q.2 := by
  show q.1 * 1000001 ^ 1 + (q.2 * 1000001 ^ 0 + 0) = _
  rw [Int.pow_succ, Int.pow_zero]
  omega
theorem code_lt {p q : Int × Int} (hp : Pl6 p) (hq : Pl6 q) (h : ltP p q) : TS.code 1000001 (pl2 p) < TS.code 1000001 (pl2 q) := by
  rw [code_pl, code_pl]
  unfold Pl6 ltP at *
  omega
theorem code_inj {p q : Int × Int} (hp : Pl6 p) (hq : Pl6 q) (h : TS.code 1000001 (pl2 p) = TS.code 1000001 (pl2 q)) : p = q := by
  rw [code_pl, code_pl] at h
  unfold Pl6 at *
  exact Prod.ext (by omega) (by omega)
theorem BkOk.keys {H : Hp} {kvs : List (List Key × V)} {es : Bk} (h : BkOk H kvs es) : ∃ qs : List (Int × Int), kvs.map (·.1) = qs.map keyP ∧ qs.Perm (es.map (·.1)) := by
  have all : ∀ kv ∈ kvs, ∃ e ∈ es, kv.1 = keyP e.1 := fun kv m => by
    have : (kvs.any fun x => decide (x.1 = kv.1)) = true := List.any_eq_true.mpr ⟨kv, m, decide_eq_true rfl⟩
    rw [valV_any] at this
    obtain ⟨v, hv⟩ := Option.isSome_iff_exists.mp this
    obtain ⟨f, mf, q, _⟩ := h.fw _ _ hv
    exact ⟨f, mf, q⟩
  have mk : ∀ (l : List (List Key × V)), (∀ kv ∈ l, ∃ e ∈ es, kv.1 = keyP e.1) → ∃ qs : List (Int × Int), l.map (·.1) = qs.map keyP ∧ ∀ q ∈ qs, q ∈ es.map (·.1) := by
    intro l
    induction l with
    | nil => exact fun _ => ⟨[], rfl, fun q m => by cases m⟩
    | cons kv l ih =>
      intro hl
      obtain ⟨qs, e1, e2⟩ := ih fun x m => hl x (List.mem_cons_of_mem _ m)
      obtain ⟨f, mf, q⟩ := hl kv List.mem_cons_self
      refine ⟨f.1 :: qs, by rw [List.map_cons, List.map_cons, e1, q], fun y m => ?_⟩
      rcases List.mem_cons.mp m with rfl | m
      · exact List.mem_map.mpr ⟨f, mf, rfl⟩
      · exact e2 y m
  obtain ⟨qs, e1, e2⟩ := mk kvs all
  refine ⟨qs, e1, nodup_perm ?_ ?_ fun q => ⟨e2 q, fun m => ?_⟩⟩
  · have := h.nd
    rw [e1] at this
    exact (List.nodup_iff_pairwise_ne.mpr ((List.pairwise_map.mp (List.nodup_iff_pairwise_ne.mp this)).imp fun n q => n (by rw [q])))
  · rw [List.nodup_iff_pairwise_ne, List.pairwise_map]
    exact h.so.imp fun l q => l.ne q
  · obtain ⟨f, mf, rfl⟩ := List.mem_map.mp m
    obtain ⟨v, hv⟩ := h.bw f mf
    have : (kvs.any fun x => decide (x.1 = keyP f.1)) = true := by rw [valV_any, hv]; rfl
    obtain ⟨kv, m1, q⟩ := List.any_eq_true.mp this
    have m2 : keyP f.1 ∈ qs.map keyP := by
      rw [← e1]
      exact List.mem_map.mpr ⟨kv, m1, of_decide_eq_true q⟩
    obtain ⟨y, my, q2⟩ := List.mem_map.mp m2
    rw [← keyP_inj q2]
    exact my
/-- sorted(d) gives the places in order -/
theorem sortE {H : Hp} {d : Addr} {es : Bk} {Q : VK} (h : DicAt H d es) (w : BkW es) (l : es.length < 64)
    (k : ∀ (ys : List Addr) (p : Addr), Paired (PlR H) ys (es.map (·.1)) → H p = none → Q (.ref p) (upd H p (.lst (ys.map V.ref)))) : rSortDT 2 1000001 [.ref d] H Q := by
  obtain ⟨kvs, hd, hk⟩ := h
  obtain ⟨qs, e1, e2⟩ := hk.keys
  have hq : ∀ q ∈ qs, Pl6 q := fun q m => by
    obtain ⟨f, mf, rfl⟩ := List.mem_map.mp (e2.mem_iff.mp m)
    exact (w f mf).1
  refine ⟨d, kvs, qs.map pl2, rfl, hd, ?_, by rw [hk.len]; exact l, fun n m => ?_, fun ys ns p hp h1 h2 np => ?_⟩
  · rw [e1, List.map_map]
    rfl
  · obtain ⟨q, mq, rfl⟩ := List.mem_map.mp m
    have := hq q mq
    unfold Pl6 at this
    refine ⟨rfl, fun x mx => ?_⟩
    simp only [pl2, List.mem_cons, List.not_mem_nil, or_false] at mx
    rcases mx with rfl | rfl <;> omega
  · have e3 : ns = (es.map (·.1)).map pl2 := by
      refine List.Perm.eq_of_pairwise (le := fun n m => TS.code 1000001 n ≤ TS.code 1000001 m) (fun a b ma mb x y => ?_) h2 ?_ (h1.trans (e2.map pl2))
      · obtain ⟨q1, m1, rfl⟩ := List.mem_map.mp (h1.mem_iff.mp ma)
        obtain ⟨q2, m2, rfl⟩ := List.mem_map.mp mb
        have m2' := e2.mem_iff.mpr m2
        rw [code_inj (hq _ m1) (hq _ m2') (by omega)]
      · rw [List.map_map, List.pairwise_map]
        refine List.Pairwise.imp_of_mem (fun {a b} ma mb l => ?_) hk.so
        exact Int.le_of_lt (code_lt (w a ma).1 (w b mb).1 l)
    refine k ys p ?_ np
    rw [e3] at hp
    clear h1 h2 e3
    generalize es.map (·.1) = zs at hp
    induction zs generalizing ys with
    | nil => cases hp; exact .nil
    | cons z zs ih =>
      cases hp with
      | cons r t => exact .cons r (ih _ t)
/-! ### names in the order of the entries -/
def addN (acc : List Str) (n : Str) : List Str := if n ∈ acc then acc else acc ++ [n]
def pickN (k : Str) (acc : List Str) (x : Ent) : List Str := match x with
  | [.str w, .str n, _] => if w = k then addN acc n else acc
  | _ => acc
def namesE (k : Str) (es : Bk) : List Str := es.foldl (fun acc e => pickN k acc e.2) []
theorem namesE_snoc {k : Str} {es : Bk} {i : Nat} {e : (Int × Int) × Ent} (h : es[i]? = some e) : namesE k (es.take (i + 1)) = pickN k (namesE k (es.take i)) e.2 := by
  unfold namesE
  rw [List.take_add_one, h, List.foldl_append]
  rfl
theorem addN_keys {kvs : List (Key × V)} {acc : List Str} {n : Str} {v : V} (h : kvs.map (·.1) = acc.map Sum.inr) : (putK kvs (.inr n) v).map (·.1) = (addN acc n).map Sum.inr := by
  unfold addN
  cases e : valV kvs (.inr n) with
  | none =>
    have nm : n ∉ acc := fun m => valV_none.mp e (by rw [h]; exact List.mem_map.mpr ⟨n, m, rfl⟩)
    rw [putK_new v e, if_neg nm, List.map_append, List.map_append, h]
    rfl
  | some u =>
    have a : (kvs.any fun kv => decide (kv.1 = .inr n)) = true := by rw [valV_any, e]; rfl
    have m : n ∈ acc := by
      have this : (Sum.inr n : Key) ∈ kvs.map (·.1) := List.mem_map.mpr ⟨_, valV_mem e, rfl⟩
      rw [h] at this
      obtain ⟨y, my, q⟩ := List.mem_map.mp this
      rw [← Sum.inr.inj q]
      exact my
    unfold putK
    rw [if_pos a, if_pos m, ← h, List.map_map]
    refine List.map_congr_left fun kv _ => ?_
    show (if kv.1 = .inr n then (kv.1, v) else kv).1 = kv.1
    split <;> rfl
theorem addN_len {acc : List Str} {n : Str} : (addN acc n).length ≤ acc.length + 1 := by
  unfold addN
  split <;> simp
theorem pickN_of {k w n : Str} {y : V} {acc : List Str} : pickN k acc [.str w, .str n, y] = if w = k then addN acc n else acc := rfl
theorem namesE_ok {k : Str} {es : Bk} (w : BkW es) : (∀ z ∈ namesE k es, NameOk z) ∧ (namesE k es).length ≤ es.length ∧ (namesE k es).Nodup := by
  have g : ∀ (es : Bk) (acc : List Str), BkW es → (∀ z ∈ acc, NameOk z) → acc.Nodup → (∀ z ∈ es.foldl (fun acc e => pickN k acc e.2) acc, NameOk z) ∧ (es.foldl (fun acc e => pickN k acc e.2) acc).length ≤ acc.length + es.length ∧ (es.foldl (fun acc e => pickN k acc e.2) acc).Nodup := by
    intro es
    induction es with
    | nil => exact fun acc _ h n => ⟨h, Nat.le_refl _, n⟩
    | cons e es ih =>
      intro acc hw ha hn
      obtain ⟨kk, n, y, ex, hn1, _⟩ := (hw e List.mem_cons_self).2.ex
      have hs : (∀ z ∈ pickN k acc e.2, NameOk z) ∧ (pickN k acc e.2).length ≤ acc.length + 1 ∧ (pickN k acc e.2).Nodup := by
        rw [ex, pickN_of]
        split
        · refine ⟨fun z m => ?_, addN_len, ?_⟩
          · unfold addN at m
            split at m
            · exact ha z m
            · rcases List.mem_append.mp m with m | m
              · exact ha z m
              · rw [List.mem_singleton.mp m]
                exact hn1
          · unfold addN
            split
            · exact hn
            · rename_i c
              rw [List.nodup_append]
              refine ⟨hn, by simp, fun a ma b mb e => ?_⟩
              rw [List.mem_singleton.mp mb] at e
              rw [e] at ma
              exact c ma
        · exact ⟨ha, by omega, hn⟩
      obtain ⟨a1, a2, a3⟩ := ih _ (fun f m => hw f (List.mem_cons_of_mem _ m)) hs.1 hs.2.2
      refine ⟨a1, Nat.le_trans a2 ?_, a3⟩
      have := hs.2.1
      simp only [List.length_cons]
      omega
  obtain ⟨a, b, c⟩ := g es [] w (fun z m => by cases m) List.nodup_nil
  simp only [List.length_nil, Nat.zero_add] at b
  exact ⟨a, b, c⟩
theorem BkOk.at_ {H : Hp} {kvs : List (List Key × V)} {es : Bk} (h : BkOk H kvs es) {e : (Int × Int) × Ent} (m : e ∈ es) : ∃ v, valV kvs (keyP e.1) = some v ∧ EntR H v e.2 := by
  obtain ⟨v, hv⟩ := h.bw e m
  obtain ⟨f, mf, q, r⟩ := h.fw _ _ hv
  have := asc_uniq h.so m mf (keyP_inj q)
  rw [this]
  rw [this] at hv
  exact ⟨v, hv, r⟩
theorem inV3 {v : V} {a b c : Str} (h : flatV v = true) : inV v [.str a, .str b, .str c] = decide (v = .str a ∨ v = .str b ∨ v = .str c) := by
  cases v with
  | str z =>
    by_cases h1 : a = z
    · subst h1
      simp [inV, eqV]
    · by_cases h2 : b = z
      · subst h2
        simp [inV, eqV]
      · by_cases h3 : c = z
        · subst h3
          simp [inV, eqV]
        · have e1 : (a == z) = false := beq_eq_false_iff_ne.mpr h1
          have e2 : (b == z) = false := beq_eq_false_iff_ne.mpr h2
          have e3 : (c == z) = false := beq_eq_false_iff_ne.mpr h3
          have f1 : ¬ z = a := fun q => h1 q.symm
          have f2 : ¬ z = b := fun q => h2 q.symm
          have f3 : ¬ z = c := fun q => h3 q.symm
          simp [inV, eqV, e1, e2, e3, f1, f2, f3]
  | non => simp [inV, eqV]
  | bl x => simp [inV, eqV]
  | int x => simp [inV, eqV]
  | _ => cases h
theorem scal_s {v : V} {z : Str} (h : flatV v = true) : scal v (.str z) = true := by cases v <;> first | rfl | cases h
/-! ### a def as a value, a def held by a local name -/
def tDefn (K : PySem.W.Frag) (x : Str) : TE := fun _ H Q => ∀ f : Addr, PySem.W.nsIn K mainGlobals x = some (some (.ref f)) → Q (.ref f) H
theorem pe_defn {X : Cx} {x : Str} {p : Pos} (h : ∃ f : Addr, PySem.W.nsIn X.K mainGlobals x = some (some (.ref f)) ∧ X.mg x = some (.ref f)) (hg : Gl X x) (hdb : (x == ("__debug__" : Str)) = false := by decide) : PE X (.Name x p) (tDefn X.K x) := by
  obtain ⟨f, h1, h2⟩ := h
  exact ⟨fun pins s σ H Q I q => (pe_glob (v := .ref f) hg h2 rfl hdb).run pins s σ H Q I (q f h1)⟩
def tCallO (i : Nat) (N : Addr → Prop) (sp : Sp) (E : L2.St → XK) (t : TA) : TE := fun σ H Q => ∃ f, σ[i]? = some (some (.ref f)) ∧ N f ∧ t σ H fun vs H1 => sp vs H1 Q (E σ)
theorem pe_callO {X : Cx} {i : Nat} {N : Addr → Prop} {sp : Sp} {E : L2.St → XK} {x : Str} {p pos : Pos} {e : Expr} {es : List Expr} {t : TA} (A : ∀ f, N f → ∃ fd ps k, FnOk X.prog X.w X.K X.mg X.base (L2N.CX X.prog X.w) k f fd ps sp ∧ PySem.W.keepIn X.K (.ref f) = true ∧ Binds X.K fd ps [] ∧ Room k X.A)
    (hN : X.N[i]? = some x) (hv : Vis X.env.scope x) (hx : ∀ σ, PassesAt (L2N.CX X.prog X.w) X σ (E σ)) (ha : PA X (e :: es) t)
    (hdb : (x == ("__debug__" : Str)) = false := by decide) (hcd : (x == ("__classdict__" : Str)) = false := by decide)
    (he : starEach (e :: es) X.env = (false, eval e X.env) :: starEach es X.env := by rfl) (hpl : (backTo pos (starEach es X.env)).any (·.1) = false := by rfl) : PE X (.Call (.Name x p) (e :: es) [] pos) (tCallO i N sp E t) := by
  refine ⟨fun pins s σ H Q I h => ?_⟩
  obtain ⟨f, hs, hn, ht⟩ := h
  obtain ⟨fd, ps, k, F, hk, hb, hr⟩ := A f hn
  refine wpAny_Call_Name_kw (thn ((pe_var (pos := p) hN hv hdb hcd).run pins s σ H (fun v H1 => v = .ref f ∧ H1 = H) I ⟨.ref f, hs, rfl, rfl⟩) fun u s1 ⟨v, H1, I1, r1, q1⟩ => ?_)
  obtain ⟨rfl, rfl⟩ := q1
  cases r1
  refine PySem.W.callWith_K (h₀ := X.base) I.ok.mod.kin hk (thn (ha.run pos pins s1 σ _ _ I1 ht) fun us s2 ⟨vs, H2, I2, r, q⟩ => ⟨I2.kIn, ?_⟩) he hpl
  exact run_fnS F hr hb (hx σ) I2 r q
theorem own_held {P : Program} {w : World} {K : PySem.W.Frag} {mg : Str → Option Value} {base : Heap} {k : Nat} {x : Str} {ps : List Str} {sp : Sp} {A : Around} (O : Own P w K mg base k x ps sp) (hr : Room k A) {f : Addr} (h : mg x = some (.ref f)) :
    ∃ fd ps k, FnOk P w K mg base (L2N.CX P w) k f fd ps sp ∧ PySem.W.keepIn K (.ref f) = true ∧ Binds K fd ps [] ∧ Room k A := by
  obtain ⟨g, fd, F, hm, hk, hb⟩ := O.ex
  rw [h] at hm
  cases hm
  exact ⟨fd, ps, k, F, hk, hb, hr⟩
def dPl (q : Int × Int) : PyData := .tuple [.int q.1, .int q.2]
theorem plDa {K : PySem.W.Frag} {H : Hp} : ∀ {ys : List Addr} {qs : List (Int × Int)}, Paired (PlR H) ys qs → DaAll K H (ys.map V.ref) (qs.map dPl) 1
  | _, _, .nil => .nil
  | _, _, .cons r t => .cons (.tup (.cons .int (.cons .int .nil)) (SqT.of r)) (plDa t)
theorem PlR.keep {H H' : Hp} {a c : Addr} {q : Int × Int} {u : HO} (h : PlR H a q) (e : H c = some u) (n : ∀ xs, u ≠ .tup xs) (k : Keep c H H') : PlR H' a q := k _ _ h (ne_of h e fun z => n _ z.symm)
theorem whole_ok {i : Int} (h : 0 ≤ i) (l : i ≤ 1000000) : wholeB (.int i) 0 = true := by
  show (decide (0 ≤ i) && decide (i ≤ 1000000)) = true
  rw [decide_eq_true h, decide_eq_true l]
  rfl
theorem Bag.nedT {H : Hp} {L b d : Addr} {kvs : List (List Key × V)} (h : Bag H L b) (e : H d = Option.some (.dT kvs)) : d ≠ b ∧ d ≠ L := by
  obtain ⟨ns, i, big, mix, cnt, h1, h2, _⟩ := h
  exact ⟨ne_of e h1 (fun z => nomatch z), ne_of e h2 (fun z => nomatch z)⟩
theorem DicAt.put {H : Hp} {d : Addr} {kv : List (List Key × V)} {es : Bk} {q : Int × Int} {x : Ent} {u : Addr} (hd : H d = some (.dT kv)) (h : BkOk H kv es) (e : H u = some (.tup x)) : DicAt (upd H d (.dT (putK kv (keyP q) (.ref u)))) d (insE q x es) :=
  ⟨_, upd_same, (h.put ⟨u, rfl, e⟩).keep hd (fun _ z => nomatch z) keep_upd⟩
theorem DicAt.del {H : Hp} {d : Addr} {kv : List (List Key × V)} {es : Bk} {q : Int × Int} (hd : H d = some (.dT kv)) (h : BkOk H kv es) : DicAt (upd H d (.dT (dropK kv (keyP q)))) d (delE q es) :=
  ⟨_, upd_same, h.del.keep hd (fun _ z => nomatch z) keep_upd⟩
/-! ### rows (day, number, entry) as the law draws them -/
def RowR (H : Hp) (v : V) (r : (Int × Int) × Ent) : Prop := ∃ t e, v = .ref t ∧ H t = some (.tup [.int r.1.1, .int r.1.2, .ref e]) ∧ H e = some (.tup r.2)
def Rows (H : Hp) : List V → Bk → Prop := Paired (RowR H)
theorem RowR.same {H H' : Hp} {v : V} {r : (Int × Int) × Ent} (h : RowR H v r) (s : Same H H') : RowR H' v r := let ⟨t, e, a, b, c⟩ := h; ⟨t, e, a, s _ _ b, s _ _ c⟩
theorem RowR.keep {H H' : Hp} {v : V} {r : (Int × Int) × Ent} {c : Addr} {u : HO} (h : RowR H v r) (e : H c = some u) (n : ∀ xs, u ≠ .tup xs) (k : Keep c H H') : RowR H' v r :=
  let ⟨t, x, a, b, d⟩ := h; ⟨t, x, a, k _ _ b (ne_of b e fun z => n _ z.symm), k _ _ d (ne_of d e fun z => n _ z.symm)⟩
theorem Rows.same {H H' : Hp} {xs : List V} {rs : Bk} (h : Rows H xs rs) (s : Same H H') : Rows H' xs rs := Paired.mapP h fun _ _ r => r.same s
theorem Rows.keep {H H' : Hp} {xs : List V} {rs : Bk} {c : Addr} {u : HO} (h : Rows H xs rs) (e : H c = some u) (n : ∀ xs, u ≠ .tup xs) (k : Keep c H H') : Rows H' xs rs := Paired.mapP h fun _ _ r => r.keep e n k
theorem Rows.putL {H H' : Hp} {xs ys : List V} {rs : Bk} {c : Addr} (h : Rows H xs rs) (e : H c = some (.lst ys)) (k : Keep c H H') : Rows H' xs rs := h.keep e (fun _ z => nomatch z) k
/-- within the days and numbers that are drawn -/
def Near (n : Nat) (rs : Bk) : Prop := ∀ r ∈ rs, 0 ≤ r.1.1 ∧ r.1.1 ≤ 10 * n ∧ 0 ≤ r.1.2 ∧ r.1.2 ≤ 10 * n
def dRow (r : (Int × Int) × Ent) : PyData := .tuple [.int r.1.1, .int r.1.2, dEnt r.2]
theorem rowsDa {K : PySem.W.Frag} {H : Hp} : ∀ {xs : List V} {rs : Bk}, Rows H xs rs → (∀ r ∈ rs, EntOk r.2) → DaAll K H xs (rs.map dRow) 2
  | _, _, .nil, _ => .nil
  | _, _, .cons ⟨t, e, q, h1, h2⟩ tl, w => by
    subst q
    exact .cons (.tup (.cons .int (.cons .int (.cons ((w _ List.mem_cons_self).da h2) .nil))) (SqT.of h1)) (rowsDa tl fun r m => w r (List.mem_cons_of_mem _ m))
theorem eqNil {K : PySem.W.Frag} {H : Hp} {a b : Addr} {xs : List V} {ds : List PyData} {n : Nat} {Q : VK} (ha : H a = some (.lst xs)) (hb : H b = some (.lst [])) (h : DaAll K H xs ds n) (l : n ≤ 50) (k : Q (.bl xs.isEmpty) H) : rEqD K (.ref a) (.ref b) H Q := by
  have A : Da K H (.ref a) (.list ds) (n + 1) := .lst h (SqL.of ha)
  have B : Da K H (.ref b) (.list []) 1 := .lst .nil (SqL.of hb)
  refine ⟨_, _, A.dp, B.dp, A.shaped (by omega), B.shaped, ?_⟩
  have e : PyData.eqv (.list ds) (.list []) = xs.isEmpty := by
    cases h.dp with
    | nil => rfl
    | cons _ _ => rfl
  rw [e]
  exact k
theorem neNil {K : PySem.W.Frag} {H : Hp} {a b : Addr} {xs : List V} {ds : List PyData} {n : Nat} {Q : VK} (ha : H a = some (.lst xs)) (hb : H b = some (.lst [])) (h : DaAll K H xs ds n) (l : n ≤ 50) (k : Q (.bl (!xs.isEmpty)) H) : rNeD K (.ref a) (.ref b) H Q := by
  have A : Da K H (.ref a) (.list ds) (n + 1) := .lst h (SqL.of ha)
  have B : Da K H (.ref b) (.list []) 1 := .lst .nil (SqL.of hb)
  refine ⟨_, _, A.dp, B.dp, A.shaped (by omega), B.shaped, ?_⟩
  have e : PyData.eqv (.list ds) (.list []) = xs.isEmpty := by
    cases h.dp with
    | nil => rfl
    | cons _ _ => rfl
  rw [e]
  exact k
theorem paired_last {α β : Type} {F : α → β → Prop} {xs : List α} {fs : List β} (h : Paired F xs fs) (n : xs ≠ []) : ∃ ys y gs g, xs = ys ++ [y] ∧ fs = gs ++ [g] ∧ Paired F ys gs ∧ F y g := by
  have hl := h.length
  have h0 := List.length_pos_iff.mpr n
  refine ⟨xs.take (xs.length - 1), xs[xs.length - 1], fs.take (xs.length - 1), fs[xs.length - 1]'(by omega), ?_, ?_, paired_take _ h, paired_get h (List.getElem?_eq_getElem (by omega)) (List.getElem?_eq_getElem (by omega))⟩
  · rw [List.take_append_getElem (by omega), List.take_of_length_le (by omega)]
  · rw [List.take_append_getElem (by omega), List.take_of_length_le (by omega)]
theorem asc_last {es : Bk} {e : (Int × Int) × Ent} (h : Asc (es ++ [e])) : Asc es ∧ ∀ r ∈ es, ltP r.1 e.1 := by
  obtain ⟨a, _, c⟩ := List.pairwise_append.mp h
  exact ⟨a, fun r m => c r m e List.mem_cons_self⟩
theorem asc_snoc {es : Bk} {e : (Int × Int) × Ent} (h : Asc es) (k : ∀ r ∈ es, ltP r.1 e.1) : Asc (es ++ [e]) :=
  List.pairwise_append.mpr ⟨h, List.pairwise_singleton _ _, fun r m x mx => by rw [List.mem_singleton.mp mx]; exact k r m⟩
/-! ### what is kept while entries are drawn -/
structure Dis (L b nm sn en bt lf : Addr) : Prop where
  nb : nm ≠ b
  sb : sn ≠ b
  eb : en ≠ b
  tb : bt ≠ b
  fb : lf ≠ b
  eL : en ≠ L
  tL : bt ≠ L
  fL : lf ≠ L
  et : en ≠ bt
  ne : nm ≠ en
  nt : nm ≠ bt
  se : sn ≠ en
  st : sn ≠ bt
  ef : en ≠ lf
  tf : bt ≠ lf
  nf : nm ≠ lf
  sf : sn ≠ lf
structure SE (H : Hp) (L b nm sn en bt lf : Addr) (zs : List Str) (xs : List V) (rs : Bk) (nb : Nat) (kvs : List (Key × V)) (stock costs : Int) (i : Nat) : Prop where
  B : Bag H L b
  hn : H nm = some (.lst (zs.map V.str))
  hs : H sn = some (.lst (zs.reverse.map V.str))
  he : H en = some (.lst xs)
  hR : Rows H xs rs
  asc : Asc rs
  w : ∀ r ∈ rs, EntOk r.2
  near : Near rs.length rs
  lr : rs.length ≤ i
  hb : H bt = some (.lst ((zs.take nb).map V.str))
  n6 : nb ≤ 6
  hf : H lf = some (.dK kvs)
  hk : KOk zs kvs
  hv : ∀ z v, valV kvs (.inr z) = some v → ∃ u : Int, v = .int u ∧ 0 ≤ u ∧ u ≤ 1000000
  hst : stock.natAbs ≤ 1000000 * i
  hc0 : 0 ≤ costs
  hc3 : costs ≤ 3
section
variable {H H' : Hp} {L b nm sn en bt lf : Addr} {zs : List Str} {xs : List V} {rs : Bk} {nb : Nat} {kvs : List (Key × V)} {stock costs : Int} {i : Nat}
theorem SE.same (S : SE H L b nm sn en bt lf zs xs rs nb kvs stock costs i) (s : Same H H') : SE H' L b nm sn en bt lf zs xs rs nb kvs stock costs i :=
  ⟨S.B.same s, s _ _ S.hn, s _ _ S.hs, s _ _ S.he, S.hR.same s, S.asc, S.w, S.near, S.lr, s _ _ S.hb, S.n6, s _ _ S.hf, S.hk, S.hv, S.hst, S.hc0, S.hc3⟩
theorem SE.bag (S : SE H L b nm sn en bt lf zs xs rs nb kvs stock costs i) (d : Dis L b nm sn en bt lf) (k : Keep b H H') (B : Bag H' L b) : SE H' L b nm sn en bt lf zs xs rs nb kvs stock costs i := by
  obtain ⟨xb, hb⟩ := S.B.lst
  exact ⟨B, k _ _ S.hn d.nb, k _ _ S.hs d.sb, k _ _ S.he d.eb, S.hR.putL hb k, S.asc, S.w, S.near, S.lr, k _ _ S.hb d.tb, S.n6, k _ _ S.hf d.fb, S.hk, S.hv, S.hst, S.hc0, S.hc3⟩
theorem SE.up (S : SE H L b nm sn en bt lf zs xs rs nb kvs stock costs i) {j : Nat} (l : i ≤ j) {st c : Int} (h : st.natAbs ≤ 1000000 * j) (c0 : 0 ≤ c) (c3 : c ≤ 3) : SE H L b nm sn en bt lf zs xs rs nb kvs st c j :=
  ⟨S.B, S.hn, S.hs, S.he, S.hR, S.asc, S.w, S.near, Nat.le_trans S.lr l, S.hb, S.n6, S.hf, S.hk, S.hv, h, c0, c3⟩
theorem SE.buy (S : SE H L b nm sn en bt lf zs xs rs nb kvs stock costs i) (d : Dis L b nm sn en bt lf) (n : nb < 6) {x : V} (hx : (zs.map V.str)[nb]? = some x) : SE (upd H bt (.lst ((zs.take nb).map V.str ++ [x]))) L b nm sn en bt lf zs xs rs (nb + 1) kvs stock costs i := by
  refine ⟨S.B.keep keep_upd d.tb d.tL, une d.nt S.hn, une d.st S.hs, une d.et S.he, S.hR.putL S.hb keep_upd, S.asc, S.w, S.near, S.lr, ?_, n, une d.tf.symm S.hf, S.hk, S.hv, S.hst, S.hc0, S.hc3⟩
  rw [upd_same, List.map_take, List.map_take, List.take_add_one, hx]
  rfl
theorem SE.left (S : SE H L b nm sn en bt lf zs xs rs nb kvs stock costs i) (d : Dis L b nm sn en bt lf) {z : Str} {u : Int} (hz : z ∈ zs) (u0 : 0 ≤ u) (u1 : u ≤ 1000000) : SE (upd H lf (.dK (putK kvs (.inr z) (.int u)))) L b nm sn en bt lf zs xs rs nb (putK kvs (.inr z) (.int u)) stock costs i := by
  refine ⟨S.B.keep keep_upd d.fb d.fL, une d.nf S.hn, une d.sf S.hs, une d.ef S.he, S.hR.keep S.hf (fun _ z => nomatch z) keep_upd, S.asc, S.w, S.near, S.lr, une d.tf S.hb, S.n6, upd_same, S.hk.put hz _, fun y v e => ?_, S.hst, S.hc0, S.hc3⟩
  rw [valV_put] at e
  split at e
  · cases e
    exact ⟨u, rfl, u0, u1⟩
  · exact S.hv y v e
theorem near_up {n m : Nat} {rs : Bk} (h : Near n rs) (l : n ≤ m) : Near m rs := fun r m' => by
  obtain ⟨a, b, c, d⟩ := h r m'
  exact ⟨a, by omega, c, by omega⟩
theorem SE.row (S : SE H L b nm sn en bt lf zs xs rs nb kvs stock costs i) (d : Dis L b nm sn en bt lf) {q : Int × Int} {x : Ent} {t e : Addr} (ht : H t = some (.tup [.int q.1, .int q.2, .ref e])) (he : H e = some (.tup x)) (ox : EntOk x) (ha : ∀ r ∈ rs, ltP r.1 q)
    (hq : 0 ≤ q.1 ∧ q.1 ≤ 10 * (rs.length + 1 : Nat) ∧ 0 ≤ q.2 ∧ q.2 ≤ 10 * (rs.length + 1 : Nat)) (l : rs.length < i) : SE (upd H en (.lst (xs ++ [.ref t]))) L b nm sn en bt lf zs (xs ++ [.ref t]) (rs ++ [(q, x)]) nb kvs stock costs i := by
  have hl : (rs ++ [(q, x)]).length = rs.length + 1 := by simp
  refine ⟨S.B.keep keep_upd d.eb d.eL, une d.ne S.hn, une d.se S.hs, upd_same, Paired.snoc (S.hR.putL S.he keep_upd) (RowR.keep ⟨t, e, rfl, ht, he⟩ S.he (fun _ z => nomatch z) keep_upd), asc_snoc S.asc ha, fun r m => ?_, fun r m => ?_, by rw [hl]; exact l, une d.et.symm S.hb, S.n6, une d.ef.symm S.hf, S.hk, S.hv, S.hst, S.hc0, S.hc3⟩
  · rcases List.mem_append.mp m with m | m
    · exact S.w r m
    · rw [List.mem_singleton.mp m]
      exact ox
  · rw [hl]
    rcases List.mem_append.mp m with m | m
    · exact near_up S.near (Nat.le_succ _) r m
    · rw [List.mem_singleton.mp m]
      exact hq
end
end Lo

set_option Elab.async false
set_option linter.all false
set_option maxRecDepth 100000
set_option maxHeartbeats 4000000
/-! LoB12: sorted of rows (place, entry), the places apart. -/
namespace Lo
open PySem PySem.Spec PyProof.Rows L2
/-- u is a row: a place of two ints, and another thing -/
def PRow (h : Heap) (u : Value) (q : Int × Int) : Prop :=
  ∃ (a p : Addr) (e : Value) (t1 t2 : Tok), u = .ref a ∧ IsTup h a #[.ref p, e] ∧ IsTup h p #[.int q.1 t1, .int q.2 t2]
theorem PRow.keeps {h h' : Heap} {u : Value} {q : Int × Int} (x : PRow h u q) (k : ∀ b o, h.get? b = some o → o.cls = .type "tuple" → h'.get? b = some o) : PRow h' u q := by
  obtain ⟨a, p, e, t1, t2, z, ⟨o, ho, hc, r⟩, ⟨o2, ho2, hc2, r2⟩⟩ := x
  exact ⟨a, p, e, t1, t2, z, ⟨o, k _ _ ho hc, hc, r⟩, ⟨o2, k _ _ ho2 hc2, hc2, r2⟩⟩
theorem pfirsts {h : Heap} : ∀ vs : List Value, (∀ v ∈ vs, ∃ q, PRow h v q) → ∃ fs : List Value, PySem.W.KatTups h vs fs ∧ fs.length = vs.length ∧ ∀ f ∈ fs, ∃ (q : Addr) (o : Obj), f = Value.ref q ∧ h.get? q = some o ∧ o.cls = .type "tuple"
  | [], _ => ⟨[], PySem.W.KatTups.nil, rfl, fun f hf => by simp at hf⟩
  | v :: vs, x => by
    obtain ⟨fs, k, hl, hi⟩ := pfirsts vs fun u hu => x u (List.mem_cons_of_mem _ hu)
    obtain ⟨_, a, q, e, t1, t2, rfl, ⟨o, ho, hc, n, hd⟩, ⟨o2, ho2, hc2, _⟩⟩ := x v (List.mem_cons_self ..)
    refine ⟨.ref q :: fs, PySem.W.KatTups.cons ho hc hd rfl k, by rw [List.length_cons, List.length_cons, hl], fun f hf => ?_⟩
    rcases List.mem_cons.mp hf with rfl | hf
    · exact ⟨q, o2, rfl, ho2, hc2⟩
    · exact hi f hf
section
variable {prog : Program} {w : World} {A : Around} {s : Shared}
theorem prow_cmp {vs : List Value} {k : Value → Int × Int} (hu : A.units < cLine) (hp : ∀ v ∈ vs, PRow s.heap v (k v)) (hn : ∀ v ∈ vs, ∀ u ∈ vs, k v = k u → v = u) : SrtO.Cmp prog w A s (tuples' false) (fun p => p.1 ∈ vs) (SrtO.lt2 fun v u => SrtO.lexB (k v) (k u)) := by
  intro p q hm hm'
  have h1 := hp _ hm
  have h2 := hp _ hm'
  show wpAny (model prog w) A (keyLt' (tuples' false) p.1 q.1) (fun r s' => s' = s ∧ r = SrtO.lexB (k p.1) (k q.1)) (fun _ _ => False) s
  by_cases e : k p.1 = k q.1
  · have e1 : p.1 = q.1 := hn _ hm _ hm' e
    rw [← e1]
    have irr : SrtO.lexB (k p.1) (k p.1) = false := by
      refine SrtO.lexB_no.mpr ?_
      omega
    rw [irr]
    obtain ⟨a, b, y, t1, t2, ea, ⟨o, ho, hc, n, hd⟩, _⟩ := h1
    rw [ea]
    refine PySem.W.kat_lt ho hd ho hd ?_
    show PySem.W.KatLex prog w A false false _ [(Value.ref b, Value.ref b), (y, y)] 0 s
    refine PySem.W.kat_cons (SeqAt.EqAt.same (Value.ref b) prog w _ _ ?_)
    refine PySem.W.kat_yes (PySem.W.kat_cons (SeqAt.EqAt.same y prog w _ _ ?_))
    exact PySem.W.kat_yes (PySem.W.kat_nil ⟨rfl, rfl⟩)
  · obtain ⟨a, b, y, t1, t2, ea, ⟨o, ho, hc, n, hd⟩, hb⟩ := h1
    obtain ⟨a', b', y', t1', t2', ea', ⟨o', ho', hc', n', hd'⟩, hb'⟩ := h2
    rw [ea, ea']
    refine PySem.W.kat_lt ho hd ho' hd' ?_
    show PySem.W.KatLex prog w A false false _ [(Value.ref b, Value.ref b'), (y, y')] 0 s
    have k1 : IsTupleKey (L2.mixKind prog w) s.heap [Sum.inl (k p.1).1, Sum.inl (k p.1).2] b := by
      obtain ⟨ok, hok, ck, nk, dk⟩ := id hb
      exact ⟨ok, _, nk, hok, ck, dk, .cons (L2.mixKind_int prog w _ _) (.cons (L2.mixKind_int prog w _ _) .nil)⟩
    have k2 : IsTupleKey (L2.mixKind prog w) s.heap [Sum.inl (k q.1).1, Sum.inl (k q.1).2] b' := by
      obtain ⟨ok, hok, ck, nk, dk⟩ := id hb'
      exact ⟨ok, _, nk, hok, ck, dk, .cons (L2.mixKind_int prog w _ _) (.cons (L2.mixKind_int prog w _ _) .nil)⟩
    refine PySem.W.kat_cons (wpAny_eqBool_tuple hu k1 k2 ?_)
    refine PySem.W.kat_go (fun e0 => ?_) (fun _ => ?_)
    · exfalso
      have z0 := of_decide_eq_true e0
      injection z0 with z1 z2
      injection z2 with z2 _
      exact e (Prod.ext (Sum.inl.inj z1) (Sum.inl.inj z2))
    · refine PySem.W.kat_no ?_
      show wpAny _ _ (oneLt' false _ _) _ _ _
      refine PySem.W.kat_one _ _ (HT.lt_tupInts (ns := [(k p.1).1, (k p.1).2]) (ms := [(k q.1).1, (k q.1).2]) hb hb' (.cons _ _ (.cons _ _ .nil)) (.cons _ _ (.cons _ _ .nil)) hu ?_)
      refine (show s = s ∧ HT.lexLt [(k p.1).1, (k p.1).2] [(k q.1).1, (k q.1).2] = SrtO.lexB (k (.ref a)) (k (.ref a')) from ⟨rfl, ?_⟩)
      rw [← ea, ← ea']
      unfold SrtO.lexB
      rw [HT.lexLt_cons]
      by_cases c : (k p.1).1 = (k q.1).1
      · rw [if_pos c, if_pos c, HT.lexLt_cons]
        have c2 : ¬ (k p.1).2 = (k q.1).2 := fun z => e (Prod.ext c z)
        rw [if_neg c2]
      · rw [if_neg c, if_neg c]
theorem prow_sortable {a : Addr} {vs : List Value} {k : Value → Int × Int} (hu : A.units < cLine) (h0 : 0 < vs.length) (hp : ∀ v ∈ vs, PRow s.heap v (k v)) (hn : ∀ v ∈ vs, ∀ u ∈ vs, k v = k u → v = u) (ha : ∀ o, s.heap.get? a = some o → o.cls ≠ .type "tuple") : SrtO.SortableO prog w A s a vs fun v u => SrtO.lexB (k v) (k u) := by
  intro h' keep
  have hp' : ∀ v ∈ vs, PRow h' v (k v) := fun v hm => (hp v hm).keeps fun b o e c => keep b o (fun z => by subst z; exact ha o e c) e
  obtain ⟨fs, h1, h2, h3⟩ := pfirsts vs fun v hm => ⟨_, hp' v hm⟩
  refine ⟨tuples' false, fun Q E hq => ?_, prow_cmp hu hp' hn⟩
  refine PySem.W.kat_kind (T := .type "tuple") h1 (by omega) (fun f hm => ?_) (by rfl) ?_
  · obtain ⟨q, o, rfl, ho, hc⟩ := h3 f hm
    have z : PySem.W.Looks (model prog w) h' (typeOf (.ref q)) o.cls := (PySem.W.Looks.ld ho).andThen .now
    rw [hc] at z
    exact z
  · have e : (Value.type "tuple" != Value.type "tuple") = false := by first | rfl | decide | simp
    rw [e]
    exact hq
theorem sorted_prow {E : Value → Shared → Prop} {l : Addr} {vs : List Value} {k : Value → Int × Int} {Q : Value → Shared → Prop} (hu : A.in1.in1.units < cLine) (hl : s.heap.IsList l vs.toArray) (hz : vs.length ≤ sizeLine) (hp : ∀ v ∈ vs, PRow s.heap v (k v)) (hn : ∀ v ∈ vs, ∀ u ∈ vs, k v = k u → v = u)
    (h : ∀ (h' : Heap) (d : Addr) (out : List Value), SrtO.Srtd (fun v u => SrtO.lexB (k v) (k u)) out → SrtO.Stb (fun v u => SrtO.lexB (k v) (k u)) out vs → (∀ b o, s.heap.get? b = some o → h'.get? b = some o) → s.heap.objs.size ≤ d → (∃ n, h'.get? d = some (seqObj "list" out.toArray n)) → Q (.ref d) { s with heap := h' }) :
    wpAny (model prog w) A (call (.builtin "sorted") [.ref l]) Q E s := by
  refine SrtO.sorted_ord (SrtO.swo_lex k) hl hz (fun h2 h₁ a ha kk => ?_) fun out hs hb => ?_
  · refine prow_sortable (s := { s with heap := h₁ }) hu (by omega) (fun v hm => (hp v hm).keeps fun b o e _ => (kk b o e).2) hn fun o e => ?_
    have e' : some o = some (seqObj "list" vs.toArray 0) := e.symm.trans ha
    cases e'
    intro c
    exact absurd (Value.type.inj c) (by decide)
  · exact h _ _ out hs hb (fun b o e => sortedAll_old e) (Nat.le_succ _) (sortedAll_at s.heap vs out.toArray)
end
/-- sorted(xs), xs rows (place, thing), the places apart -/
def rSortPE (K : PySem.W.Frag) : List V → Hp → VK → Prop := fun vs H Q => ∃ (a : Addr) (xs : List V) (k : V → Int × Int), vs = [V.ref a] ∧ SqL K H a xs ∧ (∀ x ∈ xs, ∃ t p y, x = V.ref t ∧ H t = some (.tup [.ref p, y]) ∧ H p = some (.tup [.int (k x).1, .int (k x).2])) ∧ (∀ x ∈ xs, ∀ y ∈ xs, k x = k y → x = y) ∧
  ∀ ys p, ys.Pairwise (fun x y => SrtO.lexB (k y) (k x) = false) → ys.Perm xs → H p = none → Q (.ref p) (upd H p (.lst ys))
section
variable {X : Cx}
theorem cr_sortedPE (hu : X.A.units + 64 < cLine) : CallR X (.builtin "sorted") (rSortPE X.K) := by
  have hu : X.A.in1.in1.units < cLine := by
    show X.A.units + 1 + 1 < cLine
    omega
  intro pins s σ H vs us Q I r h
  obtain ⟨a, xs, k, rfl, hs, hx, hn, q⟩ := h
  obtain ⟨its, rv, hl, hz⟩ := I.list hs
  obtain ⟨u, rfl, ru⟩ := vals1 r
  obtain rfl : u = Value.ref a := ru
  obtain ⟨e1, e2⟩ := refs_back rv fun x m => by
    obtain ⟨t, p, y, e, _⟩ := hx x m
    exact ⟨t, e⟩
  have mb : ∀ v ∈ its, backV v ∈ xs := fun v hv => by rw [e1]; exact List.mem_map.mpr ⟨_, hv, rfl⟩
  refine sorted_prow (k := fun u => k (backV u)) hu hl.isList (by rw [← rv.length]; exact hz) (fun v hv => ?_) (fun v hv u hw e => ?_) fun h' d out h1 h2 kp hd hn => ?_
  · obtain ⟨t, rfl⟩ := e2 v hv
    obtain ⟨t', p, y, e, ht, hp⟩ := hx _ (mb _ hv)
    cases e
    obtain ⟨_, its2, r2, h2⟩ := I.hok _ _ ht
    obtain ⟨u1, u2, rfl, ri, rj⟩ := vals2 r2
    obtain rfl : u1 = Value.ref p := ri
    obtain ⟨_, its3, r3, h3⟩ := I.hok _ _ hp
    obtain ⟨w1, w2, rfl, ri, rj3⟩ := vals2 r3
    obtain ⟨t1, rfl⟩ := ri
    obtain ⟨t2, rfl⟩ := rj3
    exact ⟨t, p, u2, t1, t2, rfl, h2, h3⟩
  · obtain ⟨t, rfl⟩ := e2 v hv
    obtain ⟨t', rfl⟩ := e2 u hw
    have := hn _ (mb _ hv) _ (mb _ hw) e
    cases this
    rfl
  · have h3 : ∀ u ∈ out, ∃ a, u = Value.ref a := fun u hu => e2 u (h2.perm.mem_iff.mp hu)
    obtain ⟨n, hn⟩ := hn
    have hb : (out.map backV).Perm xs := by
      rw [e1]
      exact h2.perm.map backV
    refine ⟨.ref d, upd H d (.lst (out.map backV)), I.laid (t' := s.toks) kp hd ⟨?_, out, n, vals_back h3, hn⟩, rfl, q _ d (SrtO.srtd_map h1) hb (I.hok.fresh hd)⟩
    rw [hb.length_eq]
    exact hz
end
/-- flat, or a tuple -/
def PlainV (H : Hp) (v : V) : Prop := flatV v = true ∨ ∃ a xs, v = .ref a ∧ H a = some (.tup xs)
theorem PlainV.same {H H' : Hp} {v : V} (h : PlainV H v) (s : Same H H') : PlainV H' v := by
  rcases h with h | ⟨a, xs, e, q⟩
  · exact .inl h
  · exact .inr ⟨a, xs, e, s _ _ q⟩
theorem nm_sign {z : Str} {c : Nat} (m : c ∈ TL.tl z) (h : Unicode.isAlpha c = false ∨ Unicode.isUpper c = true) : nmB z = false := by
  unfold nmB
  rcases h with h | h
  · have : Txt.isalpha z = false := by
      unfold Txt.isalpha
      rw [Bool.and_eq_false_iff]
      refine .inr ?_
      rw [← Array.all_toList, List.all_eq_false]
      exact ⟨c, m, by rw [h]; decide⟩
    rw [this]
    simp
  · have : Txt.islower z = false := by
      unfold Txt.islower
      rw [Bool.and_eq_false_iff]
      refine .inr ?_
      rw [Bool.not_eq_false', ← Array.any_toList, List.any_eq_true]
      exact ⟨c, m, by rw [h]; rfl⟩
    rw [this]
    simp
/-! ### rows (place, entry) of a book -/
def KepR (H : Hp) (v : V) (e : (Int × Int) × Ent) : Prop := ∃ t q a, v = .ref t ∧ H t = some (.tup [.ref q, .ref a]) ∧ PlR H q e.1 ∧ H a = some (.tup e.2)
def Kept (H : Hp) : List V → Bk → Prop := Paired (KepR H)
theorem KepR.same {H H' : Hp} {v : V} {e : (Int × Int) × Ent} (h : KepR H v e) (s : Same H H') : KepR H' v e := let ⟨t, q, a, x, y, z, w⟩ := h; ⟨t, q, a, x, s _ _ y, s _ _ z, s _ _ w⟩
theorem KepR.keep {H H' : Hp} {v : V} {e : (Int × Int) × Ent} {c : Addr} {u : HO} (h : KepR H v e) (x : H c = some u) (n : ∀ xs, u ≠ .tup xs) (k : Keep c H H') : KepR H' v e :=
  let ⟨t, q, a, y, z, w, g⟩ := h; ⟨t, q, a, y, k _ _ z (ne_of z x fun i => n _ i.symm), w.keep x n k, k _ _ g (ne_of g x fun i => n _ i.symm)⟩
theorem Kept.same {H H' : Hp} {xs : List V} {es : Bk} (h : Kept H xs es) (s : Same H H') : Kept H' xs es := Paired.mapP h fun _ _ r => r.same s
theorem Kept.keep {H H' : Hp} {xs : List V} {es : Bk} {c : Addr} {u : HO} (h : Kept H xs es) (x : H c = some u) (n : ∀ xs, u ≠ .tup xs) (k : Keep c H H') : Kept H' xs es := Paired.mapP h fun _ _ r => r.keep x n k
def dKep (e : (Int × Int) × Ent) : PyData := .tuple [dPl e.1, dEnt e.2]
theorem keptDa {K : PySem.W.Frag} {H : Hp} : ∀ {xs : List V} {es : Bk}, Kept H xs es → (∀ e ∈ es, EntOk e.2) → DaAll K H xs (es.map dKep) 2
  | _, _, .nil, _ => .nil
  | _, _, .cons ⟨t, q, a, e1, h1, h2, h3⟩ tl, w => by
    subst e1
    exact .cons (.tup (.cons (.tup (.cons .int (.cons .int .nil)) (SqT.of h2)) (.cons ((w _ List.mem_cons_self).da h3) .nil)) (SqT.of h1)) (keptDa tl fun r m => w r (List.mem_cons_of_mem _ m))
def kOf (H : Hp) (v : V) : Int × Int := match v with
  | .ref t => (match H t with
    | some (.tup [.ref q, _]) => (match H q with
      | some (.tup [.int a, .int b]) => (a, b)
      | _ => (0, 0))
    | _ => (0, 0))
  | _ => (0, 0)
theorem KepR.k {H : Hp} {v : V} {e : (Int × Int) × Ent} (h : KepR H v e) : kOf H v = e.1 := by
  obtain ⟨t, q, a, rfl, h1, h2, h3⟩ := h
  unfold PlR at h2
  simp only [kOf, h1, h2]
theorem paired_memL {α β : Type} {F : α → β → Prop} {xs : List α} {ys : List β} (h : Paired F xs ys) {x : α} (m : x ∈ xs) : ∃ y ∈ ys, F x y := by
  induction h with
  | nil => cases m
  | cons r _ ih =>
    rcases List.mem_cons.mp m with rfl | m
    · exact ⟨_, List.mem_cons_self, r⟩
    · obtain ⟨y, my, f⟩ := ih m
      exact ⟨y, List.mem_cons_of_mem _ my, f⟩
theorem kept_inj {H : Hp} {xs : List V} {es : Bk} (h : Kept H xs es) (n : es.Pairwise fun a b => a.1 ≠ b.1) : ∀ x ∈ xs, ∀ y ∈ xs, kOf H x = kOf H y → x = y := by
  induction h with
  | nil => intro x m; cases m
  | cons r t ih =>
    obtain ⟨n1, n2⟩ := List.pairwise_cons.mp n
    intro x mx y my e
    rcases List.mem_cons.mp mx with ex | mx2
    · rcases List.mem_cons.mp my with ey | my2
      · rw [ex, ey]
      · obtain ⟨f, mf, rf⟩ := paired_memL t my2
        rw [ex, r.k, rf.k] at e
        exact absurd e (n1 f mf)
    · rcases List.mem_cons.mp my with ey | my2
      · obtain ⟨f, mf, rf⟩ := paired_memL t mx2
        rw [ey, r.k, rf.k] at e
        exact absurd e.symm (n1 f mf)
      · exact ih n2 x mx2 y my2 e
theorem lexB_ltP {p q : Int × Int} : SrtO.lexB p q = false ↔ ¬ ltP p q := SrtO.lexB_no
theorem paired_memR {α β : Type} {F : α → β → Prop} {xs : List α} {ys : List β} (h : Paired F xs ys) {y : β} (m : y ∈ ys) : ∃ x ∈ xs, F x y := by
  induction h with
  | nil => cases m
  | cons r _ ih =>
    rcases List.mem_cons.mp m with rfl | m
    · exact ⟨_, List.mem_cons_self, r⟩
    · obtain ⟨x, mx, f⟩ := ih m
      exact ⟨x, List.mem_cons_of_mem _ mx, f⟩
theorem kept_pw {H : Hp} : ∀ {ys : List V} {us : Bk}, Kept H ys us → ys.Pairwise (fun x y => SrtO.lexB (kOf H y) (kOf H x) = false) → us.Pairwise fun a b => ¬ ltP b.1 a.1
  | _, _, .nil, _ => .nil
  | _, _, .cons r t, h => by
    obtain ⟨p1, p2⟩ := List.pairwise_cons.mp h
    refine List.pairwise_cons.mpr ⟨fun f mf => ?_, kept_pw t p2⟩
    obtain ⟨y, my, ry⟩ := paired_memR t mf
    have := p1 y my
    rw [ry.k, r.k] at this
    exact lexB_ltP.mp this
/-- sorted(rows): the rows by their places -/
theorem sortKept {K : PySem.W.Frag} {H : Hp} {a : Addr} {xs : List V} {es ts : Bk} {Q : VK} (hx : H a = some (.lst xs)) (h : Kept H xs es) (n : es.Pairwise fun a b => a.1 ≠ b.1) (p : ts.Perm es) (s : Asc ts)
    (k : ∀ ys p, Kept H ys ts → H p = none → Q (.ref p) (upd H p (.lst ys))) : rSortPE K [.ref a] H Q := by
  refine ⟨a, xs, kOf H, rfl, SqL.of hx, fun x m => ?_, kept_inj h n, fun ys d hp hy nd => ?_⟩
  · obtain ⟨e, me, t, q, b, rfl, h1, h2, h3⟩ := paired_memL h m
    have hk : kOf H (.ref t) = e.1 := KepR.k ⟨t, q, b, rfl, h1, h2, h3⟩
    rw [hk]
    exact ⟨t, q, _, rfl, h1, h2⟩
  · obtain ⟨us, h1, h2⟩ := paired_perm h hy
    have e : us = ts := by
      have pw := kept_pw h1 hp
      refine List.Perm.eq_of_pairwise (le := fun a b => ¬ ltP b.1 a.1) (fun x y mx my g1 g2 => ?_) pw (s.imp fun l z => (l.trans z).ne rfl) (h2.trans p.symm)
      have mx' := p.mem_iff.mpr (h2.mem_iff.mp mx)
      exact asc_uniq s mx' my (by
        refine Classical.byContradiction fun z => ?_
        rcases Classical.em (ltP x.1 y.1) with c | c
        · exact g2 c
        · exact g1 (ltP_tri z c))
    subst e
    exact k ys d h1 nd
/-- a book's rows, one place set anew -/
theorem insE_perm {p : Int × Int} {x : Ent} {es : Bk} (h : Asc es) : (insE p x es).Perm (delE p es ++ [(p, x)]) ∧ (delE p es ++ [(p, x)]).Pairwise fun a b => a.1 ≠ b.1 := by
  have nd : ∀ {l : Bk}, (l.Pairwise fun a b => a.1 ≠ b.1) → l.Nodup := fun w => List.nodup_iff_pairwise_ne.mpr (w.imp fun n z => n (by rw [z]))
  have w : (delE p es ++ [(p, x)]).Pairwise fun a b => a.1 ≠ b.1 := by
    refine List.pairwise_append.mpr ⟨(asc_delE h).imp fun l => l.ne, List.pairwise_singleton _ _, fun a ma b mb => ?_⟩
    rw [List.mem_singleton.mp mb]
    exact (mem_delE.mp ma).2
  refine ⟨nodup_perm (nd ((asc_insE h).imp fun l => l.ne)) (nd w) fun e => ?_, w⟩
  rw [mem_insE h, List.mem_append, List.mem_singleton, mem_delE]
  exact ⟨fun m => m.elim .inr .inl, fun m => m.elim .inr .inl⟩
/-- entries set one after another -/
def setAll (rs : Bk) : Bk := rs.foldl (fun es r => insE r.1 r.2 es) []
theorem setAll_snoc {rs : Bk} {r : (Int × Int) × Ent} : setAll (rs ++ [r]) = insE r.1 r.2 (setAll rs) := by
  unfold setAll
  rw [List.foldl_append]
  rfl
/-! ### o[i] = v, o an instance with an own __setitem__, as a statement of its own -/
section
variable {X : Cx} {k : Nat} {C : Addr} {ps : List Str} {sp : Sp}
def sSetOwn (C : Addr) (sp : Sp) (E : L2.St → XK) (td ty tv : TE) : TS := fun D σ H => tv σ H fun v H1 => td σ H1 fun x H2 => ty σ H2 fun y H3 => ∃ a dx fs, x = .ref a ∧ H3 a = some (.ins C dx fs) ∧ sp [x, y, v] H3 (fun _ H' => D.nx σ H') (E σ)
theorem ps_setOwn {E : L2.St → XK} {o i value : Expr} {pos' pos : Pos} {td ty tv : TE} (O : OwnM X.prog X.w X.K X.mg X.base k C "__setitem__" ps sp) (hq : PySem.W.noSeq X.K C = true) (hr : Room k X.A) (hx : ∀ σ, PassesAt (L2N.CX X.prog X.w) X σ (E σ))
    (ho : PE X o td) (hi : PE X i ty) (hv : PE X value tv) (hs : swapsWith value (some (.Subscript o i pos')) pos.line X.env = pure false) :
    PS X (.Assign [.Subscript o i pos'] value pos) (sSetOwn C sp E td ty tv) := by
  obtain ⟨f, fd, F, hm, hbd⟩ := O.ex
  refine ⟨fun pins s σ H D I h => ?_⟩
  refine wpAny_Assign_Subscript (thn (hv.run pins s σ H _ I h) fun r s1 ⟨v, H1, I1, rv, q1⟩ => thn (ho.run pins s1 σ H1 _ I1 q1) fun u s2 ⟨x, H2, I2, rx, q2⟩ => thn (hi.run pins s2 σ H2 _ I2 q2) fun iv s3 ⟨y, H3, I3, ry, a, dx, fs, ex, ea, q3⟩ => ?_) hs
  subst ex
  obtain rfl : u = Value.ref a := rx
  obtain ⟨_, od, J⟩ := inst_at I3 ea
  obtain ⟨m, hF⟩ := I3.fr
  refine PySem.W.ksp_setItem hF I3.ok.mod.kin J hq hm.at_ hm.fn ?_
  refine wpAny_mono (run_fnS (us := [.ref a, iv, r]) (vs := [.ref a, y, v]) F hr hbd (hx σ) I3 (.cons rfl (.cons ry (.cons rv .nil))) q3) (fun r s' h => ?_) fun _ _ z => z
  obtain ⟨w, H', I', _, q'⟩ := h
  exact ⟨σ, H', I', q'⟩
end
theorem Da.neB {K : PySem.W.Frag} {H : Hp} {v w : V} {d e : PyData} {n m : Nat} {Q : VK} (h : Da K H v d n) (k : Da K H w e m) {b : Bool} (hb : PyData.eqv d e = b) (q : Q (.bl (!b)) H) (l : n ≤ 60 := by decide) (l2 : m ≤ 60 := by decide) : rNeD K v w H Q := by
  refine ⟨_, _, h.dp, k.dp, h.shaped l, k.shaped l2, ?_⟩
  rw [hb]
  exact q
theorem dPl_eqv {p q : Int × Int} : PyData.eqv (dPl p) (dPl q) = decide (p = q) := by
  obtain ⟨a, b⟩ := p
  obtain ⟨c, d⟩ := q
  by_cases h1 : a = c <;> by_cases h2 : b = d <;> simp [dPl, PyData.eqv, PyData.eqvAll, h1, h2]
/-! ### what is kept while entries are refused or set -/
structure St32 (ca : Nat → Addr) (H : Hp) (L bag l p D : Addr) (xs : List V) (rs es : Bk) (m : Nat) : Prop where
  B : Bag H L bag
  hx : H l = some (.lst xs)
  hR : Rows H xs rs
  hB : BookAt ca H p D es
  hw : BkW es
  hl : es.length ≤ m
theorem St32.same {ca : Nat → Addr} {H H' : Hp} {L bag l p D : Addr} {xs : List V} {rs es : Bk} {m : Nat} (S : St32 ca H L bag l p D xs rs es m) (s : Same H H') : St32 ca H' L bag l p D xs rs es m :=
  ⟨S.B.same s, s _ _ S.hx, S.hR.same s, S.hB.same s, S.hw, S.hl⟩
theorem St32.bag {ca : Nat → Addr} {H H' : Hp} {L bag l p D : Addr} {xs : List V} {rs es : Bk} {m : Nat} (S : St32 ca H L bag l p D xs rs es m) (n : l ≠ bag) (k : Keep bag H H') (B : Bag H' L bag) : St32 ca H' L bag l p D xs rs es m := by
  obtain ⟨xb, hb⟩ := S.B.lst
  exact ⟨B, k _ _ S.hx n, S.hR.putL hb k, S.hB.putL hb k, S.hw, S.hl⟩
theorem St32.ins {ca : Nat → Addr} {H H' : Hp} {L bag l p D : Addr} {xs : List V} {rs es : Bk} {m : Nat} {q : Int × Int} {x : Ent} (S : St32 ca H L bag l p D xs rs es m) (k : Keep D H H') (hB : BookAt ca H' p D (insE q x es)) (hq : Pl6 q) (hx : EntOk x) : St32 ca H' L bag l p D xs rs (insE q x es) (m + 1) := by
  obtain ⟨kv, hk⟩ := S.hB.2.dT
  obtain ⟨n1, n2⟩ := S.B.nedT hk
  exact ⟨S.B.keep k n1 n2, k _ _ S.hx (ne_of S.hx hk fun z => nomatch z), S.hR.keep hk (fun _ z => nomatch z) k, hB, bkW_ins S.hB.2.asc S.hw hq hx, Nat.le_trans len_insE (Nat.succ_le_succ S.hl)⟩
end Lo

set_option Elab.async false
set_option linter.all false
set_option maxRecDepth 100000
set_option maxHeartbeats 4000000
/-! LoB13: books joined. -/
namespace Lo
open PySem PySem.Spec PySem.W PyProof.Rows L2
theorem dEnt_eqv {x y : Ent} (h : EntOk x) (k : EntOk y) : PyData.eqv (dEnt x) (dEnt y) = decide (x = y) := by
  obtain ⟨k1, n1, y1, rfl, _, h1⟩ := h.ex
  obtain ⟨k2, n2, y2, rfl, _, h2⟩ := k.ex
  have e : PyData.eqv (dEnt [.str k1, .str n1, y1]) (dEnt [.str k2, .str n2, y2]) = (decide (k1 = k2) && (decide (n1 = n2) && PyData.eqv (dat y1) (dat y2))) := by
    simp only [dEnt, List.map_cons, List.map_nil, dat, PyData.eqv, PyData.eqvAll, Bool.and_true]
    by_cases z : k1 = k2 <;> by_cases z2 : n1 = n2 <;> simp [z, z2]
  have ey : PyData.eqv (dat y1) (dat y2) = decide (y1 = y2) := by
    rcases h1 with ⟨_, l1, rfl, _⟩ | ⟨_, u1, rfl, _⟩ <;> rcases h2 with ⟨_, l2, rfl, _⟩ | ⟨_, u2, rfl, _⟩
    · simp only [dat, PyData.eqv]
      by_cases z : l1 = l2 <;> simp [z]
    · simp [dat, PyData.eqv]
    · simp [dat, PyData.eqv]
    · simp only [dat, PyData.eqv]
      by_cases z : u1 = u2 <;> simp [z]
  rw [e, ey]
  by_cases z1 : k1 = k2 <;> by_cases z2 : n1 = n2 <;> by_cases z3 : y1 = y2 <;> simp [z1, z2, z3]
/-- a place at which both books have entries, but other ones -/
def clashE (es fs : Bk) (e : (Int × Int) × Ent) : Bool := match getE e.1 fs with
  | some y => decide (y ≠ e.2)
  | none => false
def clash1 (es fs : Bk) : Option (Int × Int) := (es.find? fun e => clashE es fs e).map (·.1)
/-! ### min of a list of places -/
def minP (q : Int × Int) (qs : List (Int × Int)) : Int × Int := qs.foldl (fun a y => if ltP y a then y else a) q
theorem minP_ok : ∀ (qs : List (Int × Int)) (q : Int × Int), minP q qs ∈ q :: qs ∧ ∀ x ∈ q :: qs, ¬ ltP x (minP q qs)
  | [], q => ⟨List.mem_cons_self, fun x m => by rw [List.mem_singleton.mp m]; exact fun h => h.ne rfl⟩
  | y :: qs, q => by
    obtain ⟨a, b⟩ := minP_ok qs (if ltP y q then y else q)
    have e : minP q (y :: qs) = minP (if ltP y q then y else q) qs := rfl
    rw [e]
    have tr : ∀ {x y z : Int × Int}, ¬ ltP x y → ¬ ltP y z → ¬ ltP x z := fun {x y z} h1 h2 h3 => by
      unfold ltP at *
      omega
    refine ⟨?_, fun x m => ?_⟩
    · rcases List.mem_cons.mp a with a | a
      · rw [a]
        split
        · exact List.mem_cons_of_mem _ List.mem_cons_self
        · exact List.mem_cons_self
      · exact List.mem_cons_of_mem _ (List.mem_cons_of_mem _ a)
    · have b0 := b _ List.mem_cons_self
      rcases List.mem_cons.mp m with rfl | m
      · refine tr ?_ b0
        split
        · rename_i l
          intro h
          exact (h.trans l).ne rfl
        · exact fun h => h.ne rfl
      · rcases List.mem_cons.mp m with rfl | m
        · refine tr ?_ b0
          split
          · exact fun h => h.ne rfl
          · assumption
        · exact b x (List.mem_cons_of_mem _ m)
theorem minD_pl : ∀ (qs : List (Int × Int)) (q : Int × Int), PySem.W.minD (dPl q) (qs.map dPl) = dPl (minP q qs)
  | [], q => rfl
  | y :: qs, q => by
    have e : PySem.W.minD (dPl q) ((y :: qs).map dPl) = PySem.W.minD (if dataLt (dPl y) (dPl q) then dPl y else dPl q) (qs.map dPl) := rfl
    have e2 : (if dataLt (dPl y) (dPl q) then dPl y else dPl q) = dPl (if ltP y q then y else q) := by
      have e3 : dataLt (dPl y) (dPl q) = decide (ltP y q) := dataLt_ii _ _ _ _
      rw [e3]
      by_cases z : ltP y q <;> simp [z]
    rw [e, e2, minD_pl qs]
    rfl
def rMinPl (K : PySem.W.Frag) : List V → Hp → VK → Prop := fun vs H Q => ∃ (a : Addr) (ys : List Addr) (q : Int × Int) (qs : List (Int × Int)), vs = [.ref a] ∧ SqL K H a (ys.map V.ref) ∧ Paired (PlR H) ys (q :: qs) ∧ ∀ y, H y = some (.tup [.int (minP q qs).1, .int (minP q qs).2]) → Q (.ref y) H
section
variable {X : Cx}
theorem cr_minPl (hc : X.calm = true) (hu : X.A.units + 64 < cLine) : CallR X (.builtin "min") (rMinPl X.K) := by
  intro pins s σ H vs us Q I r h
  obtain ⟨a, ys, q, qs, rfl, hs, hp, k⟩ := h
  obtain ⟨its, rv, hl, _⟩ := I.list hs
  rw [Vals.ref1 r]
  have D := plDa (K := X.K) hp
  obtain ⟨as, hr⟩ := Dp.readsAll I _ _ _ D.dp rv
  have hal : ∀ p p' : Int × Int, alike (dPl p) (dPl p') = true := fun p p' => by
    unfold dPl
    exact alike_ints [p.1, p.2] [p'.1, p'.2]
  have hd : PyData.depthAll ((q :: qs).map dPl) ≤ 1 := D.dep
  refine PySem.W.min_list_data (x := dPl q) (xs := qs.map dPl) (I.ok.hd hc) hl.isList (by simpa using hr) ⟨fun x mx y my => ?_, fun x mx => ?_⟩ (by have hd2 : PyData.depthAll (dPl q :: qs.map dPl) ≤ 1 := hd; omega) fun i v h' tk bs hv hrd hk => ?_
  · obtain ⟨p, _, rfl⟩ := List.mem_map.mp (show x ∈ (q :: qs).map dPl from mx)
    obtain ⟨p', _, rfl⟩ := List.mem_map.mp (show y ∈ (q :: qs).map dPl from my)
    exact hal p p'
  · obtain ⟨p, _, rfl⟩ := List.mem_map.mp (show x ∈ (q :: qs).map dPl from mx)
    exact fun z => nomatch z
  · have hv' : its[i]? = some v := by simpa using hv
    have li : i < ys.length := by
      have e1 := rv.length
      rw [List.length_map] at e1
      rw [e1]
      exact (List.getElem?_eq_some_iff.mp hv').1
    have lq : i < (q :: qs).length := by rw [← hp.length]; exact li
    have hy : ys[i]? = some ys[i] := List.getElem?_eq_getElem li
    have hq : (q :: qs)[i]? = some (q :: qs)[i] := List.getElem?_eq_getElem lq
    have hpl := paired_get hp hy hq
    obtain ⟨u, hu1, hu2⟩ := Vals.get rv (show (ys.map V.ref)[i]? = some (.ref ys[i]) by rw [List.getElem?_map, hy]; rfl)
    rw [hv'] at hu1
    cases hu1
    generalize (q :: qs)[i] = p at hpl
    generalize ys[i] = y at hpl hu2
    have d1 : Da X.K H (.ref y) (dPl p) 1 := .tup (.cons .int (.cons .int .nil)) (SqT.of hpl)
    obtain ⟨bs1, r1⟩ := Dp.reads I _ _ _ d1.dp hu2
    rw [minD_pl] at hrd
    have e := alike_unique _ _ _ _ _ (hal p (minP q qs)) (reads_keeps hk r1) hrd
    have e2 : p = minP q qs := by
      injection e with e
      injection e with e1 e
      injection e with e2 _
      injection e1 with e1
      injection e2 with e2
      exact Prod.ext e1 e2
    rw [← e2] at k
    exact ⟨.ref y, H, I.kept hk, hu2, k y hpl⟩
end
theorem room65 {k : Nat} {A : Around} (r : Room k A) : A.units + 65 < cLine := by
  have := r.un
  omega
theorem in_places {q : Int × Int} {es : Bk} : (((es.map (·.1)).map dPl).any fun z => PyData.eqv z (dPl q)) = (getE q es).isSome := by
  induction es with
  | nil => rfl
  | cons e es ih =>
    rw [List.map_cons, List.map_cons, List.any_cons, ih, dPl_eqv]
    unfold getE
    rw [List.find?_cons]
    by_cases z : e.1 = q
    · simp [z]
    · simp [z]
theorem inPl {K : PySem.W.Frag} {H : Hp} {t O : Addr} {q : Int × Int} {es : Bk} {ys : List Addr} {Q : VK} (ht : PlR H t q) (hO : H O = some (.lst (ys.map V.ref))) (hy : Paired (PlR H) ys (es.map (·.1))) (k : Q (.bl (getE q es).isSome) H) : rInD K (.ref t) (.ref O) H Q := by
  have A : Da K H (.ref t) (dPl q) 1 := .tup (.cons .int (.cons .int .nil)) (SqT.of ht)
  have B : Da K H (.ref O) (.list ((es.map (·.1)).map dPl)) 2 := .lst (plDa hy) (SqL.of hO)
  refine ⟨_, _, A.dp, B.dp, A.shaped, B.shaped, ?_⟩
  rw [in_places]
  exact k
/-! ### joined books -/
def Fit (l : Bk) : Prop := ∀ a ∈ l, ∀ b ∈ l, a.1 = b.1 → a = b
abbrev insL (es l : Bk) : Bk := l.foldl (fun es r => insE r.1 r.2 es) es
theorem insL_ok : ∀ (l es : Bk), Asc es → Fit (es ++ l) → Asc (insL es l) ∧ ∀ e, e ∈ insL es l ↔ e ∈ es ∨ e ∈ l
  | [], es, h, _ => ⟨h, fun e => by simp [insL]⟩
  | r :: l, es, h, f => by
    have m1 : ∀ e, e ∈ insE r.1 r.2 es ↔ e = r ∨ e ∈ es := fun e => by
      rw [mem_insE h e]
      constructor
      · rintro (m | ⟨m, _⟩)
        · exact .inl m
        · exact .inr m
      · rintro (m | m)
        · exact .inl m
        · by_cases z : e.1 = r.1
          · exact .inl (f e (List.mem_append_left _ m) r (List.mem_append_right _ List.mem_cons_self) z)
          · exact .inr ⟨m, z⟩
    obtain ⟨a, b⟩ := insL_ok l (insE r.1 r.2 es) (asc_insE h) (fun x mx y my => by
      have g : ∀ z, z ∈ insE r.1 r.2 es ++ l → z ∈ es ++ r :: l := fun z mz => by
        rcases List.mem_append.mp mz with mz | mz
        · rcases (m1 z).mp mz with rfl | mz
          · exact List.mem_append_right _ List.mem_cons_self
          · exact List.mem_append_left _ mz
        · exact List.mem_append_right _ (List.mem_cons_of_mem _ mz)
      exact f x (g x mx) y (g y my))
    refine ⟨a, fun e => ?_⟩
    show e ∈ insL (insE r.1 r.2 es) l ↔ _
    rw [b e, m1 e, List.mem_cons]
    constructor
    · rintro ((m | m) | m)
      · exact .inr (.inl m)
      · exact .inl m
      · exact .inr (.inr m)
    · rintro (m | m | m)
      · exact .inl (.inr m)
      · exact .inl (.inl m)
      · exact .inr m
theorem setAll_ok {l : Bk} (f : Fit l) : Asc (setAll l) ∧ ∀ e, e ∈ setAll l ↔ e ∈ l := by
  obtain ⟨a, b⟩ := insL_ok l [] List.Pairwise.nil (by rw [List.nil_append]; exact f)
  exact ⟨a, fun e => (b e).trans ⟨fun m => m.elim (fun z => by cases z) id, .inr⟩⟩
theorem asc_nodup {es : Bk} (h : Asc es) : es.Nodup := List.nodup_iff_pairwise_ne.mpr (h.imp fun l z => l.ne (by rw [z]))
theorem asc_ext {es fs : Bk} (h : Asc es) (k : Asc fs) (m : ∀ e, e ∈ es ↔ e ∈ fs) : es = fs := by
  refine List.Perm.eq_of_pairwise (le := fun a b => ¬ ltP b.1 a.1) (fun x y mx my g1 g2 => ?_) (h.imp fun l z => (l.trans z).ne rfl) (k.imp fun l z => (l.trans z).ne rfl) (nodup_perm (asc_nodup h) (asc_nodup k) m)
  refine asc_uniq h mx ((m y).mpr my) (Classical.byContradiction fun z => ?_)
  rcases Classical.em (ltP x.1 y.1) with c | c
  · exact g2 c
  · exact g1 (ltP_tri z c)
theorem asc_fit {es : Bk} (h : Asc es) : Fit es := fun _ ma _ mb q => asc_uniq h ma mb q
theorem setAll_asc {es : Bk} (h : Asc es) : setAll es = es := by
  obtain ⟨a, b⟩ := setAll_ok (asc_fit h)
  exact asc_ext a h b
theorem clash_no {es fs : Bk} (k : Asc fs) (h : clash1 es fs = none) {e f : (Int × Int) × Ent} (me : e ∈ es) (mf : f ∈ fs) (q : e.1 = f.1) : e = f := by
  unfold clash1 at h
  rw [Option.map_eq_none_iff, List.find?_eq_none] at h
  have h1 := h e me
  have hg : getE e.1 fs = some f.2 := (getE_mem k).mpr (by rw [q]; exact mf)
  unfold clashE at h1
  rw [hg] at h1
  have h2 : f.2 = e.2 := by
    refine Classical.byContradiction fun z => h1 (decide_eq_true z)
  exact Prod.ext q h2.symm
theorem clash_none {es fs : Bk} (k : Asc fs) (h : ∀ e ∈ es, ∀ f ∈ fs, e.1 = f.1 → e = f) : clash1 es fs = none := by
  unfold clash1
  rw [Option.map_eq_none_iff, List.find?_eq_none]
  intro e me
  unfold clashE
  cases hg : getE e.1 fs with
  | none => simp
  | some y =>
    have := h e me (e.1, y) ((getE_mem k).mp hg) rfl
    have e2 : y = e.2 := by rw [this]
    simp [e2]
theorem fit_join {es fs : Bk} (h : Asc es) (k : Asc fs) (c : clash1 es fs = none) : Fit (es ++ fs) := fun a ma b mb q => by
  rcases List.mem_append.mp ma with ma | ma <;> rcases List.mem_append.mp mb with mb | mb
  · exact asc_uniq h ma mb q
  · exact clash_no k c ma mb q
  · exact (clash_no k c mb ma q.symm).symm
  · exact asc_uniq k ma mb q
theorem clash_sym {es fs : Bk} (h : Asc es) (k : Asc fs) (c : clash1 es fs = none) : clash1 fs es = none := clash_none h fun _ me _ mf q => (clash_no k c mf me q.symm).symm
theorem clash_self {es : Bk} (h : Asc es) : clash1 es es = none := clash_none h fun _ me _ mf q => asc_uniq h me mf q
theorem clash_nil {es : Bk} : clash1 es [] = none := clash_none List.Pairwise.nil fun _ _ _ mf _ => by cases mf
theorem join_comm {es fs : Bk} (h : Asc es) (k : Asc fs) (c : clash1 es fs = none) : setAll (fs ++ es) = setAll (es ++ fs) := by
  obtain ⟨a1, b1⟩ := setAll_ok (fit_join h k c)
  obtain ⟨a2, b2⟩ := setAll_ok (fit_join k h (clash_sym h k c))
  refine asc_ext a2 a1 fun e => ?_
  rw [b1, b2, List.mem_append, List.mem_append]
  exact Or.comm
theorem join_self {es : Bk} (h : Asc es) : setAll (es ++ es) = es := by
  obtain ⟨a1, b1⟩ := setAll_ok (fit_join h h (clash_self h))
  refine asc_ext a1 h fun e => ?_
  rw [b1, List.mem_append]
  exact ⟨fun m => m.elim id id, .inl⟩
/-- one book's rows, then the other's that are not among them -/
theorem join_perm {es fs : Bk} (h : Asc es) (k : Asc fs) (c : clash1 es fs = none) : (setAll (es ++ fs)).Perm (es ++ fs.filter fun f => !decide (f ∈ es)) ∧ (es ++ fs.filter fun f => !decide (f ∈ es)).Pairwise fun a b => a.1 ≠ b.1 := by
  obtain ⟨a1, b1⟩ := setAll_ok (fit_join h k c)
  have w : (es ++ fs.filter fun f => !decide (f ∈ es)).Pairwise fun a b => a.1 ≠ b.1 := by
    refine List.pairwise_append.mpr ⟨h.imp fun l => l.ne, (k.filter _).imp fun l => l.ne, fun a ma b mb q => ?_⟩
    obtain ⟨mb, nb⟩ := List.mem_filter.mp mb
    have := clash_no k c ma mb q
    rw [this] at ma
    simp [ma] at nb
  refine ⟨nodup_perm (asc_nodup a1) (List.nodup_iff_pairwise_ne.mpr (w.imp fun n z => n (by rw [z]))) fun e => ?_, w⟩
  rw [b1, List.mem_append, List.mem_append, List.mem_filter]
  constructor
  · rintro (m | m)
    · exact .inl m
    · by_cases z : e ∈ es
      · exact .inl z
      · exact .inr ⟨m, by simp [z]⟩
  · rintro (m | ⟨m, _⟩)
    · exact .inl m
    · exact .inr m
theorem del_head {j : (Int × Int) × Ent} {js : Bk} (h : Asc (j :: js)) : delE j.1 (j :: js) = js := by
  obtain ⟨h1, h2⟩ := List.pairwise_cons.mp h
  unfold delE
  rw [List.filter_cons_of_neg (by simp)]
  exact List.filter_eq_self.mpr fun e m => decide_eq_true fun z => (h1 e m).ne z.symm
theorem len_new {p : Int × Int} {x : Ent} {es : Bk} (h : Asc es) (n : ∀ e ∈ es, e.1 ≠ p) : (insE p x es).length = es.length + 1 := by
  have := (insE_perm (p := p) (x := x) h).1.length_eq
  rw [this, List.length_append]
  have e : delE p es = es := List.filter_eq_self.mpr fun e m => decide_eq_true (n e m)
  rw [e]
  rfl
theorem dKep_eqv {e f : (Int × Int) × Ent} (h : EntOk e.2) (k : EntOk f.2) : PyData.eqv (dKep e) (dKep f) = decide (e = f) := by
  have : PyData.eqv (dKep e) (dKep f) = (PyData.eqv (dPl e.1) (dPl f.1) && (PyData.eqv (dEnt e.2) (dEnt f.2) && true)) := by
    simp [dKep, PyData.eqv, PyData.eqvAll]
  rw [this, dPl_eqv, dEnt_eqv h k, Bool.and_true]
  obtain ⟨a, b⟩ := e
  obtain ⟨c, d⟩ := f
  by_cases z1 : a = c <;> by_cases z2 : b = d <;> simp [z1, z2]
theorem in_kept {e : (Int × Int) × Ent} {es : Bk} (h : EntOk e.2) (k : ∀ f ∈ es, EntOk f.2) : ((es.map dKep).any fun z => PyData.eqv z (dKep e)) = decide (e ∈ es) := by
  induction es with
  | nil => rfl
  | cons f es ih =>
    rw [List.map_cons, List.any_cons, ih fun g m => k g (List.mem_cons_of_mem _ m), dKep_eqv (k f List.mem_cons_self) h]
    by_cases z : f = e
    · simp [z]
    · have z2 : ¬ e = f := fun q => z q.symm
      simp [z, z2]
/-! ### clashes, one after another -/
theorem pw_fit {l : Bk} (h : l.Pairwise fun a b => a.1 ≠ b.1) : Fit l := by
  induction l with
  | nil => intro a m; cases m
  | cons x l ih =>
    obtain ⟨h1, h2⟩ := List.pairwise_cons.mp h
    intro a ma b mb q
    rcases List.mem_cons.mp ma with ea | ma2
    · rcases List.mem_cons.mp mb with eb | mb2
      · rw [ea, eb]
      · exact absurd (by rw [← ea]; exact q) (h1 b mb2)
    · rcases List.mem_cons.mp mb with eb | mb2
      · exact absurd (by rw [← eb]; exact q.symm) (h1 a ma2)
      · exact ih h2 a ma2 b mb2 q
theorem getE_ins {p q : Int × Int} {x : Ent} {es : Bk} (h : Asc es) : getE q (insE p x es) = if q = p then some x else getE q es := by
  have a := asc_insE (p := p) (x := x) h
  by_cases z : q = p
  · rw [if_pos z, z]
    exact (getE_mem a).mpr ((mem_insE h _).mpr (.inl rfl))
  · rw [if_neg z]
    cases e : getE q es with
    | none =>
      refine getE_none.mpr fun f m => ?_
      rcases (mem_insE h f).mp m with rfl | ⟨m, _⟩
      · exact fun w => z w.symm
      · exact getE_none.mp e f m
    | some y => exact (getE_mem a).mpr ((mem_insE h _).mpr (.inr ⟨(getE_mem h).mp e, z⟩))
/-- rows behind which the other book clashes at just these places -/
structure Cl (es rs fs : Bk) (qs : List (Int × Int)) (i : Nat) : Prop where
  a : ∀ e ∈ rs.take i, clashE es fs e = true ↔ e.1 ∈ qs
  b : ∀ e ∈ rs.drop i, clashE es fs e = false
  c : ∀ q ∈ qs, ∃ e ∈ rs.take i, e.1 = q
theorem drop_at {rs : Bk} {i : Nat} {e : (Int × Int) × Ent} (h : rs[i]? = some e) : rs.drop i = e :: rs.drop (i + 1) ∧ rs.take (i + 1) = rs.take i ++ [e] := by
  obtain ⟨l, rfl⟩ := List.getElem?_eq_some_iff.mp h
  refine ⟨by rw [← List.getElem_cons_drop l], by rw [List.take_add_one, h]; rfl⟩
theorem pw_at {rs : Bk} {i : Nat} {e : (Int × Int) × Ent} (w : rs.Pairwise fun a b => a.1 ≠ b.1) (h : rs[i]? = some e) : (∀ f ∈ rs.take i, f.1 ≠ e.1) ∧ ∀ f ∈ rs.drop (i + 1), f.1 ≠ e.1 := by
  have e1 : rs = rs.take i ++ (e :: rs.drop (i + 1)) := by rw [← (drop_at h).1, List.take_append_drop]
  rw [e1] at w
  obtain ⟨_, w2, w3⟩ := List.pairwise_append.mp w
  exact ⟨fun f m => w3 f m e List.mem_cons_self, fun f m => ((List.pairwise_cons.mp w2).1 f m).symm⟩
theorem Cl.skip {es rs fs : Bk} {qs : List (Int × Int)} {i : Nat} {e : (Int × Int) × Ent} (C : Cl es rs fs qs i) (w : rs.Pairwise fun a b => a.1 ≠ b.1) (h : rs[i]? = some e) : Cl es rs fs qs (i + 1) := by
  obtain ⟨d, t⟩ := drop_at h
  obtain ⟨w1, w2⟩ := pw_at w h
  refine ⟨fun f m => ?_, fun f m => C.b f (by rw [d]; exact List.mem_cons_of_mem _ m), fun q m => let ⟨f, mf, r⟩ := C.c q m; ⟨f, by rw [t]; exact List.mem_append_left _ mf, r⟩⟩
  rw [t] at m
  rcases List.mem_append.mp m with m | m
  · exact C.a f m
  · rw [List.mem_singleton.mp m, C.b e (by rw [d]; exact List.mem_cons_self)]
    refine ⟨fun z => Bool.noConfusion z, fun z => ?_⟩
    obtain ⟨g, mg, r⟩ := C.c _ z
    exact absurd r (w1 g mg)
theorem Cl.set {es rs fs : Bk} {qs qs' : List (Int × Int)} {i : Nat} {e : (Int × Int) × Ent} {y : Ent} (C : Cl es rs fs qs i) (w : rs.Pairwise fun a b => a.1 ≠ b.1) (h : rs[i]? = some e) (k : Asc fs) (hq : qs' = if y = e.2 then qs else qs ++ [e.1]) : Cl es rs (insE e.1 y fs) qs' (i + 1) := by
  obtain ⟨d, t⟩ := drop_at h
  obtain ⟨w1, w2⟩ := pw_at w h
  have ot : ∀ f : (Int × Int) × Ent, f.1 ≠ e.1 → clashE es (insE e.1 y fs) f = clashE es fs f := fun f n => by
    unfold clashE
    rw [getE_ins k, if_neg n]
  have se : clashE es (insE e.1 y fs) e = decide (y ≠ e.2) := by
    unfold clashE
    rw [getE_ins k, if_pos rfl]
  have ne : e.1 ∉ qs := fun z => by
    obtain ⟨g, mg, r⟩ := C.c _ z
    exact absurd r (w1 g mg)
  have mq : ∀ q, q ≠ e.1 → (q ∈ qs' ↔ q ∈ qs) := fun q n => by
    rw [hq]
    split
    · exact Iff.rfl
    · rw [List.mem_append, List.mem_singleton]
      exact ⟨fun m => m.elim id fun z => absurd z n, .inl⟩
  refine ⟨fun f m => ?_, fun f m => ?_, fun q m => ?_⟩
  · rw [t] at m
    rcases List.mem_append.mp m with m | m
    · rw [ot f (w1 f m), mq _ (w1 f m)]
      exact C.a f m
    · rw [List.mem_singleton.mp m, se, hq]
      by_cases z : y = e.2
      · rw [if_pos z]
        simp [z, ne]
      · rw [if_neg z]
        simp [z]
  · rw [ot f (w2 f m)]
    exact C.b f (by rw [d]; exact List.mem_cons_of_mem _ m)
  · rw [t]
    by_cases z : q = e.1
    · exact ⟨e, List.mem_append_right _ List.mem_cons_self, z.symm⟩
    · obtain ⟨f, mf, r⟩ := C.c q ((mq q z).mp m)
      exact ⟨f, List.mem_append_left _ mf, r⟩
theorem clash_first {fs gs : Bk} {m : Int × Int} : ∀ {es : Bk}, Asc es → (∃ e ∈ es, e.1 = m ∧ clashE gs fs e = true) → (∀ e ∈ es, clashE gs fs e = true → ¬ ltP e.1 m) → (es.find? fun e => clashE gs fs e).map (·.1) = some m
  | [], _, ⟨e, me, _⟩, _ => by cases me
  | a :: r, h, ⟨e, me, q, c⟩, k => by
    obtain ⟨h1, h2⟩ := List.pairwise_cons.mp h
    rw [List.find?_cons]
    by_cases z : clashE gs fs a = true
    · rw [z]
      rcases List.mem_cons.mp me with rfl | me2
      · exact congrArg some q
      · exact absurd (by rw [← q]; exact h1 e me2) (k a List.mem_cons_self z)
    · have z2 : clashE gs fs a = false := by simpa using z
      rw [z2]
      rcases List.mem_cons.mp me with rfl | me2
      · exact absurd c z
      · exact clash_first h2 ⟨e, me2, q, c⟩ fun f m => k f (List.mem_cons_of_mem _ m)
theorem Cl.none {es rs fs : Bk} (C : Cl es rs fs [] rs.length) (m : ∀ e, e ∈ es ↔ e ∈ rs) : clash1 es fs = Option.none := by
  unfold clash1
  rw [Option.map_eq_none_iff, List.find?_eq_none]
  intro e me z
  have := (C.a e (by rw [List.take_length]; exact (m e).mp me)).mp z
  cases this
theorem Cl.some {es rs fs : Bk} {q : Int × Int} {qs : List (Int × Int)} (C : Cl es rs fs (q :: qs) rs.length) (m : ∀ e, e ∈ es ↔ e ∈ rs) (A1 : Asc es) (A2 : Asc fs) : clash1 es fs = Option.some (minP q qs) ∧ clash1 fs es = Option.some (minP q qs) := by
  obtain ⟨m1, m2⟩ := minP_ok qs q
  have ca : ∀ e ∈ es, clashE es fs e = true ↔ e.1 ∈ q :: qs := fun e me => C.a e (by rw [List.take_length]; exact (m e).mp me)
  obtain ⟨e, me, r⟩ := C.c _ m1
  rw [List.take_length] at me
  have me := (m e).mpr me
  have ce : clashE es fs e = true := (ca e me).mpr (by rw [r]; exact m1)
  refine ⟨clash_first A1 ⟨e, me, r, ce⟩ fun f mf c => m2 _ ((ca f mf).mp c), ?_⟩
  have sw : ∀ {as bs : Bk}, Asc as → Asc bs → ∀ a ∈ as, clashE as bs a = true → ∃ b ∈ bs, b.1 = a.1 ∧ clashE bs as b = true := fun {as bs} ha hb a mem c => by
    unfold clashE at c
    cases hg : getE a.1 bs with
    | none => rw [hg] at c; cases c
    | some y =>
      rw [hg] at c
      have c : y ≠ a.2 := of_decide_eq_true c
      refine ⟨(a.1, y), (getE_mem hb).mp hg, rfl, ?_⟩
      unfold clashE
      rw [(getE_mem ha).mpr mem]
      exact decide_eq_true fun z => c z.symm
  obtain ⟨b, mb, rb, cb⟩ := sw A1 A2 e me ce
  refine clash_first A2 ⟨b, mb, rb.trans r, cb⟩ fun f mf c => ?_
  obtain ⟨g, mg, rg, cg⟩ := sw A2 A1 f mf c
  rw [← rg]
  exact m2 _ ((ca g mg).mp cg)
end Lo
set_option Elab.async false
set_option linter.all false
set_option maxRecDepth 100000
set_option maxHeartbeats 4000000
local macro_rules | `(tactic| fail "lo_ne") => `(tactic| first
  | assumption
  | exact Ne.symm (by assumption))
local macro_rules | `(tactic| fail "lo_hq") => `(tactic| ((with_reducible show @Eq (Option L2.HO) _ _); first
  | (with_reducible exact L2.upd_same)
  | (with_reducible assumption)
  | exact Lo.sget (by with_reducible assumption) (by fail "lo_hq")
  | exact Lo.kget (by with_reducible assumption) (by fail "lo_ne") (by fail "lo_hq")
  | ((with_reducible show L2.upd _ _ _ _ = _); exact Lo.une (by fail "lo_ne") (by fail "lo_hq"))
  | assumption))
local macro_rules | `(tactic| fail "lo_R") => `(tactic| first
  | (with_reducible assumption)
  | exact Lo.rsame (by with_reducible assumption) (by fail "lo_R"))
local macro_rules | `(tactic| fail "lo_F") => `(tactic| first
  | (with_reducible assumption)
  | exact Lo.fsame (by with_reducible assumption) (by fail "lo_F")
  | exact Lo.tsame (by with_reducible assumption) (by fail "lo_F"))
local macro_rules | `(tactic| fail "lo_S") => `(tactic| first
  | (with_reducible assumption)
  | exact Lo.strans (by with_reducible assumption) (by fail "lo_S")
  | exact L2.Same.refl _)
local macro_rules | `(tactic| fail "lo_hp") => `(tactic| first
  | ((with_reducible show L2.SqT _ _ _ _); first | exact L2.SqT.of (by fail "lo_hq") | assumption)
  | ((with_reducible show L2.SqL _ _ _ _); first | exact L2.SqL.of (by fail "lo_hq") | assumption | exact L2.Same.seq (by assumption) (by fail "lo_hp")))
local macro_rules | `(tactic| fail "lo_mok") => `(tactic| first
  | exact Lo.mok_r (by decide)
  | exact Lo.mok_l (by decide)
  | exact Lo.mok_r (by omega)
  | exact Lo.mok_l (by omega)
  | assumption)
local macro_rules | `(tactic| fail "lo_cond") => `(tactic| first
  | (show PySem.IntMulOk _ _; fail "lo_mok")
  | (show (0 : Int) < _; first | decide | omega | assumption)
  | (show L2.CPow _ _; exact ⟨by decide, by decide, by first | decide | omega⟩)
  | (show Lo.CDivA _ _; exact ⟨by first | assumption | omega, by assumption⟩)
  | (show L2.CDivW _ _; exact ⟨by first | decide | omega, by first | decide | assumption⟩))
local macro_rules | `(tactic| fail "lo_lk") => `(tactic| ((with_reducible show @Eq (Option L2.V) _ _); first
  | exact Lo.lk0
  | exact Lo.lkn
  | exact Lo.lk1 (by decide +kernel) (by fail "lo_lk")))
/- one step of a reading that has one way only -/
local macro_rules | `(tactic| fail "lo_rd1") => `(tactic| first
  | (refine ⟨_, rfl, ?_⟩)
  | (refine ⟨_, _, rfl, rfl, (by fail "lo_cond"), ?_⟩)
  | (refine ⟨_, _, rfl, rfl, ?_⟩)
  | (refine ⟨_, _, _, _, rfl, rfl, (by fail "lo_hp"), Lo.ix_c (by rfl), ?_⟩)
  | (refine ⟨_, _, _, _, rfl, rfl, (by fail "lo_hq"), (by rfl), ?_⟩)
  | (refine ⟨_, _, _, _, _, rfl, (by fail "lo_hq"), (by fail "lo_cl"), (by fail "lo_na"), (by fail "lo_lk"), ?_⟩)
  | (refine ⟨_, _, _, _, rfl, (by fail "lo_hq"), (by fail "lo_cl"), (by fail "lo_na"), Nat.le_of_ble_eq_true rfl, ?_⟩)
  | (refine ⟨_, _, _, rfl, (by fail "lo_hq"), (by fail "lo_lk"), ?_⟩)
  | ((with_reducible show L2.rEqD _ (L2.V.ref _) (L2.V.ref _) _ _); refine Lo.eqT (by fail "lo_hq") (by fail "lo_hq") ?_)
  | ((with_reducible show L2.rNeD _ (L2.V.ref _) (L2.V.ref _) _ _); refine Lo.neT (by fail "lo_hq") (by fail "lo_hq") ?_)
  | (refine ⟨Or.inl ⟨rfl, _, (by fail "lo_hp")⟩, ?_⟩)
  | (refine Or.inl ⟨_, rfl, ?_⟩)
  | (refine Or.inr ⟨_, rfl, ?_⟩)
  | (refine ⟨rfl, ?_⟩)
  | (refine ⟨_, _, rfl, Or.inl (by fail "lo_hp"), ?_⟩)
  | (refine ⟨_, _, rfl, (by fail "lo_hp"), rfl, ?_⟩)
  | (refine ⟨_, _, rfl, ?_⟩)
  | (refine ⟨⟨_, (by fail "lo_hp")⟩, ?_⟩)
  | (refine ⟨Lo.line_le (Nat.le_of_ble_eq_true rfl), ?_⟩)
  | (refine ⟨⟨_, rfl⟩, _, rfl, rfl, True.intro, ?_⟩)
  | (with_reducible show L2.tNil _ _ _; dsimp only [L2.tNil]))
/- as many such steps as there are -/
local macro_rules | `(tactic| fail "rd") => `(tactic| repeat fail "lo_rd1")

namespace Lo
open PySem PySem.Spec PyProof.Rows L2
def top (i : Nat) : Stmt := PySem.Challenge.pw_lotcosts_k33_books_joined.main.body.getD i (.Pass ⟨0, 0, 0, 0⟩)
structure Txt (K : PySem.W.Frag) (mg : Str → Option Value) (ca : Nat → Addr) : Prop where
  b_abs : mg "abs" = none
  b_all : mg "all" = none
  b_bool : mg "bool" = none
  b_int : mg "int" = none
  b_isinstance : mg "isinstance" = none
  b_len : mg "len" = none
  b_list : mg "list" = none
  b_min : mg "min" = none
  b_range : mg "range" = none
  b_sorted : mg "sorted" = none
  b_str : mg "str" = none
  b_tuple : mg "tuple" = none
  c__LONGEST : ∃ t, mg "_LONGEST" = some (.int 12 t)
  c__MOST : ∃ t, mg "_MOST" = some (.int 1000000 t)
  g_CostError : mg "CostError" = some (.ref (ca 0))
  g_BadEntry : mg "BadEntry" = some (.ref (ca 7))
  te_BadEntry : PySem.W.exmOne K (.ref (ca 7)) (.ref (ca 7)) = some true
  ec_BadEntry : L2.ExcC K (ca 7)
  ox_BadEntry : L2.OexC K (ca 7)
  xf_BadEntry : L2.XfC K (ca 7)
  nf_BadEntry_day : PySem.W.findIn K (.ref (ca 7)) "day" = some none
  nf_BadEntry_number : PySem.W.findIn K (.ref (ca 7)) "number" = some none
  ox_NoEntry : L2.OexC K (ca 8)
  nf_NoEntry_day : PySem.W.findIn K (.ref (ca 8)) "day" = some none
  nf_NoEntry_number : PySem.W.findIn K (.ref (ca 8)) "number" = some none
  cl_Book : Cls K (ca 22)
  na_Book__entries : NoAttr K (ca 22) "_entries"
  nq_Book : PySem.W.noSeq K (ca 22) = true
  fg_Book : ∀ f : Addr, PySem.W.findIn K (.ref (ca 22)) "__getitem__" = some (some (.ref f)) → PySem.W.fnIn K f = true
  ki_BadEntry_CostError : PySem.W.kitOne K (.ref (ca 7)) (.ref (ca 0)) = some true
local macro_rules | `(tactic| fail "lo_cl") => `(tactic| ((with_reducible show L2.Cls _ _); first
  | exact (show Txt _ _ _ by assumption).cl_Book))
local macro_rules | `(tactic| fail "lo_na") => `(tactic| ((with_reducible show L2.NoAttr _ _ _); first
  | exact (show Txt _ _ _ by assumption).na_Book__entries))
section
variable {P : Program} {w : World} {K : PySem.W.Frag} {mg : Str → Option Value} {base : Heap} {ca : Nat → Addr}
abbrev s_l_bag : Stmt := top 14
theorem sc_l_bag : FnScope ["_law_script"] ["_law_script"] (defScope s_l_bag) := ⟨rfl, rfl, rfl, by decide +kernel, rfl, by decide +kernel, by decide +kernel⟩
def sp_l_bag (K : PySem.W.Frag) (_ : Nat → Addr) : Sp := fun vs H Q _ => ∃ (a : Addr) (ns : List Int), vs = [.ref a] ∧ SqL K H a (ns.map V.int) ∧ ∀ (L b : Addr) (H' : Hp), H b = none → H L = none → Same H H' → Bag H' L b → Q (.ref b) H'
theorem ok_l_bag {f : Addr} {fd : FuncData} (F : Fun K "_law_bag" "_law_bag" s_l_bag f fd) (T : Txt K mg ca)  : FnOk P w K mg base (L2N.CX P w) 1 f fd ["_law_script"] (sp_l_bag K ca) := by
  refine okN F sc_l_bag (fun vs H Q E h => ?_) (fun cdv A outer s H vs Q E hr h => ?_)
  · obtain ⟨_, _, rfl, _⟩ := h
    rfl
  · obtain ⟨a, ns, rfl, hs, k⟩ := h
    refine ⟨_, pss_one (ps_ret (pe_lst (pa_cons (pe_callTy call_list_of (by rfl) T.b_list (by decide +kernel) (pa_cons (pv 0) pa_nil)) (pa_cons pe_int (pa_cons pe_int (pa_cons pe_int (pa_cons pe_int pa_nil))))))), ?_⟩
    fail "rd"
    intro L n_L
    generalize g_H1 : upd _ L _ = H1
    obtain ⟨s_H1, e_L⟩ := gen_new n_L g_H1
    clear g_H1
    fail "rd"
    intro b n_b
    generalize g_H2 : upd _ b _ = H2
    obtain ⟨s_H2, e_b⟩ := gen_new n_b g_H2
    clear g_H2
    exact k L b H2 (s_H1.free n_b) n_L (s_H1.trans s_H2) (Bag.mk (i := 0) e_b (s_H2 _ _ e_L) (ne_of_none e_L n_b))

abbrev s_l_draw : Stmt := top 15
theorem sc_l_draw : FnScope ["_law_bag_here", "_law_size", "_law_cell", "_law_digit", "_law_mixed_here"] ["_law_bag_here", "_law_size"] (defScope s_l_draw) := ⟨rfl, rfl, rfl, by decide +kernel, rfl, by decide +kernel, by decide +kernel⟩
def sp_l_draw (_ : PySem.W.Frag) (_ : Nat → Addr) : Sp := fun vs H Q _ => ∃ (b : Addr) (n : Int), vs = [.ref b, .int n] ∧ ∃ L : Addr, Bag H L b ∧ 0 < n ∧ n.natAbs.log2 < 9000 ∧ ∀ (d : Int) (H' : Hp), 0 ≤ d → d < n → Keep b H H' → Bag H' L b → Q (.int d) H'
theorem ok_l_draw {f : Addr} {fd : FuncData} (F : Fun K "_law_draw" "_law_draw" s_l_draw f fd) (T : Txt K mg ca)  : FnOk P w K mg base (L2N.CX P w) 1 f fd ["_law_bag_here", "_law_size"] (sp_l_draw K ca) := by
  refine okN F sc_l_draw (fun vs H Q E h => ?_) (fun cdv A outer s H vs Q E hr h => ?_)
  · obtain ⟨_, _, rfl, _⟩ := h
    rfl
  · obtain ⟨b, n, rfl, L, hB, h0, hn, k⟩ := h
    refine ⟨_, pss_cons (ps_asg (pe_op op_add (pe_ix ix_list (pv 0) pe_int (fun _ _ => rfl)) pe_int) (pg_sub (pv 0) pe_int set_list)) (Evl.pss_cut (ps_if (PW.pt (pw_and (pt_cmpR op_eq (pe_ix ix_list (pv 0) pe_int (fun _ _ => rfl)) pe_int (nomark _)) (pw_and1 (pt_cmpR op_lt (pe_ix ix_list (pv 0) pe_int (fun _ _ => rfl)) (pe_callB call_len_seq (by rfl) T.b_len (by decide +kernel) (pa_cons (pe_ix ix_list (pv 0) pe_int (fun _ _ => rfl)) pa_nil)) (nomark _))))) (pss_cons (ps_set (i := 2) sc_l_draw.nd rfl (Or.inl rfl) (pe_ix ix_list (pe_ix ix_list (pv 0) pe_int (fun _ _ => rfl)) (pe_ix ix_list (pv 0) pe_int (fun _ _ => rfl)) (fun _ _ => rfl))) (pss_cons (ps_asg (pe_op op_add (pe_ix ix_list (pv 0) pe_int (fun _ _ => rfl)) pe_int) (pg_sub (pv 0) pe_int set_list)) (pss_cons (ps_asg (pe_op op_mulI (pe_op op_add (pe_op op_mulI pe_int (pe_callB call_abs (by rfl) T.b_abs (by decide +kernel) (pa_cons (pv 2) pa_nil))) (pe_callTy call_int1 (by rfl) T.b_int (by decide +kernel) (pa_cons (pe_cmpR op_lt (pv 2) pe_int (nomark _)) pa_nil))) (pe_callTy call_int1 (by rfl) T.b_int (by decide +kernel) (pa_cons (pe_cmpR op_ge (pe_callB call_abs (by rfl) T.b_abs (by decide +kernel) (pa_cons (pv 2) pa_nil)) (pe_op op_pow pe_int pe_int) (nomark _)) pa_nil))) (pg_sub (pv 0) pe_int set_list)) (pss_one (ps_asg (pe_op op_mod (pe_callTy call_int1 (by rfl) T.b_int (by decide +kernel) (pa_cons (pe_op op_add (pe_op op_add (pe_op op_mulI (pe_ix ix_list (pv 0) pe_int (fun _ _ => rfl)) pe_int) (pe_op op_mulI (pv 2) pe_int)) pe_int) pa_nil)) pe_int) (pg_sub (pv 0) pe_int set_list)))))) pss_nil) (pss_cons (ps_set (i := 3) sc_l_draw.nd rfl (Or.inl rfl) (pe_op op_mod (pe_callTy call_int1 (by rfl) T.b_int (by decide +kernel) (pa_cons (pe_ix ix_list (pv 0) pe_int (fun _ _ => rfl)) pa_nil)) (pv 1))) (pss_cons (ps_if (pt_cmpR op_gt (pe_ix ix_list (pv 0) pe_int (fun _ _ => rfl)) pe_int (nomark _)) (pss_cons (ps_asg (pe_op op_fdivW (pe_ix ix_list (pv 0) pe_int (fun _ _ => rfl)) (pv 1)) (pg_sub (pv 0) pe_int set_list)) (pss_one (ps_ret (pv 3)))) pss_nil) (pss_cons (ps_set (i := 4) sc_l_draw.nd rfl (Or.inl rfl) (pe_op op_mod (pe_callTy call_int1 (by rfl) T.b_int (by decide +kernel) (pa_cons (pe_op op_add (pe_ix ix_list (pv 0) pe_int (fun _ _ => rfl)) (pe_op op_mulI (pe_ix ix_list (pv 0) pe_int (fun _ _ => rfl)) pe_int)) pa_nil)) pe_int)) (pss_cons (ps_set (i := 4) sc_l_draw.nd rfl (Or.inl rfl) (pe_op op_mod (pe_callTy call_int1 (by rfl) T.b_int (by decide +kernel) (pa_cons (pe_op op_add (pe_op op_add (pe_op op_pow (pv 4) pe_int) (pe_op op_mulI (pe_ix ix_list (pv 0) pe_int (fun _ _ => rfl)) pe_int)) pe_int) pa_nil)) pe_int)) (pss_one (ps_ret (pe_op op_mod (pe_op op_fdivW (pe_op op_mod (pe_callTy call_int1 (by rfl) T.b_int (by decide +kernel) (pa_cons (pe_op op_pow (pv 4) pe_int) pa_nil)) pe_int) pe_int) (pv 1))))))))), ?_⟩
    obtain ⟨ns, i, big, mix, cnt, hb, hL, hne⟩ := hB
    iterate 5 fail "lo_rd1"
    generalize g_H1 : upd _ b _ = H1
    obtain ⟨k_H1, e_H1⟩ := gen_put g_H1
    clear g_H1
    refine ⟨fun σ' H' => ∃ (v : Option V) (i : Nat) (big mix cnt : Int), σ' = [some (.ref b), some (.int n), v, none, none] ∧ Keep b H H' ∧ H' b = some (.lst [.ref L, .int i, .int big, .int mix, .int cnt]), ?_, ?_⟩
    · fail "rd"
      refine iteI (fun z1 => ?_) (fun z1 => ?_)
      · fail "rd"
        refine iteD (fun z2 => ?_) (fun z2 => ?_)
        · fail "rd"
          have hi : i < ns.length := by
            have z3 : (i : Int) < ((ns.map V.int).length : Nat) := z2
            rw [List.length_map] at z3
            omega
          refine ⟨_, _, _, _, rfl, rfl, (by fail "lo_hp"), atI_nat (v := .int ns[i]) (by simp [hi]), ?_⟩
          fail "rd"
          exact ⟨_, i + 1, _, _, _, rfl, ((k_H1.trans keep_upd).trans keep_upd).trans keep_upd, upd_same⟩
        · exact ⟨_, _, _, _, _, rfl, k_H1, e_H1⟩
      · exact ⟨_, _, _, _, _, rfl, k_H1, e_H1⟩
    · rintro σ' H' ⟨v, i, big, mix, cnt, rfl, kp, hb'⟩
      have hL' : H' L = some (.lst (ns.map V.int)) := kp _ _ hL hne
      fail "rd"
      refine iteD (fun z3 => ?_) (fun z3 => ?_)
      · fail "rd"
        exact k _ _ (Int.emod_nonneg _ (by omega)) (Int.emod_lt_of_pos _ h0) (kp.trans keep_upd) (Bag.mk upd_same (une hne hL') hne)
      · fail "rd"
        exact k _ _ (Int.emod_nonneg _ (by omega)) (Int.emod_lt_of_pos _ h0) kp (Bag.mk hb' hL' hne)

abbrev s_l_names : Stmt := top 16
theorem sc_l_names : FnScope ["_law_bag_here", "_law_count", "_law_words", "_law_letters", "_law_size", "_law_k", "_law_stem", "_law_where", "_law_shift", "_law_longer", "_law_names_here", "_law_name", "_law_spot", "_law_word"] ["_law_bag_here", "_law_count", "_law_words"] (defScope s_l_names) := ⟨rfl, rfl, rfl, by decide +kernel, rfl, by decide +kernel, by decide +kernel⟩
def sp_l_names (_ : PySem.W.Frag) (_ : Nat → Addr) : Sp := fun vs H Q _ => ∃ (b lw : Addr) (n : Nat) (ws : List Str), vs = [.ref b, .int n, .ref lw] ∧ ∃ L : Addr, Bag H L b ∧ H lw = some (.lst (ws.map V.str)) ∧ lw ≠ b ∧ (∀ z ∈ ws, NameOk z) ∧ ws ≠ [] ∧ ws.length < 1000 ∧ 1 ≤ n ∧ n ≤ 60 ∧
  ∀ (N : List Str) (p : Addr) (H' : Hp), N.length = n → (∀ z ∈ N, NameOk z) → H p = none → Keep b H H' → Bag H' L b → H' p = some (.lst (N.map V.str)) → Q (.ref p) H'
theorem ok_l_names {f : Addr} {fd : FuncData} (F : Fun K "_law_names" "_law_names" s_l_names f fd) (T : Txt K mg ca) (O__law_draw : Own P w K mg base 1 "_law_draw" ["_law_bag_here", "_law_size"] (sp_l_draw K ca)) : FnOk P w K mg base (L2N.CX P w) 2 f fd ["_law_bag_here", "_law_count", "_law_words"] (sp_l_names K ca) := by
  refine okN F sc_l_names (fun vs H Q E h => ?_) (fun cdv A outer s H vs Q E hr h => ?_)
  · obtain ⟨_, _, _, _, rfl, _⟩ := h
    rfl
  · obtain ⟨b, lw, n, ws, rfl, L, hB, hw, nw, okw, w0, w1, n1, n60, k⟩ := h
    refine ⟨_, pss_cons (ps_set (i := 3) sc_l_names.nd rfl (Or.inr rfl) pe_str) (pss_cons (ps_set (i := 4) sc_l_names.nd rfl (Or.inl rfl) (pe_ix ix_list (pe_lst (pa_cons pe_int (pa_cons pe_int (pa_cons pe_int (pa_cons pe_int (pa_cons pe_int pa_nil)))))) (pe_own O__law_draw (hr.mono (by decide)) rfl pas0 (pa_cons (pv 0) (pa_cons pe_int pa_nil))) (fun _ _ => rfl))) (pss_cons (ps_set (i := 6) sc_l_names.nd rfl (Or.inl rfl) (pe_join pe_str (pe_lc (own := [("_law_k", 5)]) (g := gName 5) (tt := tYes) rfl sc_l_names.nd (pi_range1 rfl T.b_range (pa_cons (pv 4) pa_nil)) (blkOk_by (N := ["_law_bag_here", "_law_count", "_law_words", "_law_letters", "_law_size", "_law_k", "_law_stem", "_law_where", "_law_shift", "_law_longer", "_law_names_here", "_law_name", "_law_spot", "_law_word"]) (sc := defScope s_l_names) (by decide +kernel)) (fun _ _ _ _ _ => pg_name (i := 5) sc_l_names.nd rfl (Or.inl rfl)) (fun _ _ _ _ _ => pts_nil) (fun _ _ _ _ _ => pe_ix ix_str (pv 3) (pe_own O__law_draw (hr.mono (by decide)) rfl pas0 (pa_cons (pv 0) (pa_cons pe_int pa_nil))) (fun _ _ => rfl))))) (pss_cons (ps_set (i := 7) sc_l_names.nd rfl (Or.inl rfl) (pe_own O__law_draw (hr.mono (by decide)) rfl pas0 (pa_cons (pv 0) (pa_cons (pe_op op_add (pv 4) pe_int) pa_nil)))) (pss_cons (ps_set (i := 8) sc_l_names.nd rfl (Or.inl rfl) (pe_own O__law_draw (hr.mono (by decide)) rfl pas0 (pa_cons (pv 0) (pa_cons pe_int pa_nil)))) (pss_cons (ps_set (i := 9) sc_l_names.nd rfl (Or.inl rfl) (pe_own O__law_draw (hr.mono (by decide)) rfl pas0 (pa_cons (pv 0) (pa_cons pe_int pa_nil)))) (pss_cons (ps_set (i := 10) sc_l_names.nd rfl (Or.inl rfl) (pe_lst pa_nil)) (pss_cons (ps_for (passes_of rfl) rfl (pi_range1 rfl T.b_range (pa_cons (pv 1) pa_nil)) (pg_name (i := 5) sc_l_names.nd rfl (Or.inl rfl)) (pss_cons (ps_set (i := 11) sc_l_names.nd rfl (Or.inl rfl) (pe_op op_add_str (pe_op op_add_str (pe_slice sl_str (pv 6) po_none (po_some (pv 7))) (pe_ix ix_str (pv 3) (pe_op op_mod (pe_callTy call_int1 (by rfl) T.b_int (by decide +kernel) (pa_cons (pe_op op_add (pv 8) (pe_op op_mulI pe_int (pv 5))) pa_nil)) pe_int) (fun _ _ => rfl))) (pe_slice sl_str (pv 6) (po_some (pv 7)) po_none))) (pss_one (ps_expr (pe_bm PySem.F.plainAttrs_list PySem.F.slot_list_append PySem.F.type_list_append mt_append (pv 10) (pa_cons (pe_op op_add_str (pv 11) (pe_op op_mulS1 (pe_ix ix_str (pv 3) (pv 8) (fun _ _ => rfl)) (pe_callTy call_int1 (by rfl) T.b_int (by decide +kernel) (pa_cons (pe_cmpR op_eq (pe_op op_mod (pe_callTy call_int1 (by rfl) T.b_int (by decide +kernel) (pa_cons (pv 5) pa_nil)) pe_int) (pv 9) (nomark _)) pa_nil)))) pa_nil)))))) (Evl.pss_cut (ps_if (PW.pt (pw_and (pt_cmpR op_gt (pv 1) pe_int (nomark _)) (pw_and (pt_cmpR op_lt (pv 4) pe_int (nomark _)) (pw_and1 (pt_cmpR op_eq (pv 9) pe_int (nomark _)))))) (pss_one (ps_asg (pe_op op_add_str (pe_ix ix_list (pv 10) pe_int (fun _ _ => rfl)) (pe_ix ix_str (pv 3) (pe_own O__law_draw (hr.mono (by decide)) rfl pas0 (pa_cons (pv 0) (pa_cons pe_int pa_nil))) (fun _ _ => rfl))) (pg_sub (pv 10) pe_int set_list))) pss_nil) (pss_cons (ps_set (i := 12) sc_l_names.nd rfl (Or.inl rfl) (pe_own O__law_draw (hr.mono (by decide)) rfl pas0 (pa_cons (pv 0) (pa_cons (pe_op op_mulI pe_int (pv 1)) pa_nil)))) (pss_cons (ps_set (i := 13) sc_l_names.nd rfl (Or.inl rfl) (pe_ix ix_list (pv 2) (pe_own O__law_draw (hr.mono (by decide)) rfl pas0 (pa_cons (pv 0) (pa_cons (pe_callB call_len_seq (by rfl) T.b_len (by decide +kernel) (pa_cons (pv 2) pa_nil)) pa_nil))) (fun _ _ => rfl))) (pss_cons (ps_if (PW.pt (pw_and (pt_cmpR op_lt (pv 12) (pv 1) (nomark _)) (pw_and1 (pt_cmpR op_notIn_seq (pv 13) (pv 10) (by with_unfolding_all rfl))))) (pss_one (ps_asg (pv 13) (pg_sub (pv 10) (pv 12) set_list))) pss_nil) (pss_one (ps_ret (pv 10)))))))))))))), ?_⟩
    fail "rd"
    intro l n_l
    generalize g_H1 : upd _ l _ = H1
    obtain ⟨s_H1, e_l⟩ := gen_new n_l g_H1
    clear g_H1
    have B1 := hB.same s_H1
    have lb := hB.ne n_l
    fail "rd"
    refine ⟨L, B1, by decide, by decide, fun c H2 c0 c1 k2 B2 => ?_⟩
    have e_l : H2 l = some (.lst [.int 0, .int 1, .int 2, .int 3, .int 10]) := k2 _ _ e_l lb
    obtain ⟨size, hs, s0⟩ : ∃ m : Nat, atI [V.int 0, .int 1, .int 2, .int 3, .int 10] c = some (.int m) ∧ m ≤ 10 := by
      have hc : c = 0 ∨ c = 1 ∨ c = 2 ∨ c = 3 ∨ c = 4 := by omega
      rcases hc with rfl | rfl | rfl | rfl | rfl
      · exact ⟨0, ix_c rfl, by decide⟩
      · exact ⟨1, ix_c rfl, by decide⟩
      · exact ⟨2, ix_c rfl, by decide⟩
      · exact ⟨3, ix_c rfl, by decide⟩
      · exact ⟨10, ix_c rfl, by decide⟩
    refine ⟨_, _, _, _, rfl, rfl, SqL.of e_l, hs, ?_⟩
    refine ⟨⟨_, rfl⟩, ?_⟩
    fail "rd"
    have e62 : (2 : Int) ^ 62 = 4611686018427387904 := by decide
    refine ⟨by omega, by omega, fun D nD => lc_range (lo := 0) (n := size) (fun i H' => ∃ acc : List Str, H' D = some (.lst (acc.map V.str)) ∧ acc.length = i ∧ (∀ z ∈ acc, Sign z) ∧ Keep b H2 H' ∧ Bag H' L b)
      ⟨[], upd_same, rfl, fun _ m => (nomatch m), .of (same_upd nD), B2.same (same_upd nD)⟩ ?_ ?_⟩
    · rintro i H3 hi ⟨acc, hD, hl, hs, k3, B3⟩
      have nDb : D ≠ b := B2.ne nD
      have nDL : D ≠ L := B2.neL nD
      fail "rd"
      refine ⟨L, B3, by decide, by decide, fun d H4 d0 d1 k4 B4 => ?_⟩
      fail "rd"
      refine rIxS_abc d0 d1 ?_
      have hD4 := k4 _ _ hD nDb
      refine ⟨_, hD4, by rw [List.length_map]; exact size_line (by omega), acc ++ [⟨#[97 + d.toNat]⟩], by rw [strs_snoc]; exact upd_same, by rw [List.length_append, hl]; rfl, fun z m => ?_, ?_, ?_⟩
      · rcases List.mem_append.mp m with m | m
        · exact hs z m
        · cases List.mem_singleton.mp m
          exact sign_abc d1
      · exact keep_new (k3.trans k4) nD
      · exact B4.keep keep_upd nDb nDL
    · rintro H3 ⟨acc, hD, hl, hs, k3, B3⟩
      obtain ⟨stem, hst⟩ : ∃ z, Txt.join Str.empty acc = z := ⟨_, rfl⟩
      obtain ⟨j1, j2⟩ := join_signs hs
      rw [hst] at j1 j2
      refine ⟨_, D, acc, rfl, rfl, .inl (SqL.of hD), ?_, ?_⟩
      · have e : acc.map (·.length) = acc.map fun _ => 1 := List.map_congr_left fun z m => (hs z m).len
        have e2 : (Str.ofString "").length = 0 := by decide +kernel
        rw [e, e2, List.map_const', List.sum_replicate_nat]
        omega
      have e3 : Txt.join (Str.ofString "") acc = stem := by
        rw [← hst]
        congr 1
      rw [e3]
      clear e3 hst hs hD nD
      fail "rd"
      have z64 : ∀ x : Int, 0 ≤ x → x ≤ 1000 → x.natAbs.log2 < 9000 := fun x h0 h1 => lg164 (Nat.lt_of_le_of_lt (show x.natAbs ≤ 1000 by omega) (by decide))
      refine ⟨L, B3, by omega, z64 _ (by omega) (by omega), fun wh H4 _ _ k4 B4 => ?_⟩
      fail "rd"
      refine ⟨L, B4, by decide, by decide, fun sh H5 sh0 sh1 k5 B5 => ?_⟩
      fail "rd"
      refine ⟨L, B5, by decide, by decide, fun lo H6 _ _ k6 B6 => ?_⟩
      fail "rd"
      intro p n_p
      generalize g_H7 : upd _ p _ = H7
      obtain ⟨s_H7, e_p⟩ := gen_new n_p g_H7
      clear g_H7
      have B7 := B6.same s_H7
      have pb := B6.ne n_p
      have pL := B6.neL n_p
      have k06 : Keep b H H6 := (((Keep.of s_H1).trans k2).trans k3).trans ((k4.trans k5).trans k6)
      have hp0 : H p = none := keep_free k06 n_p pb
      have kA : Keep b H H7 := k06.trans (.of s_H7)
      clear k06 k6 k5 k4 k3 k2 B6 B5 B4 B3 B2 B1 s_H7 n_p e_l n_l lb
      fail "rd"
      refine ⟨by omega, by omega, for_range (n := n) (fun i σ' H' => ∃ (N : List Str) (v1 v2 : Option V), σ' = [some (.ref b), some (.int n), some (.ref lw), some (.str (Str.ofString "abcdefghijklmnopqrstuvwxyz")), some (.int size), v1, some (.str stem), some (.int wh), some (.int sh), some (.int lo), some (.ref p), v2, none, none] ∧
          H' p = some (.lst (N.map V.str)) ∧ N.length = i ∧ (∀ z ∈ N, Lets z ∧ 0 < z.length ∧ z.length ≤ size + 2) ∧ Keep b H H' ∧ Bag H' L b) ⟨[], _, _, rfl, e_p, rfl, fun _ m => (nomatch m), kA, B7⟩ ?_ ?_⟩
      · rintro i σ' H' hi ⟨N, v1, v2, rfl, hp, hN, hz, kp, B⟩
        fail "rd"
        refine ⟨size_le (by omega), ?_⟩
        fail "rd"
        obtain ⟨ch, hch⟩ : ∃ c : Int, (sh + 7 * (0 + (i : Int))) % 26 = c := ⟨_, rfl⟩
        have ch0 : 0 ≤ ch := by rw [← hch]; exact Int.emod_nonneg _ (by decide)
        have ch1 : ch < 26 := by rw [← hch]; exact Int.emod_lt_of_pos _ (by decide)
        dsimp only
        rw [hch]
        refine rIxS_abc ch0 ch1 ?_
        have q1 := cutS_length stem none (some wh)
        have q2 := cutS_length stem (some wh) none
        have q3 := len_cuts (z := stem) (w := wh)
        have q4 : (⟨#[97 + ch.toNat]⟩ : Str).length = 1 := rfl
        refine ⟨_, _, rfl, rfl, size_le (by rw [q4]; omega), ?_⟩
        fail "rd"
        refine ⟨size_le (by omega), ?_⟩
        refine ⟨_, _, rfl, rfl, size_le (by rw [len_app, q4]; omega), ?_⟩
        fail "rd"
        refine rIxS_abc sh0 sh1 ?_
        fail "rd"
        refine ⟨by split <;> simp, fun w hw => ?_⟩
        obtain ⟨base, hbase⟩ : ∃ z, cutS stem none (some wh) ++ (⟨#[97 + ch.toNat]⟩ : Str) ++ cutS stem (some wh) none = z := ⟨_, rfl⟩
        have b1 : base.length = size + 1 := by rw [← hbase, len_app, len_app, q4]; omega
        have b2 : Lets base := by rw [← hbase]; exact lets_app (lets_app (lets_cut j1) (sign_abc ch1).lets) (lets_cut j1)
        have w1 : w.length ≤ 1 ∧ Lets w := by
          rcases hw with rfl | rfl
          · exact ⟨by decide, lets_nil⟩
          · exact ⟨Nat.le_refl _, (sign_abc sh1).lets⟩
        rw [hbase]
        refine ⟨_, _, rfl, rfl, size_le (by omega), ?_⟩
        fail "rd"
        have hle : N.length < 100 := by omega
        refine ⟨p, _, _, rfl, rfl, hp, by rw [List.length_map]; exact size_line (by omega), ?_⟩
        generalize g_H8 : upd _ p _ = H8
        obtain ⟨k_H8, e_H8⟩ := gen_put g_H8
        clear g_H8
        rw [strs_snoc] at e_H8
        refine ⟨N ++ [base ++ w], _, _, rfl, e_H8, by rw [List.length_append, hN]; rfl, fun z m => ?_, keep_put kp k_H8 hp0, B.keep k_H8 pb pL⟩
        rcases List.mem_append.mp m with m | m
        · exact hz z m
        · cases List.mem_singleton.mp m
          exact ⟨lets_app b2 w1.2, by rw [len_app]; omega, by rw [len_app]; omega⟩
      · rintro σ' H' ⟨N, v1, v2, rfl, hp, hN, hz, kp, B⟩
        refine ⟨fun σ' H' => ∃ (N : List Str) (v1 v2 : Option V), σ' = [some (.ref b), some (.int n), some (.ref lw), some (.str (Str.ofString "abcdefghijklmnopqrstuvwxyz")), some (.int size), v1, some (.str stem), some (.int wh), some (.int sh), some (.int lo), some (.ref p), v2, none, none] ∧
          H' p = some (.lst (N.map V.str)) ∧ N.length = n ∧ (∀ z ∈ N, NameOk z) ∧ Keep b H H' ∧ Bag H' L b, ?_, ?_⟩
        · have easy : ∃ (N : List Str) (u1 u2 : Option V), [some (.ref b), some (.int n), some (.ref lw), some (.str (Str.ofString "abcdefghijklmnopqrstuvwxyz")), some (.int size), v1, some (.str stem), some (.int wh), some (.int sh), some (.int lo), some (.ref p), v2, none, none] = [some (.ref b), some (.int n), some (.ref lw), some (.str (Str.ofString "abcdefghijklmnopqrstuvwxyz")), some (.int size), u1, some (.str stem), some (.int wh), some (.int sh), some (.int lo), some (.ref p), u2, none, none] ∧
              H' p = some (.lst (N.map V.str)) ∧ N.length = n ∧ (∀ z ∈ N, NameOk z) ∧ Keep b H H' ∧ Bag H' L b := ⟨N, v1, v2, rfl, hp, hN, fun z m => ⟨by have := (hz z m).2.2; omega, (hz z m).2.1, (hz z m).1⟩, kp, B⟩
          fail "rd"
          refine iteD (fun y1 => ?_) (fun _ => easy)
          fail "rd"
          refine iteD (fun y2 => ?_) (fun _ => easy)
          fail "rd"
          refine iteI (fun y3 => ?_) (fun _ => easy)
          fail "rd"
          obtain ⟨z0, hz0⟩ : ∃ z0, N[0]? = some z0 := ⟨N[0]'(by omega), List.getElem?_eq_getElem (by omega)⟩
          have hz0' := hz z0 (List.mem_of_getElem? hz0)
          refine ⟨_, _, _, _, rfl, rfl, SqL.of hp, ix_c (v := .str z0) (by show (N.map V.str)[0]? = _; rw [List.getElem?_map, hz0]; rfl), ?_⟩
          fail "rd"
          refine ⟨L, B, by decide, by decide, fun d H8 d0 d1 k8 B8 => ?_⟩
          fail "rd"
          refine rIxS_abc d0 d1 ?_
          have q4 : (⟨#[97 + d.toNat]⟩ : Str).length = 1 := rfl
          refine ⟨_, _, rfl, rfl, size_le (by rw [q4]; omega), ?_⟩
          have hp8 := k8 _ _ hp pb
          fail "rd"
          refine ⟨p, _, 1, 1, rfl, rfl, hp8, by unfold ixN; rw [if_pos (by decide), if_pos (by rw [List.length_map]; omega)]; rfl, ?_⟩
          generalize g_H9 : upd _ p _ = H9
          obtain ⟨k_H9, e_H9⟩ := gen_put g_H9
          clear g_H9
          rw [← List.map_set] at e_H9
          refine ⟨N.set 1 (z0 ++ ⟨#[97 + d.toNat]⟩), _, _, rfl, e_H9, by rw [List.length_set, hN], fun z m => ?_, keep_put (kp.trans k8) k_H9 hp0, B8.keep k_H9 pb pL⟩
          rcases List.mem_or_eq_of_mem_set m with m | rfl
          · exact ⟨by have := (hz z m).2.2; omega, (hz z m).2.1, (hz z m).1⟩
          · exact ⟨by rw [len_app, q4]; omega, by rw [len_app, q4]; omega, lets_app hz0'.1 (sign_abc d1).lets⟩
        · rintro σ' H' ⟨N, v1, v2, rfl, hp, hN, hz, kp, B⟩
          fail "rd"
          refine ⟨L, B, by omega, z64 _ (by omega) (by omega), fun spot H8 sp0 sp1 k8 B8 => ?_⟩
          have hw8 := k8 _ _ (kp _ _ hw nw) nw
          fail "rd"
          have hwl : (0 : Int) < (ws.length : Nat) := by have := List.length_pos_iff.mpr w0; omega
          have hwl2 : ((ws.map V.str).length : Int) = (ws.length : Nat) := by rw [List.length_map]
          refine ⟨L, B8, by rw [hwl2]; exact hwl, by rw [hwl2]; exact z64 _ (by omega) (by omega), fun d H9 d0 d1 k9 B9 => ?_⟩
          rw [hwl2] at d1
          have hw9 := k9 _ _ hw8 nw
          have hp9 := k9 _ _ (k8 _ _ hp pb) pb
          obtain ⟨m, rfl⟩ := Int.eq_ofNat_of_zero_le d0
          obtain ⟨wd, hwd⟩ : ∃ z, ws[m]? = some z := ⟨ws[m]'(by omega), List.getElem?_eq_getElem (by omega)⟩
          refine ⟨_, _, _, _, rfl, rfl, SqL.of hw9, atI_nat (v := .str wd) (by rw [List.getElem?_map, hwd]; rfl), ?_⟩
          have fin := k N p H9 hN hz hp0 ((kp.trans k8).trans k9) B9 hp9
          fail "rd"
          refine iteD (fun y1 => ?_) (fun _ => ?_)
          · fail "rd"
            refine ⟨List.all_eq_true.mpr fun x hx => by obtain ⟨z, _, rfl⟩ := List.mem_map.mp hx; rfl, ?_⟩
            rw [if_pos rfl]
            cases inV (.str wd) (N.map V.str) with
            | true =>
              fail "rd"
              exact fin
            | false =>
              fail "rd"
              obtain ⟨j, rfl⟩ := Int.eq_ofNat_of_zero_le sp0
              have hj : j < N.length := by omega
              refine ⟨p, _, j, j, rfl, rfl, hp9, by unfold ixN; rw [if_pos (by omega), if_pos (by rw [List.length_map]; omega)]; rfl, ?_⟩
              generalize g_H10 : upd _ p _ = H10
              obtain ⟨k_H10, e_H10⟩ := gen_put g_H10
              clear g_H10
              rw [← List.map_set] at e_H10
              fail "rd"
              refine k (N.set j wd) p H10 (by rw [List.length_set, hN]) (fun z m => ?_) hp0 (keep_put ((kp.trans k8).trans k9) k_H10 hp0) (B9.keep k_H10 pb pL) e_H10
              rcases List.mem_or_eq_of_mem_set m with m | rfl
              · exact hz z m
              · exact okw _ (List.mem_of_getElem? hwd)
          · fail "rd"
            exact fin

abbrev s_l_next : Stmt := top 19
theorem sc_l_next : FnScope ["_law_bag_here", "_law_entries_here", "_law_step"] ["_law_bag_here", "_law_entries_here"] (defScope s_l_next) := ⟨rfl, rfl, rfl, by decide +kernel, rfl, by decide +kernel, by decide +kernel⟩
def sp_l_next (_ : PySem.W.Frag) (_ : Nat → Addr) : Sp := fun vs H Q _ => ∃ (b l : Addr) (xs : List V) (rs : Bk), vs = [.ref b, .ref l] ∧ ∃ L : Addr, Bag H L b ∧ H l = some (.lst xs) ∧ l ≠ b ∧ Rows H xs rs ∧ Asc rs ∧ (∀ r ∈ rs, EntOk r.2) ∧ Near rs.length rs ∧ rs.length < 1000 ∧
  ∀ (t : Addr) (q : Int × Int) (H' : Hp), Keep b H H' → Bag H' L b → H t = none → PlR H' t q → (∀ r ∈ rs, ltP r.1 q) → (0 ≤ q.1 ∧ q.1 ≤ 10 * (rs.length + 1 : Nat) ∧ 0 ≤ q.2 ∧ q.2 ≤ 10 * (rs.length + 1 : Nat)) → Q (.ref t) H'
theorem ok_l_next {f : Addr} {fd : FuncData} (F : Fun K "_law_next" "_law_next" s_l_next f fd) (T : Txt K mg ca) (O__law_draw : Own P w K mg base 1 "_law_draw" ["_law_bag_here", "_law_size"] (sp_l_draw K ca)) : FnOk P w K mg base (L2N.CX P w) 2 f fd ["_law_bag_here", "_law_entries_here"] (sp_l_next K ca) := by
  refine okN F sc_l_next (fun vs H Q E h => ?_) (fun cdv A outer s H vs Q E hr h => ?_)
  · obtain ⟨_, _, _, _, rfl, _⟩ := h
    rfl
  · obtain ⟨b, l, xs, rs, rfl, L, hB, hl, hne, hR, ha, hw, hN, hlen, k⟩ := h
    refine ⟨_, pss_cons (ps_if (pt_cmpR (op_eqD (Room.units (hr.mono (Nat.zero_le _)))) (pv 1) (pe_lst pa_nil) (nomark _)) (pss_one (ps_ret (pe_tup (pa_cons (pe_own O__law_draw (hr.mono (by decide)) rfl pas0 (pa_cons (pv 0) (pa_cons pe_int pa_nil))) (pa_cons (pe_own O__law_draw (hr.mono (by decide)) rfl pas0 (pa_cons (pv 0) (pa_cons pe_int pa_nil))) pa_nil))))) pss_nil) (pss_cons (ps_set (i := 2) sc_l_next.nd rfl (Or.inl rfl) (pe_ix ix_list (pe_lst (pa_cons pe_int (pa_cons pe_int (pa_cons pe_int (pa_cons pe_int (pa_cons pe_int (pa_cons pe_int (pa_cons pe_int pa_nil)))))))) (pe_own O__law_draw (hr.mono (by decide)) rfl pas0 (pa_cons (pv 0) (pa_cons pe_int pa_nil))) (fun _ _ => rfl))) (pss_cons (ps_if (pt_cmpR op_eq (pv 2) pe_int (nomark _)) (pss_one (ps_ret (pe_tup (pa_cons (pe_ix ix_tup (pe_ix ix_list (pv 1) (pe_un un_neg pe_int) (fun _ _ => rfl)) pe_int (fun _ _ => rfl)) (pa_cons (pe_op op_add (pe_op op_add (pe_ix ix_tup (pe_ix ix_list (pv 1) (pe_un un_neg pe_int) (fun _ _ => rfl)) pe_int (fun _ _ => rfl)) pe_int) (pe_own O__law_draw (hr.mono (by decide)) rfl pas0 (pa_cons (pv 0) (pa_cons pe_int pa_nil)))) pa_nil))))) pss_nil) (pss_one (ps_ret (pe_tup (pa_cons (pe_op op_add (pe_ix ix_tup (pe_ix ix_list (pv 1) (pe_un un_neg pe_int) (fun _ _ => rfl)) pe_int (fun _ _ => rfl)) (pv 2)) (pa_cons (pe_own O__law_draw (hr.mono (by decide)) rfl pas0 (pa_cons (pv 0) (pa_cons pe_int pa_nil))) pa_nil))))))), ?_⟩
    fail "rd"
    intro e n_e
    generalize g_H1 : upd _ e _ = H1
    obtain ⟨s_H1, e_e⟩ := gen_new n_e g_H1
    clear g_H1
    refine eqNil (s_H1 _ _ hl) e_e (rowsDa (hR.same s_H1) hw) (by decide) ?_
    have B1 := hB.same s_H1
    have hl1 := s_H1 _ _ hl
    cases hx : xs with
    | nil =>
      have h0 : rs = [] := by
        rw [hx] at hR
        cases hR
        rfl
      subst h0
      fail "rd"
      refine ⟨L, B1, by decide, by decide, fun a H2 a0 a1 k2 B2 => ?_⟩
      fail "rd"
      refine ⟨L, B2, by decide, by decide, fun c H3 c0 c1 k3 B3 => ?_⟩
      fail "rd"
      intro t n_t
      generalize g_H4 : upd _ t _ = H4
      obtain ⟨s_H4, e_t⟩ := gen_new n_t g_H4
      clear g_H4
      have kA := ((Keep.of s_H1).trans k2).trans k3
      exact k t (a, c) H4 (kA.trans (.of s_H4)) (B3.same s_H4) (keep_free kA n_t (B3.ne n_t)) e_t (fun r m => by cases m) ⟨a0, by simp; omega, c0, by simp; omega⟩
    | cons x0 xr =>
      obtain ⟨ys, y, gs, r, ex, rfl, hR', hr⟩ := paired_last hR (by rw [hx]; simp)
      rw [← hx]
      rw [ex] at hl1 ⊢
      obtain ⟨a1, a2⟩ := asc_last ha
      have hll : (gs ++ [r]).length = gs.length + 1 := by simp
      rw [hll] at k hN
      obtain ⟨r1, r2, r3, r4⟩ := hN r (List.mem_append_right _ List.mem_cons_self)
      have hr1 := hr.same s_H1
      refine ⟨false, by simp, ?_⟩
      fail "rd"
      intro sl n_sl
      generalize g_H2 : upd _ sl _ = H2
      obtain ⟨s_H2, e_sl⟩ := gen_new n_sl g_H2
      clear g_H2
      have B2 := B1.same s_H2
      fail "rd"
      refine ⟨L, B2, by decide, by decide, fun d H3 d0 d1 k3 B3 => ?_⟩
      have e_sl := k3 _ _ e_sl (B1.ne n_sl)
      have k13 := (Keep.of s_H2).trans k3
      have hl3 := k13 _ _ hl1 hne
      obtain ⟨xb, hxb⟩ := B1.lst
      obtain ⟨t, e2, ey, ht, _⟩ := hr1.keep hxb (fun _ z => nomatch z) k13
      subst ey
      obtain ⟨st, hst, st0, st9⟩ : ∃ m : Int, atI [V.int 0, .int 0, .int 0, .int 1, .int 1, .int 2, .int 9] d = some (.int m) ∧ 0 ≤ m ∧ m ≤ 9 := by
        have hc : d = 0 ∨ d = 1 ∨ d = 2 ∨ d = 3 ∨ d = 4 ∨ d = 5 ∨ d = 6 := by omega
        rcases hc with rfl | rfl | rfl | rfl | rfl | rfl | rfl <;> exact ⟨_, ix_c rfl, by decide, by decide⟩
      refine ⟨_, _, _, _, rfl, rfl, SqL.of e_sl, hst, ?_⟩
      fail "rd"
      have lt_all : ∀ q : Int × Int, ltP r.1 q → ∀ x ∈ gs ++ [r], ltP x.1 q := fun q h x m => by
        rcases List.mem_append.mp m with m | m
        · exact (a2 x m).trans h
        · rw [List.mem_singleton.mp m]
          exact h
      refine iteI (fun z => ?_) (fun z => ?_)
      · fail "rd"
        refine ⟨_, _, _, _, rfl, rfl, SqL.of hl3, atI_last _ _, ?_⟩
        fail "rd"
        refine ⟨_, _, _, _, rfl, rfl, SqL.of hl3, atI_last _ _, ?_⟩
        fail "rd"
        refine ⟨L, B3, by decide, by decide, fun a H4 a0 a1 k4 B4 => ?_⟩
        fail "rd"
        intro u n_u
        generalize g_H5 : upd _ u _ = H5
        obtain ⟨s_H5, e_u⟩ := gen_new n_u g_H5
        clear g_H5
        have kA := ((Keep.of s_H1).trans k13).trans k4
        exact k u (r.1.1, r.1.2 + 1 + a) H5 (kA.trans (.of s_H5)) (B4.same s_H5) (keep_free kA n_u (B4.ne n_u)) e_u (lt_all _ (.inr ⟨rfl, by show r.1.2 < r.1.2 + 1 + a; omega⟩)) ⟨r1, by simp only []; omega, by simp only []; omega, by simp only []; omega⟩
      · fail "rd"
        refine ⟨_, _, _, _, rfl, rfl, SqL.of hl3, atI_last _ _, ?_⟩
        fail "rd"
        refine ⟨L, B3, by decide, by decide, fun a H4 a0 a1 k4 B4 => ?_⟩
        fail "rd"
        intro u n_u
        generalize g_H5 : upd _ u _ = H5
        obtain ⟨s_H5, e_u⟩ := gen_new n_u g_H5
        clear g_H5
        have kA := ((Keep.of s_H1).trans k13).trans k4
        exact k u (r.1.1 + st, a) H5 (kA.trans (.of s_H5)) (B4.same s_H5) (keep_free kA n_u (B4.ne n_u)) e_u (lt_all _ (.inl (by show r.1.1 < r.1.1 + st; omega))) ⟨by simp only []; omega, by simp only []; omega, a0, by simp only []; omega⟩

abbrev s_l_pick : Stmt := top 17
theorem sc_l_pick : FnScope ["_law_bag_here", "_law_items"] ["_law_bag_here", "_law_items"] (defScope s_l_pick) := ⟨rfl, rfl, rfl, by decide +kernel, rfl, by decide +kernel, by decide +kernel⟩
def sp_l_pick (_ : PySem.W.Frag) (_ : Nat → Addr) : Sp := fun vs H Q _ => ∃ (b a : Addr) (xs : List V), vs = [.ref b, .ref a] ∧ ∃ L : Addr, Bag H L b ∧ H a = some (.lst xs) ∧ a ≠ b ∧ xs ≠ [] ∧ xs.length < 1000 ∧
  ∀ (i : Nat) (x : V) (H' : Hp), xs[i]? = some x → Keep b H H' → Bag H' L b → Q x H'
theorem ok_l_pick {f : Addr} {fd : FuncData} (F : Fun K "_law_pick" "_law_pick" s_l_pick f fd) (T : Txt K mg ca) (O__law_draw : Own P w K mg base 1 "_law_draw" ["_law_bag_here", "_law_size"] (sp_l_draw K ca)) : FnOk P w K mg base (L2N.CX P w) 2 f fd ["_law_bag_here", "_law_items"] (sp_l_pick K ca) := by
  refine okN F sc_l_pick (fun vs H Q E h => ?_) (fun cdv A outer s H vs Q E hr h => ?_)
  · obtain ⟨_, _, _, rfl, _⟩ := h
    rfl
  · obtain ⟨b, a, xs, rfl, L, hB, ha, hne, h0, h1, k⟩ := h
    refine ⟨_, pss_one (ps_ret (pe_ix ix_list (pv 1) (pe_own O__law_draw (hr.mono (by decide)) rfl pas0 (pa_cons (pv 0) (pa_cons (pe_callB call_len_seq (by rfl) T.b_len (by decide +kernel) (pa_cons (pv 1) pa_nil)) pa_nil))) (fun _ _ => rfl))), ?_⟩
    have hu : (0 : Int) < (xs.length : Nat) := by have := List.length_pos_iff.mpr h0; omega
    have h64 : (xs.length : Int).natAbs < 2 ^ 164 := Nat.lt_of_le_of_lt (show (xs.length : Int).natAbs ≤ 1000 by omega) (by decide)
    fail "rd"
    refine ⟨L, hB, hu, lg164 h64, fun d H1 d0 d1 k1 B1 => ?_⟩
    have ha := k1 _ _ ha hne
    obtain ⟨D, rfl⟩ := Int.eq_ofNat_of_zero_le d0
    have hD : D < xs.length := by omega
    refine ⟨a, xs, _, xs[D], rfl, rfl, SqL.of ha, atI_nat (by simp [hD]), ?_⟩
    exact k D _ H1 (by simp [hD]) k1 B1

abbrev s_l_entries : Stmt := top 20
theorem sc_l_entries : FnScope ["_law_bag_here", "_law_most", "_law_steps", "_law_size", "_law_names_here", "_law_sales", "_law_entries_here", "_law_bought", "_law_left", "_law_stock", "_law_costs", "_law_k", "_law_choice", "_law_sale", "_law_out", "_law_entry", "_law_units", "_law_day", "_law_number"] ["_law_bag_here", "_law_most"] (defScope s_l_entries) := ⟨rfl, rfl, rfl, by decide +kernel, rfl, by decide +kernel, by decide +kernel⟩
def sp_l_entries (_ : PySem.W.Frag) (_ : Nat → Addr) : Sp := fun vs H Q _ => ∃ (b : Addr) (n : Int), vs = [.ref b, .int n] ∧ ∃ L : Addr, Bag H L b ∧ 1 ≤ n ∧ n ≤ 50 ∧
  ∀ (l : Addr) (xs : List V) (rs : Bk) (H' : Hp), Keep b H H' → Bag H' L b → H l = none → H' l = some (.lst xs) → Rows H' xs rs → Asc rs → BkW rs → rs ≠ [] → (rs.length : Int) ≤ n → Near rs.length rs → Q (.ref l) H'
theorem ok_l_entries {f : Addr} {fd : FuncData} (F : Fun K "_law_entries" "_law_entries" s_l_entries f fd) (T : Txt K mg ca) (O__law_names : Own P w K mg base 2 "_law_names" ["_law_bag_here", "_law_count", "_law_words"] (sp_l_names K ca)) (O__law_draw : Own P w K mg base 1 "_law_draw" ["_law_bag_here", "_law_size"] (sp_l_draw K ca)) (O__law_next : Own P w K mg base 2 "_law_next" ["_law_bag_here", "_law_entries_here"] (sp_l_next K ca)) (O__law_pick : Own P w K mg base 2 "_law_pick" ["_law_bag_here", "_law_items"] (sp_l_pick K ca)) : FnOk P w K mg base (L2N.CX P w) 3 f fd ["_law_bag_here", "_law_most"] (sp_l_entries K ca) := by
  refine okN F sc_l_entries (fun vs H Q E h => ?_) (fun cdv A outer s H vs Q E hr h => ?_)
  · obtain ⟨_, _, rfl, _⟩ := h
    rfl
  · obtain ⟨b, n, rfl, L, hB, n1, n50, k⟩ := h
    refine ⟨_, pss_cons (ps_set (i := 2) sc_l_entries.nd rfl (Or.inl rfl) (pe_op op_add pe_int (pe_own O__law_draw (hr.mono (by decide)) rfl pas0 (pa_cons (pv 0) (pa_cons (pv 1) pa_nil))))) (pss_cons (ps_set (i := 3) sc_l_entries.nd rfl (Or.inl rfl) (pe_ix ix_list (pe_lst (pa_cons pe_int (pa_cons pe_int pa_nil))) (pe_op op_fdivW (pe_own O__law_draw (hr.mono (by decide)) rfl pas0 (pa_cons (pv 0) (pa_cons pe_int pa_nil))) pe_int) (fun _ _ => rfl))) (pss_cons (ps_set (i := 4) sc_l_entries.nd rfl (Or.inl rfl) (pe_own O__law_names (hr.mono (by decide)) rfl pas0 (pa_cons (pv 0) (pa_cons pe_int (pa_cons (pe_lst (pa_cons pe_str (pa_cons pe_str (pa_cons pe_str (pa_cons pe_str pa_nil))))) pa_nil))))) (pss_cons (ps_set (i := 5) sc_l_entries.nd rfl (Or.inl rfl) (pe_revL (pv 4))) (pss_cons (ps_set (i := 6) sc_l_entries.nd rfl (Or.inl rfl) (pe_lst pa_nil)) (pss_cons (ps_set (i := 7) sc_l_entries.nd rfl (Or.inl rfl) (pe_lst pa_nil)) (pss_cons (ps_set (i := 8) sc_l_entries.nd rfl (Or.inr rfl) pe_dnewK) (pss_cons (ps_set (i := 9) sc_l_entries.nd rfl (Or.inl rfl) pe_int) (pss_cons (ps_set (i := 10) sc_l_entries.nd rfl (Or.inl rfl) pe_int) (pss_cons (ps_for (passes_of rfl) rfl (pi_range1 rfl T.b_range (pa_cons (pv 2) pa_nil)) (pg_name (i := 11) sc_l_entries.nd rfl (Or.inl rfl)) (pss_cons (ps_set (i := 12) sc_l_entries.nd rfl (Or.inl rfl) (pe_own O__law_draw (hr.mono (by decide)) rfl pas0 (pa_cons (pv 0) (pa_cons pe_int pa_nil)))) (pss_cons (ps_lk (ps_setLc (i := 14) (own := [("_law_sale", 13)]) (g := gName 13) rfl sc_l_entries.nd rfl rfl (sw_true rfl rfl rfl (by decide +kernel)) (pi_keys (pv 8)) (blkOk_by (N := ["_law_bag_here", "_law_most", "_law_steps", "_law_size", "_law_names_here", "_law_sales", "_law_entries_here", "_law_bought", "_law_left", "_law_stock", "_law_costs", "_law_k", "_law_choice", "_law_sale", "_law_out", "_law_entry", "_law_units", "_law_day", "_law_number"]) (sc := defScope s_l_entries) (by decide +kernel)) (fun _ _ _ _ _ => pg_name (i := 13) sc_l_entries.nd rfl (Or.inl rfl)) (fun _ _ _ _ _ => pts_one (pt_cmpR op_gt (pe_dget (hu_of (hr.mono (Nat.zero_le _))) (pv 8) (pv 13) (fun _ _ => rfl)) pe_int (nomark _))) (fun _ _ _ _ _ => pv 13))) (pss_cons (ps_set (i := 15) sc_l_entries.nd rfl (Or.inl rfl) pe_non) (Evl.pss_cut (ps_if (pt_mid (PW.pt (pw_and (pt_cmpR op_lt (pe_callB call_len_seq (by rfl) T.b_len (by decide +kernel) (pa_cons (pv 7) pa_nil)) pe_int (nomark _)) (pw_and1 (PW.pt (pw_or (pt_cmpR op_eq (pv 9) pe_int (nomark _)) (pw_or1 (pt_cmpR op_lt (pv 12) pe_int (nomark _))))))))) (pss_cons (ps_set (i := 16) sc_l_entries.nd rfl (Or.inl rfl) (pe_op op_add pe_int (pe_own O__law_draw (hr.mono (by decide)) rfl pas0 (pa_cons (pv 0) (pa_cons (pv 3) pa_nil))))) (pss_cons (ps_set (i := 15) sc_l_entries.nd rfl (Or.inl rfl) (pe_tup (pa_cons pe_str (pa_cons (pe_ix ix_list (pv 4) (pe_callB call_len_seq (by rfl) T.b_len (by decide +kernel) (pa_cons (pv 7) pa_nil)) (fun _ _ => rfl)) (pa_cons (pv 16) pa_nil))))) (pss_cons (ps_expr (pe_bm PySem.F.plainAttrs_list PySem.F.slot_list_append PySem.F.type_list_append mt_append (pv 7) (pa_cons (pe_ix ix_list (pv 4) (pe_callB call_len_seq (by rfl) T.b_len (by decide +kernel) (pa_cons (pv 7) pa_nil)) (fun _ _ => rfl)) pa_nil))) (pss_one (ps_set (i := 9) sc_l_entries.nd rfl (Or.inl rfl) (pe_op op_add (pv 9) (pv 16))))))) (pss_one (ps_if (pt_mid (PW.pt (pw_and (pt_cmpR op_gt (pv 9) pe_int (nomark _)) (pw_and (pt_cmpR op_lt (pv 12) pe_int (nomark _)) (pw_and1 (pt_cmpR op_lt (pe_callB call_lenD (by rfl) T.b_len (by decide +kernel) (pa_cons (pv 8) pa_nil)) pe_int (nomark _))))))) (pss_cons (ps_set (i := 16) sc_l_entries.nd rfl (Or.inl rfl) (pe_op op_add pe_int (pe_own O__law_draw (hr.mono (by decide)) rfl pas0 (pa_cons (pv 0) (pa_cons (pv 9) pa_nil))))) (Evl.pss_cut (ps_if (PW.pt (pw_and (pt_cmpR op_eq (pv 12) pe_int (nomark _)) (pw_and1 (pt_cmpR op_le (pv 9) pe_int (nomark _))))) (pss_one (ps_set (i := 16) sc_l_entries.nd rfl (Or.inl rfl) (pv 9))) pss_nil) (pss_cons (ps_set (i := 16) sc_l_entries.nd rfl (Or.inl rfl) (pe_callB (call_min2 rfl) (by rfl) T.b_min (by decide +kernel) (pa_cons (pv 16) (pa_cons pe_int pa_nil)))) (pss_cons (ps_set (i := 15) sc_l_entries.nd rfl (Or.inl rfl) (pe_tup (pa_cons pe_str (pa_cons (pe_ix ix_list (pv 5) (pe_callB call_lenD (by rfl) T.b_len (by decide +kernel) (pa_cons (pv 8) pa_nil)) (fun _ _ => rfl)) (pa_cons (pv 16) pa_nil))))) (pss_cons (ps_dput (hu_of (hr.mono (Nat.zero_le _))) (pv 8) (pe_ix ix_list (pv 5) (pe_callB call_lenD (by rfl) T.b_len (by decide +kernel) (pa_cons (pv 8) pa_nil)) (fun _ _ => rfl)) (pv 16) rfl) (pss_one (ps_set (i := 9) sc_l_entries.nd rfl (Or.inl rfl) (pe_op op_sub (pv 9) (pv 16))))))))) (pss_one (ps_if (pt_mid (PW.pt (pw_and (pt_cmpR (op_neD (Room.units (hr.mono (Nat.zero_le _)))) (pv 14) (pe_lst pa_nil) (nomark _)) (pw_and1 (pt_cmpR op_lt (pv 12) pe_int (nomark _)))))) (pss_cons (ps_set (i := 13) sc_l_entries.nd rfl (Or.inl rfl) (pe_own O__law_pick (hr.mono (by decide)) rfl pas0 (pa_cons (pv 0) (pa_cons (pv 14) pa_nil)))) (pss_cons (ps_set (i := 16) sc_l_entries.nd rfl (Or.inl rfl) (pe_op op_add pe_int (pe_own O__law_draw (hr.mono (by decide)) rfl pas0 (pa_cons (pv 0) (pa_cons (pe_dget (hu_of (hr.mono (Nat.zero_le _))) (pv 8) (pv 13) (fun _ _ => rfl)) pa_nil))))) (pss_cons (ps_set (i := 15) sc_l_entries.nd rfl (Or.inl rfl) (pe_tup (pa_cons pe_str (pa_cons (pv 13) (pa_cons (pv 16) pa_nil))))) (pss_cons (ps_dput (hu_of (hr.mono (Nat.zero_le _))) (pv 8) (pv 13) (pe_op op_sub (pe_dget (hu_of (hr.mono (Nat.zero_le _))) (pv 8) (pv 13) (fun _ _ => rfl)) (pv 16)) rfl) (pss_one (ps_set (i := 9) sc_l_entries.nd rfl (Or.inl rfl) (pe_op op_add (pv 9) (pv 16)))))))) (pss_one (ps_if (pt_mid (PW.pt (pw_and (pt_cmpR (op_neD (Room.units (hr.mono (Nat.zero_le _)))) (pv 7) (pe_lst pa_nil) (nomark _)) (pw_and1 (pt_cmpR op_lt (pv 10) pe_int (nomark _)))))) (pss_cons (ps_set (i := 15) sc_l_entries.nd rfl (Or.inl rfl) (pe_tup (pa_cons pe_str (pa_cons (pe_ix ix_list (pv 4) (pe_op op_add pe_int (pv 10)) (fun _ _ => rfl)) (pa_cons (pe_own O__law_pick (hr.mono (by decide)) rfl pas0 (pa_cons (pv 0) (pa_cons (pv 7) pa_nil))) pa_nil))))) (pss_one (ps_set (i := 10) sc_l_entries.nd rfl (Or.inl rfl) (pe_op op_add (pv 10) pe_int)))) pss_nil))))))) (pss_one (ps_if (pt_cmpR op_notN (pv 15) pe_non (nomark _)) (pss_cons (ps_asg (pe_own O__law_next (hr.mono (by decide)) rfl pas0 (pa_cons (pv 0) (pa_cons (pv 6) pa_nil))) (pg_tup rfl (pgs_cons (pg_name (i := 17) sc_l_entries.nd rfl (Or.inl rfl)) (pgs_cons (pg_name (i := 18) sc_l_entries.nd rfl (Or.inl rfl)) pgs_nil)))) (pss_one (ps_expr (pe_bm PySem.F.plainAttrs_list PySem.F.slot_list_append PySem.F.type_list_append mt_append (pv 6) (pa_cons (pe_tup (pa_cons (pv 17) (pa_cons (pv 18) (pa_cons (pv 15) pa_nil)))) pa_nil))))) pss_nil))))))) (pss_one (ps_ret (pv 6)))))))))))), ?_⟩
    fail "rd"
    refine ⟨L, hB, by omega, Sz.lg (n := 100) (Nat.lt_of_le_of_lt (show n.natAbs ≤ 50 by omega) (by decide)), fun st H1 st0 st1 k1 B1 => ?_⟩
    fail "rd"
    intro l1 n_l1
    generalize g_H2 : upd _ l1 _ = H2
    obtain ⟨s_H2, e_l1⟩ := gen_new n_l1 g_H2
    clear g_H2
    have B2 := B1.same s_H2
    fail "rd"
    refine ⟨L, B2, by decide, by decide, fun d H3 d0 d1 k3 B3 => ?_⟩
    have e_l1 := k3 _ _ e_l1 (B1.ne n_l1)
    obtain ⟨sz, hsz, z0, z1⟩ : ∃ m : Int, atI [V.int 6, .int 1000000] (d / 7) = some (.int m) ∧ 0 < m ∧ m ≤ 1000000 := by
      have hc : d / 7 = 0 ∨ d / 7 = 1 := by omega
      rcases hc with z | z
      · exact ⟨6, by rw [z]; exact ix_c rfl, by decide, by decide⟩
      · exact ⟨1000000, by rw [z]; exact ix_c rfl, by decide, by decide⟩
    fail "rd"
    refine ⟨_, _, _, _, rfl, rfl, SqL.of e_l1, hsz, ?_⟩
    fail "rd"
    intro lw n_lw
    generalize g_H4 : upd _ lw _ = H4
    obtain ⟨s_H4, e_lw⟩ := gen_new n_lw g_H4
    clear g_H4
    have B4 := B3.same s_H4
    fail "rd"
    refine ⟨b, lw, 9, ["buy", "sell", "back", "late"], rfl, L, B4, e_lw, B3.ne n_lw, namesB_ok (by decide +kernel), by simp, by decide, by omega, by omega, fun zs nm H5 hlen hz n5 k5 B5 e5 => ?_⟩
    have nmb := B4.ne n5
    have k05 := ((k1.trans (.of s_H2)).trans k3).trans ((Keep.of s_H4).trans k5)
    clear e_lw e_l1 k1 k3 k5
    fail "rd"
    refine ⟨nm, _, rfl, SqL.of e5, ?_⟩
    intro sn n_sn
    generalize g_H6 : upd _ sn _ = H6
    obtain ⟨s_H6, e_sn⟩ := gen_new n_sn g_H6
    clear g_H6
    rw [← List.map_reverse] at e_sn
    fail "rd"
    intro en n_en
    generalize g_H7 : upd _ en _ = H7
    obtain ⟨s_H7, e_en⟩ := gen_new n_en g_H7
    clear g_H7
    fail "rd"
    intro bt n_bt
    generalize g_H8 : upd _ bt _ = H8
    obtain ⟨s_H8, e_bt⟩ := gen_new n_bt g_H8
    clear g_H8
    fail "rd"
    intro lf n_lf
    generalize g_H9 : upd _ lf _ = H9
    obtain ⟨s_H9, e_lf⟩ := gen_new n_lf g_H9
    clear g_H9
    have s57 := s_H6.trans s_H7
    have s59 := (s57.trans s_H8).trans s_H9
    have D : Dis L b nm sn en bt lf := ⟨nmb, B5.ne n_sn, (B5.same s_H6).ne n_en, (B5.same s57).ne n_bt, (B5.same (s57.trans s_H8)).ne n_lf, (B5.same s_H6).neL n_en, (B5.same s57).neL n_bt, (B5.same (s57.trans s_H8)).neL n_lf,
      ne_of_none e_en n_bt, ne_of_none (s_H6 _ _ e5) n_en, ne_of_none (s57 _ _ e5) n_bt, ne_of_none e_sn n_en, ne_of_none (s_H7 _ _ e_sn) n_bt, ne_of_none (s_H8 _ _ e_en) n_lf, ne_of_none e_bt n_lf, ne_of_none ((s57.trans s_H8) _ _ e5) n_lf, ne_of_none (s_H8 _ _ (s_H7 _ _ e_sn)) n_lf⟩
    have S9 : SE H9 L b nm sn en bt lf zs [] [] 0 [] 0 0 0 := ⟨B5.same s59, s59 _ _ e5, s_H9 _ _ (s_H8 _ _ (s_H7 _ _ e_sn)), s_H9 _ _ (s_H8 _ _ e_en), .nil, List.Pairwise.nil, (fun r m => by cases m), (fun r m => by cases m), Nat.le_refl _, s_H9 _ _ e_bt, by decide, e_lf, .nil, (fun z v e => by rw [valV_nil] at e; cases e), by decide, by decide, by decide⟩
    have k09 : Keep b H H9 := k05.trans (.of s59)
    have nen : H en = none := keep_free k05 (s_H6.free n_en) D.eb
    have nbt : H bt = none := keep_free (k05.trans (.of s57)) n_bt D.tb
    have nlf : H lf = none := keep_free (k05.trans (.of (s57.trans s_H8))) n_lf D.fb
    clear k05 s57 s59 s_H6 s_H7 s_H8 s_H9 e_sn e_en e_bt e_lf
    obtain ⟨ST, rfl⟩ := Int.eq_ofNat_of_zero_le st0
    have hz2 : (1 + (ST : Int)) < 2 ^ 62 := by
      have e : (2 : Int) ^ 62 = 4611686018427387904 := by decide
      omega
    fail "rd"
    refine ⟨by omega, hz2, for_range (n := 1 + ST) (fun i σ' H' => ∃ (xs : List V) (rs : Bk) (nb : Nat) (kvs : List (Key × V)) (stock costs : Int) (v11 v12 v13 v14 v15 v16 v17 v18 : Option V), σ' = [some (.ref b), some (.int n), some (.int (1 + (ST : Int))), some (.int sz), some (.ref nm), some (.ref sn), some (.ref en), some (.ref bt), some (.ref lf), some (.int stock), some (.int costs), v11, v12, v13, v14, v15, v16, v17, v18] ∧ Keep b H H' ∧ SE H' L b nm sn en bt lf zs xs rs nb kvs stock costs i ∧ (i = 0 → nb = 0 ∧ stock = 0) ∧ (0 < i → rs ≠ []))
      ⟨[], [], 0, [], 0, 0, none, none, none, none, none, none, none, none, rfl, k09, S9, fun _ => ⟨rfl, rfl⟩, fun z => absurd z (Nat.lt_irrefl 0)⟩ ?_ ?_⟩
    · rintro i σ' H' hi ⟨xs, rs, nb, kvs, stock, costs, v11, v12, v13, v14, v15, v16, v17, v18, rfl, kp, S, h0, h1⟩
      fail "rd"
      refine ⟨L, S.B, by decide, by decide, fun ch H10 ch0 ch1 k10 B10 => ?_⟩
      have S10 := S.bag D k10 B10
      have kp10 := kp.trans k10
      clear S k10 kp
      fail "rd"
      refine ⟨.inl ⟨lf, _, S10.hf, True.intro, fun od => ?_⟩⟩
      refine ⟨_, rfl, lf, od, rfl, .inl ⟨kvs, upd_same, fun O nO => lc_names S10.hk (fun j H' => Same (upd H10 lf (.frz od (.dK kvs))) H' ∧ ∃ ws : List Str, H' O = some (.lst (ws.map V.str)) ∧ ws.length ≤ j ∧ ∀ w ∈ ws, w ∈ zs ∧ ∃ u : Int, valV kvs (.inr w) = some (.int u) ∧ 0 < u ∧ u ≤ 1000000)
        ⟨same_upd nO, [], upd_same, Nat.le_refl _, fun w m => by cases m⟩ (fun j H' _ s => s.1 _ _ upd_same) ?_ ?_⟩⟩
      · rintro j z v H' hj hzj hv ⟨s, ws, e, lw', hws⟩
        obtain ⟨u, rfl, u0, u1⟩ := S10.hv z v hv
        have hfz : H' lf = some (.frz od (.dK kvs)) := s _ _ upd_same
        have g : DGet H' lf (.str z) (some (.int u)) := by rw [← hv]; exact dget_at (.inr ⟨od, hfz⟩)
        fail "rd"
        refine ⟨lf, _, rfl, g, ?_⟩
        fail "rd"
        have lj : j < kvs.length := (List.getElem?_eq_some_iff.mp hj).1
        have hkl := S10.hk.len
        rw [hlen] at hkl
        refine iteD (fun c => ?_) (fun c => ?_)
        · fail "rd"
          refine ⟨_, e, Nat.lt_of_lt_of_le (show (ws.map V.str).length < 2000 by rw [List.length_map]; omega) (line_le (by decide)), ?_⟩
          refine ⟨fun b' o q => ?_, ws ++ [z], ?_, by rw [List.length_append]; exact Nat.succ_le_succ lw', fun w m => ?_⟩
          · rw [upd_ne (ne_of_none q nO)]
            exact s _ _ q
          · rw [upd_same, strs_snoc]
          · rcases List.mem_append.mp m with m | m
            · exact hws w m
            · rw [List.mem_singleton.mp m]
              exact ⟨hzj, u, hv, c, u1⟩
        · exact ⟨s, ws, e, by omega, hws⟩
      · rintro H' ⟨s, ws, e, lw', hws⟩
        refine ⟨s _ _ upd_same, ?_⟩
        have nlO : O ≠ lf := fun q => by rw [q, upd_same] at nO; cases nO
        have s2 := same_lock S10.hf s
        have eO : upd H' lf (.dK kvs) O = some (.lst (ws.map V.str)) := by rw [upd_ne nlO]; exact e
        have nO10 : H10 O = none := by rw [upd_ne nlO] at nO; exact nO
        generalize upd H' lf (.dK kvs) = H11 at s2 eO
        have S11 := S10.same s2
        have kp11 := kp10.trans (.of s2)
        have nOb : O ≠ b := S10.B.ne nO10
        clear s s2 S10 kp10 e
        have hkl := S11.hk.len
        rw [hlen] at hkl
        have hws9 : ws.length ≤ 9 := by omega
        fail "rd"
        refine ⟨fun σ2 H2 => ∃ (ev : V) (nb2 : Nat) (kvs2 : List (Key × V)) (stock2 costs2 : Int) (v13 v14 v16 v17 v18 : Option V), σ2 = [some (.ref b), some (.int n), some (.int (1 + (ST : Int))), some (.int sz), some (.ref nm), some (.ref sn), some (.ref en), some (.ref bt), some (.ref lf), some (.int stock2), some (.int costs2), some (.int (0 + i)), some (.int ch), v13, v14, some ev, v16, v17, v18] ∧ Keep b H H2 ∧
          SE H2 L b nm sn en bt lf zs xs rs nb2 kvs2 stock2 costs2 (i + 1) ∧ (i = 0 → ev ≠ .non) ∧ (ev = .non ∨ ∃ e x, ev = .ref e ∧ H2 e = some (.tup x) ∧ EntOk x), ?_, ?_⟩
        · have hbt := S11.hb
          have hbl : ((zs.take nb).map V.str).length = nb := by
            have := S11.n6
            rw [List.length_map, List.length_take]
            omega
          have hstk := S11.hst
          refine ⟨fun c H' => H11 = H' ∧ (c = true → nb < 6) ∧ (c = false → nb = 6 ∨ stock ≠ 0), ?_, ?_⟩
          · fail "rd"
            rw [hbl]
            refine iteD (fun c1 => ?_) (fun c1 => ?_)
            · fail "rd"
              refine iteI (fun c2 => ?_) (fun c2 => ?_)
              · exact ⟨rfl, fun _ => by omega, fun z => (nomatch z)⟩
              · fail "rd"
                exact ⟨fun _ => by omega, fun _ => .inr c2⟩
            · exact ⟨rfl, (fun z => nomatch z), fun _ => .inl (by have := S11.n6; omega)⟩
          rintro c H' ⟨rfl, hc1, hc2⟩
          cases c
          · have hc2 := hc2 rfl
            have i0 : i ≠ 0 := fun z => by
              obtain ⟨a, b⟩ := h0 z
              rcases hc2 with c | c
              · omega
              · exact c b
            have kls := S11.hf
            refine iteBF rfl ?_
            refine ⟨fun c H' => H11 = H' ∧ (c = true → 0 < stock ∧ kvs.length < 9), ?_, ?_⟩
            · fail "rd"
              refine iteD (fun c1 => ?_) (fun c1 => ⟨rfl, fun z => (nomatch z)⟩)
              fail "rd"
              refine iteD (fun c2 => ?_) (fun c2 => ⟨rfl, fun z => (nomatch z)⟩)
              fail "rd"
              refine ⟨lf, kvs, rfl, kls, ?_⟩
              fail "rd"
              exact fun z => ⟨c1, by have := of_decide_eq_true z; omega⟩
            rintro c H' ⟨rfl, hc3⟩
            cases c
            · refine iteBF rfl ?_
              refine ⟨fun c H' => Same H11 H' ∧ (c = true → ws ≠ []), ?_, ?_⟩
              · fail "rd"
                intro q0 n_q0
                generalize g_H12 : upd _ q0 _ = H12
                obtain ⟨s_H12, e_q0⟩ := gen_new n_q0 g_H12
                clear g_H12
                refine neNil (s_H12 _ _ eO) e_q0 (.strs (n := 0) fun z m => lets_ok (hz z (hws z m).1).ls) (by decide) ?_
                cases hw : ws with
                | nil =>
                  fail "rd"
                  exact ⟨s_H12, fun z => (nomatch z)⟩
                | cons w0 wr =>
                  fail "rd"
                  exact ⟨s_H12, fun _ z => (nomatch z)⟩
              rintro c H12 ⟨s12, hc4⟩
              have S12 := S11.same s12
              have eO := s12 _ _ eO
              have kp12 := kp11.trans (.of s12)
              cases c
              · refine iteBF rfl ?_
                refine ⟨fun c H' => Same H12 H' ∧ (c = true → nb ≠ 0 ∧ costs < 3), ?_, ?_⟩
                · have hbt2 := S12.hb
                  fail "rd"
                  intro q0 n_q0
                  generalize g_H13 : upd _ q0 _ = H13
                  obtain ⟨s_H13, e_q0⟩ := gen_new n_q0 g_H13
                  clear g_H13
                  refine neNil (s_H13 _ _ hbt2) e_q0 (DaAll.strs (n := 0) (zs := zs.take nb) fun z m => lets_ok (hz z (List.mem_of_mem_take m)).ls) (by decide) ?_
                  have lz : zs.length = 9 := hlen
                  cases nb with
                  | zero =>
                    fail "rd"
                    exact ⟨s_H13, fun z => (nomatch z)⟩
                  | succ m =>
                    have e1 : (!((zs.take (m + 1)).map V.str).isEmpty) = true := by
                      cases hzz : zs with
                      | nil => rw [hzz] at lz; cases lz
                      | cons a r => rfl
                    rw [e1]
                    fail "rd"
                    exact ⟨s_H13, fun z => ⟨by omega, by have := of_decide_eq_true z; omega⟩⟩
                rintro c H13 ⟨s13, hc5⟩
                have S13 := S12.same s13
                cases c
                · refine iteBF rfl ?_
                  fail "rd"
                  exact ⟨.non, nb, kvs, stock, costs, _, _, _, _, _, rfl, kp12.trans (.of s13), S13.up (Nat.le_succ i) (by omega) S13.hc0 S13.hc3, (fun z => absurd z i0), .inl rfl⟩
                · obtain ⟨nb0, cs3⟩ := hc5 rfl
                  refine iteBT rfl ?_
                  have hn3 := S13.hn
                  have hbt3 := S13.hb
                  have c0 := S13.hc0
                  obtain ⟨cs, hcs⟩ := Int.eq_ofNat_of_zero_le c0
                  have l6 : 6 + cs < zs.length := by omega
                  have hx : (zs.map V.str)[6 + cs]? = some (.str zs[6 + cs]) := by rw [List.getElem?_map, List.getElem?_eq_getElem l6]; rfl
                  have hat : atI (zs.map V.str) (6 + costs) = some (.str zs[6 + cs]) := by
                    have e : (6 + costs : Int) = ((6 + cs : Nat) : Int) := by rw [hcs]; rfl
                    rw [e]
                    exact atI_nat hx
                  fail "rd"
                  refine ⟨_, _, _, _, rfl, rfl, SqL.of hn3, hat, ?_⟩
                  fail "rd"
                  refine ⟨b, bt, _, rfl, L, S13.B, hbt3, D.tb, (fun z => by have := congrArg List.length z; rw [hbl] at this; simp at this; omega), by have := S11.n6; rw [hbl]; omega, fun j x H14 hx2 k14 B14 => ?_⟩
                  obtain ⟨w, hw, rfl⟩ : ∃ w, (zs.take nb)[j]? = some w ∧ V.str w = x := by
                    rw [List.getElem?_map] at hx2
                    exact Option.map_eq_some_iff.mp hx2
                  have S14 := S13.bag D k14 B14
                  fail "rd"
                  intro e n_e
                  generalize g_H15 : upd _ e _ = H15
                  obtain ⟨s_H15, e_e⟩ := gen_new n_e g_H15
                  clear g_H15
                  have S15 := S14.same s_H15
                  fail "rd"
                  exact ⟨.ref e, nb, kvs, stock, costs + 1, _, _, _, _, _, rfl, ((kp12.trans (.of s13)).trans k14).trans (.of s_H15), S15.up (Nat.le_succ i) (by omega) (by omega) (by omega), (fun _ z => nomatch z), .inr ⟨e, _, rfl, e_e, ⟨_, _, _, rfl, hz _ (List.getElem_mem l6), .inl ⟨rfl, w, rfl, hz w (List.mem_of_mem_take (List.mem_of_getElem? hw))⟩⟩⟩⟩
              · have hw0 := hc4 rfl
                refine iteBT rfl ?_
                fail "rd"
                refine ⟨b, O, _, rfl, L, S12.B, eO, nOb, by simpa using hw0, by rw [List.length_map]; omega, fun j x H13 hx k13 B13 => ?_⟩
                obtain ⟨w, hw, rfl⟩ : ∃ w, ws[j]? = some w ∧ V.str w = x := by
                  rw [List.getElem?_map] at hx
                  exact Option.map_eq_some_iff.mp hx
                obtain ⟨hwz, r, hr, r0, r1⟩ := hws w (List.mem_of_getElem? hw)
                have S13 := S12.bag D k13 B13
                have hf3 := S13.hf
                have g : DGet H13 lf (.str w) (some (.int r)) := by rw [← hr]; exact dget_at (.inl hf3)
                fail "rd"
                refine ⟨lf, _, rfl, g, ?_⟩
                fail "rd"
                refine ⟨L, S13.B, r0, lg164 (lt164 (by omega) (by omega)), fun u H14 u0 u1 k14 B14 => ?_⟩
                have S14 := S13.bag D k14 B14
                fail "rd"
                intro e n_e
                generalize g_H15 : upd _ e _ = H15
                obtain ⟨s_H15, e_e⟩ := gen_new n_e g_H15
                clear g_H15
                have S15 := S14.same s_H15
                have hf5 := S15.hf
                have g5 : DGet H15 lf (.str w) (some (.int r)) := by rw [← hr]; exact dget_at (.inl hf5)
                fail "rd"
                refine ⟨lf, _, rfl, g5, ?_⟩
                fail "rd"
                refine ⟨lf, _, rfl, DPut.k (k := Sum.inr w) hf5 (Nat.lt_of_lt_of_le (show kvs.length < 2000 by omega) (line_le (by decide))), ?_⟩
                have S16 := S15.left D (z := w) (u := r - (1 + u)) hwz (by omega) (by omega)
                have e16 : upd H15 lf (.dK (putK kvs (.inr w) (.int (r - (1 + u))))) e = _ := une (ne_of e_e hf5 fun z => nomatch z) e_e
                fail "rd"
                exact ⟨.ref e, nb, _, stock + (1 + u), costs, _, _, _, _, _, rfl, keep_put ((((kp12.trans k13).trans k14)).trans (.of s_H15)) keep_upd nlf, S16.up (Nat.le_succ i) (by omega) S11.hc0 S11.hc3, (fun _ z => nomatch z), .inr ⟨e, _, rfl, e16, ⟨_, _, _, rfl, hz w hwz, .inr ⟨.inr (.inr rfl), _, rfl, by omega, by omega⟩⟩⟩⟩
            · obtain ⟨st0', kl9⟩ := hc3 rfl
              refine iteBT rfl ?_
              fail "rd"
              refine ⟨L, S11.B, st0', lg164 (lt164 (by omega) (by omega)), fun u H12 u0 u1 k12 B12 => ?_⟩
              have S12 := S11.bag D k12 B12
              fail "rd"
              refine ⟨fun σ2 H2 => ∃ un : Int, σ2 = [some (.ref b), some (.int n), some (.int (1 + (ST : Int))), some (.int sz), some (.ref nm), some (.ref sn), some (.ref en), some (.ref bt), some (.ref lf), some (.int stock), some (.int costs), some (.int (0 + i)), some (.int ch), v13, some (.ref O), some .non, some (.int un), v17, v18] ∧ H12 = H2 ∧ 1 ≤ un ∧ un ≤ stock, ?_, ?_⟩
              · fail "rd"
                refine iteI (fun c1 => ?_) (fun c1 => ?_)
                · fail "rd"
                  refine iteD (fun c2 => ?_) (fun c2 => ?_)
                  · fail "rd"
                    exact ⟨by omega, by omega⟩
                  · fail "rd"
                    exact ⟨by omega, by omega⟩
                · fail "rd"
                  exact ⟨by omega, by omega⟩
              rintro σ2 H2 ⟨un, rfl, rfl, un1, un2⟩
              fail "rd"
              generalize hun : (if (1000000 : Int) < un then (1000000 : Int) else un) = um at *
              have um1 : 1 ≤ um ∧ um ≤ 1000000 ∧ um ≤ un := by
                rw [← hun]
                split <;> omega
              have hs2 := S12.hs
              have hf2 := S12.hf
              have hx : (zs.reverse.map V.str)[kvs.length]? = some (.str (zs.reverse[kvs.length]'(by rw [List.length_reverse]; omega))) := by rw [List.getElem?_map, List.getElem?_eq_getElem (by rw [List.length_reverse]; omega)]; rfl
              have mz : zs.reverse[kvs.length]'(by rw [List.length_reverse]; omega) ∈ zs := List.mem_reverse.mp (List.getElem_mem _)
              generalize zs.reverse[kvs.length]'(by rw [List.length_reverse]; omega) = z at hx mz
              refine ⟨lf, kvs, rfl, hf2, ?_⟩
              fail "rd"
              refine ⟨_, _, _, _, rfl, rfl, SqL.of hs2, atI_nat hx, ?_⟩
              fail "rd"
              intro e n_e
              generalize g_H13 : upd _ e _ = H13
              obtain ⟨s_H13, e_e⟩ := gen_new n_e g_H13
              clear g_H13
              have S13 := S12.same s_H13
              have hs3 := S13.hs
              have hf3 := S13.hf
              fail "rd"
              refine ⟨lf, kvs, rfl, hf3, ?_⟩
              fail "rd"
              refine ⟨_, _, _, _, rfl, rfl, SqL.of hs3, atI_nat hx, ?_⟩
              refine ⟨lf, _, rfl, DPut.k (k := Sum.inr z) hf3 (Nat.lt_of_lt_of_le (show kvs.length < 2000 by omega) (line_le (by decide))), ?_⟩
              have S14 := S13.left D (z := z) (u := um) mz (by omega) (by omega)
              have e14 : upd H13 lf (.dK (putK kvs (.inr z) (.int um))) e = _ := une (ne_of e_e hf3 fun z => nomatch z) e_e
              fail "rd"
              exact ⟨.ref e, nb, _, stock - um, costs, _, _, _, _, _, rfl, keep_put ((kp11.trans k12).trans (.of s_H13)) keep_upd nlf, S14.up (Nat.le_succ i) (by omega) S11.hc0 S11.hc3, (fun _ z => nomatch z), .inr ⟨e, _, rfl, e14, ⟨_, _, _, rfl, hz z mz, .inr ⟨.inr (.inl rfl), _, rfl, um1.1, um1.2.1⟩⟩⟩⟩
          · have hc1 := hc1 rfl
            refine iteBT rfl ?_
            fail "rd"
            refine ⟨L, S11.B, z0, lg164 (lt164 (by omega) (by omega)), fun u H12 u0 u1 k12 B12 => ?_⟩
            have S12 := S11.bag D k12 B12
            have hbt2 := S12.hb
            have hn2 := S12.hn
            have lnb : nb < zs.length := by omega
            have hx : (zs.map V.str)[nb]? = some (.str zs[nb]) := by rw [List.getElem?_map, List.getElem?_eq_getElem lnb]; rfl
            have on := hz _ (List.getElem_mem lnb)
            have hat : atI (zs.map V.str) (((zs.take nb).map V.str).length : Int) = some (.str zs[nb]) := by rw [hbl]; exact atI_nat hx
            fail "rd"
            refine ⟨_, _, _, _, rfl, rfl, SqL.of hn2, hat, ?_⟩
            fail "rd"
            intro e n_e
            generalize g_H13 : upd _ e _ = H13
            obtain ⟨s_H13, e_e⟩ := gen_new n_e g_H13
            clear g_H13
            have S13 := S12.same s_H13
            have hbt3 := S13.hb
            have hn3 := S13.hn
            fail "rd"
            refine ⟨_, _, _, _, rfl, rfl, SqL.of hn3, hat, ?_⟩
            fail "rd"
            refine ⟨bt, _, _, rfl, rfl, hbt3, Nat.lt_of_lt_of_le (show ((zs.take nb).map V.str).length < 2000 by omega) (line_le (by decide)), ?_⟩
            have S14 := S13.buy D hc1 hx
            have e14 := tput e_e hbt3 (keep_upd (o := .lst ((zs.take nb).map V.str ++ [.str zs[nb]])))
            fail "rd"
            exact ⟨.ref e, nb + 1, kvs, _, costs, _, _, _, _, _, rfl, keep_put ((kp11.trans k12).trans (.of s_H13)) keep_upd nbt, S14.up (Nat.le_succ i) (by omega) S11.hc0 S11.hc3, (fun _ z => nomatch z), .inr ⟨e, _, rfl, e14, ⟨_, _, _, rfl, on, .inr ⟨.inl rfl, _, rfl, by omega, by omega⟩⟩⟩⟩
        · rintro σ2 H2 ⟨ev, nb2, kvs2, stock2, costs2, v13, v14, v16, v17, v18, rfl, kp2, S2, hi0, hev⟩
          rcases hev with rfl | ⟨e, x, rfl, ee, ox⟩
          · have i0 : i ≠ 0 := fun z => hi0 z rfl
            fail "rd"
            exact ⟨xs, rs, nb2, kvs2, stock2, costs2, _, _, _, _, _, _, _, _, rfl, kp2, S2, (fun z => by omega), fun _ => h1 (by omega)⟩
          · fail "rd"
            refine ⟨b, en, xs, rs, rfl, L, S2.B, S2.he, D.eb, S2.hR, S2.asc, S2.w, S2.near, Nat.lt_of_le_of_lt S11.lr (by omega), fun t q H3 k3 B3 n3 ht hlt hq => ?_⟩
            have S3 := S2.bag D k3 B3
            obtain ⟨xb, hxb⟩ := S2.B.lst
            have e3 := tput ee hxb k3
            have he3 := S3.he
            unfold PlR at ht
            fail "rd"
            intro t2 n_t2
            generalize g_H4 : upd _ t2 _ = H4
            obtain ⟨s_H4, e_t2⟩ := gen_new n_t2 g_H4
            clear g_H4
            have S4 := S3.same s_H4
            have e4 := s_H4 _ _ e3
            have he4 := S4.he
            have lxs : xs.length ≤ i := by rw [S11.hR.length]; exact S11.lr
            refine ⟨en, xs, _, rfl, rfl, he4, Nat.lt_of_lt_of_le (show xs.length < 2000 by omega) (line_le (by decide)), ?_⟩
            exact ⟨_, rs ++ [(q, x)], nb2, kvs2, stock2, costs2, _, _, _, _, _, _, _, _, rfl, keep_put ((kp2.trans k3).trans (.of s_H4)) keep_upd nen, S4.row D e_t2 e4 ox hlt hq (Nat.lt_succ_of_le S11.lr), (fun z => by omega), fun _ => by simp⟩
    · rintro σ' H' ⟨xs, rs, nb, kvs, stock, costs, v11, v12, v13, v14, v15, v16, v17, v18, rfl, kp, S, h0, h1⟩
      fail "rd"
      have hl50 : rs.length ≤ 1 + ST := S.lr
      exact k en xs rs H' kp S.B nen S.he S.hR S.asc (fun r m => ⟨by obtain ⟨a1, a2, a3, a4⟩ := S.near r m; exact ⟨a1, by omega, a3, by omega⟩, S.w r m⟩) (h1 (by omega)) (by omega) S.near

abbrev s_l_mixed : Stmt := top 18
theorem sc_l_mixed : FnScope ["_law_bag_here", "_law_items", "_law_left", "_law_found", "_law_k"] ["_law_bag_here", "_law_items"] (defScope s_l_mixed) := ⟨rfl, rfl, rfl, by decide +kernel, rfl, by decide +kernel, by decide +kernel⟩
def sp_l_mixed (K : PySem.W.Frag) (_ : Nat → Addr) : Sp := fun vs H Q _ => ∃ (b a : Addr) (xs : List V), vs = [.ref b, .ref a] ∧ ∃ L : Addr, Bag H L b ∧ H a = some (.lst xs) ∧ a ≠ b ∧ xs.length ≤ 1000 ∧
  ∀ (ys : List V) (p : Addr) (H' : Hp), ys.Perm xs → H p = none → Keep b H H' → Bag H' L b → H' p = some (.lst ys) → Q (.ref p) H'
theorem ok_l_mixed {f : Addr} {fd : FuncData} (F : Fun K "_law_mixed" "_law_mixed" s_l_mixed f fd) (T : Txt K mg ca) (O__law_draw : Own P w K mg base 1 "_law_draw" ["_law_bag_here", "_law_size"] (sp_l_draw K ca)) : FnOk P w K mg base (L2N.CX P w) 2 f fd ["_law_bag_here", "_law_items"] (sp_l_mixed K ca) := by
  refine okN F sc_l_mixed (fun vs H Q E h => ?_) (fun cdv A outer s H vs Q E hr h => ?_)
  · obtain ⟨_, _, _, rfl, _⟩ := h
    rfl
  · obtain ⟨b, a, xs, rfl, L, hB, ha, hne, hl, k⟩ := h
    refine ⟨_, pss_cons (ps_set (i := 2) sc_l_mixed.nd rfl (Or.inl rfl) (pe_callTy call_list_of (by rfl) T.b_list (by decide +kernel) (pa_cons (pv 1) pa_nil))) (pss_cons (ps_set (i := 3) sc_l_mixed.nd rfl (Or.inl rfl) (pe_lst pa_nil)) (pss_cons (ps_for (passes_of rfl) rfl (pi_range1 rfl T.b_range (pa_cons (pe_callB call_len_seq (by rfl) T.b_len (by decide +kernel) (pa_cons (pv 1) pa_nil)) pa_nil)) (pg_name (i := 4) sc_l_mixed.nd rfl (Or.inl rfl)) (pss_one (ps_expr (pe_bm PySem.F.plainAttrs_list PySem.F.slot_list_append PySem.F.type_list_append mt_append (pv 3) (pa_cons (pe_bm PySem.F.plainAttrs_list PySem.F.slot_list_pop PySem.F.type_list_pop mt_popAt (pv 2) (pa_cons (pe_own O__law_draw (hr.mono (by decide)) rfl pas0 (pa_cons (pv 0) (pa_cons (pe_callB call_len_seq (by rfl) T.b_len (by decide +kernel) (pa_cons (pv 2) pa_nil)) pa_nil))) pa_nil)) pa_nil))))) (pss_one (ps_ret (pv 3))))), ?_⟩
    fail "rd"
    intro l n_l
    generalize g_H1 : upd _ l _ = H1
    obtain ⟨s_H1, e_l⟩ := gen_new n_l g_H1
    clear g_H1
    fail "rd"
    intro f n_f
    generalize g_H2 : upd _ f _ = H2
    obtain ⟨s_H2, e_f⟩ := gen_new n_f g_H2
    clear g_H2
    fail "rd"
    have hz : (xs.length : Int) < 2 ^ 62 := by
      have e : (2 : Int) ^ 62 = 4611686018427387904 := by decide
      omega
    have B2 := (hB.same s_H1).same s_H2
    have lb := (hB.same s_H1).ne n_f
    have lc' : l ≠ b := hB.ne n_l
    have lf := ne_of_none e_l n_f
    have lL : l ≠ L := hB.neL n_l
    have fL : f ≠ L := (hB.same s_H1).neL n_f
    refine ⟨by omega, hz, for_range (n := xs.length) (fun i σ' H' => ∃ (us ys : List V) (v : Option V), σ' = [some (.ref b), some (.ref a), some (.ref l), some (.ref f), v] ∧ Keep b H H' ∧ Bag H' L b ∧ H' l = some (.lst us) ∧ H' f = some (.lst ys) ∧ us.length + i = xs.length ∧ ys.length = i ∧ (ys ++ us).Perm xs)
      ⟨xs, [], none, rfl, .of (s_H1.trans s_H2), B2, s_H2 _ _ e_l, e_f, rfl, rfl, .refl _⟩ ?_ ?_⟩
    · rintro i σ' H' hi ⟨us, ys, v, rfl, kp, B, hl, hf, u1, u2, hperm⟩
      fail "rd"
      have hu : (0 : Int) < (us.length : Nat) := by omega
      have h64 : (us.length : Int).natAbs < 2 ^ 164 := Nat.lt_of_le_of_lt (show (us.length : Int).natAbs ≤ 1000 by omega) (by decide)
      refine ⟨L, B, hu, lg164 h64, fun d H3 d0 d1 k3 B3 => ?_⟩
      have hl3 := k3 _ _ hl lc'
      have hf3 := k3 _ _ hf lb
      obtain ⟨D, rfl⟩ := Int.eq_ofNat_of_zero_le d0
      have hD : D < us.length := by omega
      fail "rd"
      have hq : seqIndex? ((D : Nat) : Int) us.length = some D := by
        unfold seqIndex?
        have e1 : ¬ ((D : Int) < 0) := by omega
        simp only [e1, if_false]
        have e2 : (decide ((0 : Int) ≤ (D : Int)) && decide ((D : Int) < (us.length : Int))) = true := by simp; exact hD
        rw [if_pos e2]
        rfl
      have e63 : (2 : Int) ^ 63 = 9223372036854775808 := by decide
      refine ⟨l, us, _, D, us[D], rfl, rfl, hl3, by omega, by omega, hq, by simp [hD], ?_⟩
      generalize g_H4 : upd _ l _ = H4
      obtain ⟨k_H4, e_H4⟩ := gen_put g_H4
      clear g_H4
      have hf4 := k_H4 _ _ hf3 lf.symm
      fail "rd"
      refine ⟨f, ys, _, rfl, rfl, hf4, Nat.lt_of_lt_of_le (show ys.length < 2000 by omega) (line_le (by decide)), ?_⟩
      generalize g_H5 : upd _ f _ = H5
      obtain ⟨k_H5, e_H5⟩ := gen_put g_H5
      clear g_H5
      refine ⟨_, _, _, rfl, fun a o e n => ?_, (B3.keep k_H4 lc' lL).keep k_H5 lb fL, k_H5 _ _ e_H4 lf, e_H5, ?_, ?_, ?_⟩
      · exact k_H5 _ _ (k_H4 _ _ (k3 _ _ (kp _ _ e n) n) (ne_of_none e n_l)) (ne_of_none e (s_H1.free n_f))
      · rw [List.length_eraseIdx_of_lt hD]
        omega
      · rw [List.length_append, u2]
        rfl
      · refine .trans ?_ hperm
        rw [List.append_assoc]
        exact (List.perm_append_left_iff ys).mpr (erase_perm hD)
    · rintro σ' H' ⟨us, ys, v, rfl, kp, B, hl, hf, u1, u2, hperm⟩
      fail "rd"
      have e : us = [] := List.eq_nil_of_length_eq_zero (by omega)
      subst e
      rw [List.append_nil] at hperm
      exact k ys f H' hperm (s_H1.free n_f) kp B hf

abbrev s_Book_init : Stmt := inClass (top 12) 0
theorem sc_Book_init : FnScope ["self"] ["self"] (defScope s_Book_init) := ⟨rfl, rfl, rfl, by decide +kernel, rfl, by decide +kernel, by decide +kernel⟩
def sp_Book_init (_ : PySem.W.Frag) (ca : Nat → Addr) : Sp := fun vs H Q _ => ∃ p dx, vs = [.ref p] ∧ H p = some (.ins (ca 22) dx []) ∧ ∀ (D : Addr) (H' : Hp), H D = none → Keep p H H' → BookAt ca H' p D [] → Q .non H'
theorem ok_Book_init {f : Addr} {fd : FuncData} (F : Fun K "__init__" "Book.__init__" s_Book_init f fd) (T : Txt K mg ca)  : FnOk P w K mg base (L2N.CX P w) 1 f fd ["self"] (sp_Book_init K ca) := by
  refine okN F sc_Book_init (fun vs H Q E h => ?_) (fun cdv A outer s H vs Q E hr h => ?_)
  · obtain ⟨_, _, rfl, _⟩ := h
    rfl
  · obtain ⟨p, dx, rfl, hp, k⟩ := h
    refine ⟨_, pss_one (ps_fld (pv 0) pe_dnewT rfl), ?_⟩
    fail "rd"
    intro D n_D
    generalize g_H1 : upd _ D _ = H1
    obtain ⟨s_H1, e_D⟩ := gen_new n_D g_H1
    clear g_H1
    fail "rd"
    have hp1 := s_H1 _ _ hp
    have n : D ≠ p := (ne_of_none hp n_D).symm
    exact k D _ n_D ((Keep.of s_H1).trans keep_upd) ⟨⟨dx, upd_same⟩, [], une n e_D, .nil⟩

abbrev s_is_whole : Stmt := top 10
theorem sc_is_whole : FnScope ["number", "least"] ["number", "least"] (defScope s_is_whole) := ⟨rfl, rfl, rfl, by decide +kernel, rfl, by decide +kernel, by decide +kernel⟩
def sp_is_whole (_ : PySem.W.Frag) (_ : Nat → Addr) : Sp := fun vs H Q _ => ∃ (v : V) (l : Int), vs = [v, .int l] ∧ flatV v = true ∧ Q (.bl (wholeB v l)) H
theorem ok_is_whole {f : Addr} {fd : FuncData} (F : Fun K "is_whole" "is_whole" s_is_whole f fd) (T : Txt K mg ca)  : FnOk P w K mg base (L2N.CX P w) 1 f fd ["number", "least"] (sp_is_whole K ca) := by
  refine okN F sc_is_whole (fun vs H Q E h => ?_) (fun cdv A outer s H vs Q E hr h => ?_)
  · obtain ⟨_, _, rfl, _⟩ := h
    rfl
  · obtain ⟨v, l, rfl, hv, k⟩ := h
    refine ⟨_, pss_cons (ps_if (PW.pt (pw_or (pt_val (pe_callB call_isi (by rfl) T.b_isinstance (by decide +kernel) (pa_cons (pv 0) (pa_cons (pe_bltn (v := .ty "bool") (by rfl) T.b_bool (by decide +kernel) rfl) pa_nil)))) (pw_or1 (pt_not (pt_val (pe_callB call_isi (by rfl) T.b_isinstance (by decide +kernel) (pa_cons (pv 0) (pa_cons (pe_bltn (v := .ty "int") (by rfl) T.b_int (by decide +kernel) rfl) pa_nil)))))))) (pss_one (ps_ret pe_bl)) pss_nil) (pss_one (ps_ret (pe_chain op_le op_le (pv 1) (pv 0) (pe_const T.c__MOST rfl)))), ?_⟩
    fail "rd"
    cases v with
    | non =>
      refine ⟨_, _, _, _, false, rfl, .ty "bool", .base .non, kit_ty (by decide +kernel), ?_⟩
      fail "rd"
      refine ⟨_, _, _, _, false, rfl, .ty "int", .base .non, kit_ty (by decide +kernel), ?_⟩
      fail "rd"
      exact k
    | bl b =>
      refine ⟨_, _, _, _, true, rfl, .ty "bool", .base (.bl _), kit_ty (by decide +kernel), ?_⟩
      fail "rd"
      exact k
    | int i =>
      refine ⟨_, _, _, _, false, rfl, .ty "bool", .base (.int _), kit_ty (by decide +kernel), ?_⟩
      fail "rd"
      refine ⟨_, _, _, _, true, rfl, .ty "int", .base (.int _), kit_ty (by decide +kernel), ?_⟩
      fail "rd"
      replace k : Q (.bl (decide (l ≤ i) && decide (i ≤ 1000000))) H := k
      refine iteD (fun y => ?_) (fun y => ?_)
      · rw [decide_eq_true y] at k
        fail "rd"
        exact k
      · rw [decide_eq_false y] at k
        exact k
    | str z =>
      refine ⟨_, _, _, _, false, rfl, .ty "bool", .base (.str _), kit_ty (by decide +kernel), ?_⟩
      fail "rd"
      refine ⟨_, _, _, _, false, rfl, .ty "int", .base (.str _), kit_ty (by decide +kernel), ?_⟩
      fail "rd"
      exact k
    | ref a => cases hv
    | byt a => cases hv
    | flt a => cases hv
    | ty a => cases hv

abbrev s_is_name : Stmt := top 7
theorem sc_is_name : FnScope ["name"] ["name"] (defScope s_is_name) := ⟨rfl, rfl, rfl, by decide +kernel, rfl, by decide +kernel, by decide +kernel⟩
def sp_is_name (_ : PySem.W.Frag) (_ : Nat → Addr) : Sp := fun vs H Q _ => ∃ v : V, vs = [v] ∧ shortV v ∧ ∀ b, nmV v = b → Q (.bl b) H
theorem ok_is_name {f : Addr} {fd : FuncData} (F : Fun K "is_name" "is_name" s_is_name f fd) (T : Txt K mg ca)  : FnOk P w K mg base (L2N.CX P w) 1 f fd ["name"] (sp_is_name K ca) := by
  refine okN F sc_is_name (fun vs H Q E h => ?_) (fun cdv A outer s H vs Q E hr h => ?_)
  · obtain ⟨_, rfl, _⟩ := h
    rfl
  · obtain ⟨v, rfl, ⟨hf, hz⟩, k⟩ := h
    refine ⟨_, pss_cons (ps_if (PW.pt (pw_or (pt_not (pt_val (pe_callB call_isi (by rfl) T.b_isinstance (by decide +kernel) (pa_cons (pv 0) (pa_cons (pe_bltn (v := .ty "str") (by rfl) T.b_str (by decide +kernel) rfl) pa_nil))))) (pw_or1 (pt_cmpR op_gt (pe_callB call_len_str (by rfl) T.b_len (by decide +kernel) (pa_cons (pv 0) pa_nil)) (pe_const T.c__LONGEST rfl) (nomark _))))) (pss_one (ps_ret pe_bl)) pss_nil) (pss_one (ps_ret (pe_and (pe_m0 PySem.F.slot_str_isascii PySem.F.type_str_isascii mt_isascii (pv 0)) (pe_and (pe_m0 PySem.F.slot_str_isalpha PySem.F.type_str_isalpha mt_isalpha (pv 0)) (pe_one (pe_m0 PySem.F.slot_str_islower PySem.F.type_str_islower mt_islower (pv 0))))))), ?_⟩
    fail "rd"
    cases v with
    | non =>
      refine ⟨_, _, _, _, false, rfl, .ty "str", .base .non, kit_ty (by decide +kernel), ?_⟩
      fail "rd"
      exact k _ rfl
    | bl b =>
      refine ⟨_, _, _, _, false, rfl, .ty "str", .base (.bl _), kit_ty (by decide +kernel), ?_⟩
      fail "rd"
      exact k _ rfl
    | int i =>
      refine ⟨_, _, _, _, false, rfl, .ty "str", .base (.int _), kit_ty (by decide +kernel), ?_⟩
      fail "rd"
      exact k _ rfl
    | str z =>
      have hz := hz z rfl
      refine ⟨_, _, _, _, true, rfl, .ty "str", .base (.str _), kit_ty (by decide +kernel), ?_⟩
      fail "rd"
      refine ⟨Nat.le_trans hz (line_le (by decide)), ?_⟩
      fail "rd"
      replace k := k (nmB z) rfl
      unfold nmB at k
      refine iteD (fun y => ?_) (fun y => ?_)
      · fail "rd"
        rw [decide_eq_false (by omega)] at k
        exact k
      · rw [decide_eq_true (by omega)] at k
        fail "rd"
        cases h1 : Txt.isascii z
        · rw [h1] at k
          fail "rd"
          exact k
        · rw [h1] at k
          fail "rd"
          cases h2 : Txt.isalpha z
          · rw [h2] at k
            fail "rd"
            exact k
          · rw [h2] at k
            fail "rd"
            exact k
    | ref a => cases hf
    | byt a => cases hf
    | flt a => cases hf
    | ty a => cases hf

abbrev s_is_entry : Stmt := top 11
theorem sc_is_entry : FnScope ["entry", "kind", "name", "last"] ["entry"] (defScope s_is_entry) := ⟨rfl, rfl, rfl, by decide +kernel, rfl, by decide +kernel, by decide +kernel⟩
def sp_is_entry (_ : PySem.W.Frag) (_ : Nat → Addr) : Sp := fun vs H Q _ => ∃ (v : V) (b : Bool), vs = [v] ∧ EntV H v b ∧ ∀ H' : Hp, Same H H' → Q (.bl b) H'
theorem ok_is_entry {f : Addr} {fd : FuncData} (F : Fun K "is_entry" "is_entry" s_is_entry f fd) (T : Txt K mg ca) (O_is_name : Own P w K mg base 1 "is_name" ["name"] (sp_is_name K ca)) (O_is_whole : Own P w K mg base 1 "is_whole" ["number", "least"] (sp_is_whole K ca)) : FnOk P w K mg base (L2N.CX P w) 2 f fd ["entry"] (sp_is_entry K ca) := by
  refine okN F sc_is_entry (fun vs H Q E h => ?_) (fun cdv A outer s H vs Q E hr h => ?_)
  · obtain ⟨_, _, rfl, _⟩ := h
    rfl
  · obtain ⟨v, b, rfl, hv, k⟩ := h
    refine ⟨_, pss_cons (ps_if (PW.pt (pw_or (pt_not (pt_val (pe_callB call_isi (by rfl) T.b_isinstance (by decide +kernel) (pa_cons (pv 0) (pa_cons (pe_bltn (v := .ty "tuple") (by rfl) T.b_tuple (by decide +kernel) rfl) pa_nil))))) (pw_or1 (pt_cmpR op_ne (pe_callB call_len_seq (by rfl) T.b_len (by decide +kernel) (pa_cons (pv 0) pa_nil)) pe_int (nomark _))))) (pss_one (ps_ret pe_bl)) pss_nil) (pss_cons (ps_asg (pv 0) (pg_tup rfl (pgs_cons (pg_name (i := 1) sc_is_entry.nd rfl (Or.inl rfl)) (pgs_cons (pg_name (i := 2) sc_is_entry.nd rfl (Or.inl rfl)) (pgs_cons (pg_name (i := 3) sc_is_entry.nd rfl (Or.inl rfl)) pgs_nil))))) (pss_cons (ps_if (pt_cmpR op_eq (pv 1) pe_str (nomark _)) (pss_one (ps_ret (pe_and (pe_own O_is_name (hr.mono (by decide)) rfl pas0 (pa_cons (pv 2) pa_nil)) (pe_one (pe_own O_is_name (hr.mono (by decide)) rfl pas0 (pa_cons (pv 3) pa_nil)))))) pss_nil) (pss_one (ps_ret (pe_and (pe_cmpR op_in_seq (pv 1) (pe_tup (pa_cons pe_str (pa_cons pe_str (pa_cons pe_str pa_nil)))) (by with_unfolding_all rfl)) (pe_and (pe_own O_is_name (hr.mono (by decide)) rfl pas0 (pa_cons (pv 2) pa_nil)) (pe_one (pe_own O_is_whole (hr.mono (by decide)) rfl pas0 (pa_cons (pv 3) (pa_cons pe_int pa_nil)))))))))), ?_⟩
    fail "rd"
    rcases hv with ⟨hf, rfl⟩ | ⟨a, xs, rfl, ha, rfl⟩ | ⟨a, xs, rfl, ha, hn, rfl⟩ | ⟨a, kd, n, y, rfl, ha, fk, sn, sy, hb⟩
    · cases v with
      | non =>
        refine ⟨_, _, _, _, false, rfl, .ty "tuple", .base .non, kit_ty (by decide +kernel), ?_⟩
        fail "rd"
        exact k H (Same.refl H)
      | bl b =>
        refine ⟨_, _, _, _, false, rfl, .ty "tuple", .base (.bl _), kit_ty (by decide +kernel), ?_⟩
        fail "rd"
        exact k H (Same.refl H)
      | int i =>
        refine ⟨_, _, _, _, false, rfl, .ty "tuple", .base (.int _), kit_ty (by decide +kernel), ?_⟩
        fail "rd"
        exact k H (Same.refl H)
      | str z =>
        refine ⟨_, _, _, _, false, rfl, .ty "tuple", .base (.str _), kit_ty (by decide +kernel), ?_⟩
        fail "rd"
        exact k H (Same.refl H)
      | ref a => cases hf
      | byt a => cases hf
      | flt a => cases hf
      | ty a => cases hf
    · refine ⟨_, _, _, _, false, rfl, .ty "tuple", .base (.lst ha), kit_ty (by decide +kernel), ?_⟩
      fail "rd"
      exact k H (Same.refl H)
    · refine ⟨_, _, _, _, true, rfl, .ty "tuple", .base (.tup ha), kit_ty (by decide +kernel), ?_⟩
      fail "rd"
      refine ⟨a, xs, rfl, .inr (SqT.of ha), ?_⟩
      fail "rd"
      refine iteIn (fun z => ?_) (fun z => absurd (by omega) hn)
      fail "rd"
      exact k H (Same.refl H)
    · refine ⟨_, _, _, _, true, rfl, .ty "tuple", .base (.tup ha), kit_ty (by decide +kernel), ?_⟩
      fail "rd"
      refine ⟨a, _, rfl, .inr (SqT.of ha), ?_⟩
      fail "rd"
      unfold entB at hb
      refine ⟨scal_s fk, ?_⟩
      fail "rd"
      refine iteD (fun z => ?_) (fun z => ?_)
      · rw [if_pos z] at hb
        fail "rd"
        refine ⟨sn, fun c hc => ?_⟩
        rw [hc] at hb
        cases c
        · fail "rd"
          rw [hb] at k
          exact k H (Same.refl H)
        · fail "rd"
          refine ⟨sy, fun c2 hc2 => ?_⟩
          rw [hc2] at hb
          rw [hb] at k
          exact k H (Same.refl H)
      · rw [if_neg z] at hb
        fail "rd"
        intro t n_t
        generalize g_H1 : upd _ t _ = H1
        obtain ⟨s_H1, e_t⟩ := gen_new n_t g_H1
        clear g_H1
        refine ⟨t, _, rfl, .inr (SqT.of e_t), fk, rfl, ?_⟩
        show ∃ c, V.bl (inV kd _) = V.bl c ∧ _
        rw [inV3 fk]
        refine ⟨_, rfl, ?_⟩
        cases hd : decide (kd = V.str "buy" ∨ kd = V.str "sell" ∨ kd = V.str "back")
        · rw [hd] at hb
          fail "rd"
          rw [hb] at k
          exact k H1 s_H1
        · rw [hd] at hb
          fail "rd"
          refine ⟨sn, fun c hc => ?_⟩
          rw [hc] at hb
          cases c
          · fail "rd"
            rw [hb] at k
            exact k H1 s_H1
          · fail "rd"
            refine ⟨sy.1, ?_⟩
            fail "rd"
            rw [hb] at k
            exact k H1 s_H1

abbrev s_BadEntry_init : Stmt := inClass (top 3) 0
theorem sc_BadEntry_init : FnScope ["self", "day", "number"] ["self", "day", "number"] (defScope s_BadEntry_init) := ⟨rfl, rfl, rfl, by decide +kernel, rfl, by decide +kernel, by decide +kernel⟩
theorem ok_BadEntry_init {f : Addr} {fd : FuncData} (F : Fun K "__init__" "BadEntry.__init__" s_BadEntry_init f fd) (T : Txt K mg ca)  : FnOk P w K mg base (L2N.CX P w) 1 f fd ["self", "day", "number"] (spErr (ca 7) ["day", "number"]) := by
  refine okN F sc_BadEntry_init (fun vs H Q E h => ?_) (fun cdv A outer s H vs Q E hr h => ?_)
  · obtain ⟨a, us, rfl, hl, _⟩ := h
    exact congrArg Nat.succ hl
  · obtain ⟨a, us, rfl, hl, ha, k⟩ := h
    obtain ⟨x0, x1, rfl⟩ := list_2 hl
    refine ⟨_, pss_cons (ps_ost (pv 0) (pv 1)) (pss_one (ps_ost (pv 0) (pv 2))), ?_⟩
    refine ⟨_, rfl, _, rfl, ?_⟩
    refine err_1 T.ox_BadEntry T.nf_BadEntry_day ha fun dx H1 nd ne a1 d1 m1 => ?_
    refine ⟨_, rfl, _, rfl, ?_⟩
    refine err_2 T.ox_BadEntry T.nf_BadEntry_number a1 d1 (by simp) ne fun H2 a2 d2 m2 => ?_
    exact k dx _ nd ne a2 d2 fun b o e n => m2 _ _ (m1 _ _ e n) (ne_of_none e nd)
abbrev s_Book_setitem : Stmt := inClass (top 12) 1
theorem sc_Book_setitem : FnScope ["self", "at", "worth", "day", "number"] ["self", "at", "worth"] (defScope s_Book_setitem) := ⟨rfl, rfl, rfl, by decide +kernel, rfl, by decide +kernel, by decide +kernel⟩
def sp_Book_setitem (_ : PySem.W.Frag) (ca : Nat → Addr) : Sp := fun vs H Q E => ∃ (p t D : Addr) (es : Bk) (dv nv w : V) (wb : Bool), vs = [.ref p, .ref t, w] ∧ BookAt ca H p D es ∧ H t = some (.tup [dv, nv]) ∧ flatV dv = true ∧ flatV nv = true ∧ EntV H w wb ∧ es.length < 10000 ∧
  ((wholeB dv 0 && (wholeB nv 0 && wb)) = false → ∀ (e : Addr) (H' : Hp), Same H H' → H' e = some (.xd [("number", nv), ("day", dv)]) → E (.ref (ca 7)) (some e) H') ∧
  ((wholeB dv 0 && (wholeB nv 0 && wb)) = true → ∀ (d n : Int) (a : Addr) (x : Ent), dv = .int d → nv = .int n → w = .ref a → H a = some (.tup x) → ∀ H' : Hp, Keep D H H' → BookAt ca H' p D (insE (d, n) x es) → Q .non H')
theorem ok_Book_setitem {f : Addr} {fd : FuncData} (F : Fun K "__setitem__" "Book.__setitem__" s_Book_setitem f fd) (T : Txt K mg ca) (O_is_whole : Own P w K mg base 1 "is_whole" ["number", "least"] (sp_is_whole K ca)) (O_is_entry : Own P w K mg base 2 "is_entry" ["entry"] (sp_is_entry K ca)) (O_BadEntry_init : OwnE P w K mg base "BadEntry" (ca 7) ["day", "number"]) : FnOk P w K mg base (L2N.CX P w) 3 f fd ["self", "at", "worth"] (sp_Book_setitem K ca) := by
  refine okN F sc_Book_setitem (fun vs H Q E h => ?_) (fun cdv A outer s H vs Q E hr h => ?_)
  · obtain ⟨_, _, _, _, _, _, _, _, rfl, _⟩ := h
    rfl
  · obtain ⟨p, t, D, es, dv, nv, w, wb, rfl, hB, ht, fd, fn, hw, hl, kE, k⟩ := h
    have ⟨⟨dx, hp⟩, kvs, hD, hk⟩ := id hB
    refine ⟨_, pss_cons (ps_asg (pv 1) (pg_tup rfl (pgs_cons (pg_name (i := 3) sc_Book_setitem.nd rfl (Or.inl rfl)) (pgs_cons (pg_name (i := 4) sc_Book_setitem.nd rfl (Or.inl rfl)) pgs_nil)))) (pss_cons (ps_if (pt_not (PW.pt (pw_and (pt_val (pe_own O_is_whole (hr.mono (by decide)) rfl (pasE (L2N.takes_of rfl rfl rfl rfl)) (pa_cons (pv 3) (pa_cons pe_int pa_nil)))) (pw_and (pt_val (pe_own O_is_whole (hr.mono (by decide)) rfl (pasE (L2N.takes_of rfl rfl rfl rfl)) (pa_cons (pv 4) (pa_cons pe_int pa_nil)))) (pw_and1 (pt_val (pe_own O_is_entry (hr.mono (by decide)) rfl (pasE (L2N.takes_of rfl rfl rfl rfl)) (pa_cons (pv 2) pa_nil)))))))) (pss_one (ps_raiseE rfl O_BadEntry_init (hr.mono (by decide)) (L2N.takes_of rfl rfl rfl rfl) rfl (pa_cons (pv 3) (pa_cons (pv 4) pa_nil)))) pss_nil) (pss_one (ps_dput (hu_of (hr.mono (Nat.zero_le _))) (pe_fld (pv 0) rfl) (pe_tup (pa_cons (pv 3) (pa_cons (pv 4) pa_nil))) (pv 2) rfl))), ?_⟩
    fail "rd"
    have fin : ∀ {H1 : Hp} {R : VK}, Same H H1 → (wholeB dv 0 && (wholeB nv 0 && wb)) = false → (∀ (d : Addr) (H2 : Hp), H1 d = none → Same H1 H2 → H2 d = some (.xd ((["day", "number"] : List Str).zip [dv, nv]).reverse) → E (.ref (ca 7)) (some d) H2) := fun s z d H2 _ s2 e => kE z d H2 (s.trans s2) e
    refine ⟨fd, ?_⟩
    cases h1 : wholeB dv 0
    · fail "rd"
      exact err_in rfl (by decide) (fin (R := fun _ _ => True) (Same.refl H) (by rw [h1]; rfl))
    · fail "rd"
      refine ⟨fn, ?_⟩
      cases h2 : wholeB nv 0
      · fail "rd"
        exact err_in rfl (by decide) (fin (R := fun _ _ => True) (Same.refl H) (by rw [h1, h2]; rfl))
      · fail "rd"
        refine ⟨w, wb, rfl, hw, fun H1 s1 => ?_⟩
        cases h3 : wb
        · fail "rd"
          exact err_in rfl (by decide) (fin (R := fun _ _ => True) s1 (by rw [h1, h2, h3]; rfl))
        · fail "rd"
          obtain ⟨d, rfl⟩ : ∃ d : Int, dv = .int d := by cases dv <;> first | exact ⟨_, rfl⟩ | cases h1
          obtain ⟨n, rfl⟩ : ∃ n : Int, nv = .int n := by cases nv <;> first | exact ⟨_, rfl⟩ | cases h2
          subst h3
          obtain ⟨a, kd, nm, y, rfl, ha, _⟩ : ∃ a kd n y, w = .ref a ∧ H a = some (.tup [kd, n, y]) ∧ True := by
            rcases hw with ⟨_, e⟩ | ⟨_, _, _, _, e⟩ | ⟨_, _, _, _, _, e⟩ | ⟨a, kd, n, y, e, h, _⟩
            · cases e
            · cases e
            · cases e
            · exact ⟨a, kd, n, y, e, h, trivial⟩
          intro t2 n_t2
          generalize g_H2 : upd _ t2 _ = H2
          obtain ⟨s_H2, e_t2⟩ := gen_new n_t2 g_H2
          clear g_H2
          have s2 := s1.trans s_H2
          have hD2 := s2 _ _ hD
          have hp2 := s2 _ _ hp
          have nt : D ≠ p := fun z => by rw [z, hp] at hD; cases hD
          refine ⟨D, _, rfl, DPut.t (k := keyP (d, n)) hD2 e_t2 (Nat.lt_of_lt_of_le (show kvs.length < 20000 by rw [hk.len]; omega) (line_le (by decide))), ?_⟩
          exact k (by rw [h1, h2]; rfl) d n a _ rfl rfl rfl ha _ ((Keep.of s2).trans keep_upd) ⟨⟨dx, une nt.symm hp2⟩, _, upd_same, ((hk.same s2).put ⟨a, rfl, s2 _ _ ha⟩).keep hD2 (fun _ z => nomatch z) keep_upd⟩

abbrev s_l_book : Stmt := top 21
theorem sc_l_book : FnScope ["_law_entries_here", "_law_book_here", "_law_day", "_law_number", "_law_entry"] ["_law_entries_here"] (defScope s_l_book) := ⟨rfl, rfl, rfl, by decide +kernel, rfl, by decide +kernel, by decide +kernel⟩
def sp_l_book (_ : PySem.W.Frag) (ca : Nat → Addr) : Sp := fun vs H Q _ => ∃ (l : Addr) (xs : List V) (rs : Bk), vs = [.ref l] ∧ H l = some (.lst xs) ∧ Rows H xs rs ∧ (∀ r ∈ rs, Pl6 r.1 ∧ EntOk r.2) ∧ rs.length < 60 ∧
  ∀ (p D : Addr) (H' : Hp), H p = none → H D = none → Same H H' → BookAt ca H' p D (setAll rs) → BkW (setAll rs) → (setAll rs).length ≤ rs.length → Q (.ref p) H'
theorem ok_l_book {f : Addr} {fd : FuncData} (F : Fun K "_law_book" "_law_book" s_l_book f fd) (T : Txt K mg ca) (O_Book_0 : OwnI P w K mg base 1 "Book" (ca 22) ["self"] [] (sp_Book_init K ca)) (O_Book___setitem__ : OwnM P w K mg base 3 (ca 22) "__setitem__" ["self", "at", "worth"] (sp_Book_setitem K ca)) : FnOk P w K mg base (L2N.CX P w) 4 f fd ["_law_entries_here"] (sp_l_book K ca) := by
  refine okN F sc_l_book (fun vs H Q E h => ?_) (fun cdv A outer s H vs Q E hr h => ?_)
  · obtain ⟨_, _, _, rfl, _⟩ := h
    rfl
  · obtain ⟨l, xs, rs, rfl, hx, hR, hw, hl, k⟩ := h
    refine ⟨_, pss_cons (ps_set (i := 1) sc_l_book.nd rfl (Or.inl rfl) (pe_owni0 O_Book_0 (hr.mono (by decide)) rfl pas0)) (pss_cons (ps_for (passes_of rfl) rfl (pi_list (pv 0)) (pg_tup rfl (pgs_cons (pg_name (i := 2) sc_l_book.nd rfl (Or.inl rfl)) (pgs_cons (pg_name (i := 3) sc_l_book.nd rfl (Or.inl rfl)) (pgs_cons (pg_name (i := 4) sc_l_book.nd rfl (Or.inl rfl)) pgs_nil)))) (pss_one (ps_asg (pv 4) (pg_sub (pv 1) (pe_tup (pa_cons (pv 2) (pa_cons (pv 3) pa_nil))) (set_own O_Book___setitem__ T.nq_Book (hr.mono (by decide)) pas0))))) (pss_one (ps_ret (pv 1)))), ?_⟩
    fail "rd"
    intro p dx np nd ne
    have n2 : upd H dx (.own p) p = none := by rw [upd_ne ne.symm]; exact np
    refine ⟨p, dx, rfl, upd_same, fun D H1 nD k1 hB => ⟨rfl, ?_⟩⟩
    have s1 : Same H H1 := same_made np nd ne k1
    have nDp : D ≠ p := fun z => by rw [z, upd_same] at nD; cases nD
    have nDx : D ≠ dx := fun z => by rw [z, upd_ne ne, upd_same] at nD; cases nD
    have nD0 : H D = none := by rw [upd_ne nDp, upd_ne nDx] at nD; exact nD
    clear nD k1
    fail "rd"
    refine for_list (K := K) (D := ⟨_, _, fun _ _ => True, fun _ _ => True⟩) (a := l) (xs := xs) (fun i σ' H' => ∃ (v2 v3 v4 : Option V), σ' = [some (.ref l), some (.ref p), v2, v3, v4] ∧ Same H H' ∧ BookAt ca H' p D (setAll (rs.take i)) ∧ BkW (setAll (rs.take i)) ∧ (setAll (rs.take i)).length ≤ i)
      ⟨_, _, _, rfl, s1, hB, (fun e m => by cases m), Nat.le_refl _⟩ (fun i σ' H' _ ⟨_, _, _, _, e, _⟩ => SqL.of (e _ _ hx)) ?_ ?_
    · rintro i x σ' H' hi ⟨v2, v3, v4, rfl, sH, hB', hw', hl'⟩
      have li : i < rs.length := by rw [← hR.length]; exact (List.getElem?_eq_some_iff.mp hi).1
      have ge : rs[i]? = some rs[i] := List.getElem?_eq_getElem li
      have hts : rs.take (i + 1) = rs.take i ++ [rs[i]] := by rw [List.take_add_one, ge]; rfl
      obtain ⟨h6, ox⟩ := hw _ (List.getElem_mem li)
      obtain ⟨t, a, rfl, ht, ha⟩ := paired_get hR hi ge
      rw [hts, setAll_snoc]
      generalize rs[i] = r at ht ha h6 ox
      obtain ⟨q, x⟩ := r
      have ht := sH _ _ ht
      have ha := sH _ _ ha
      have ⟨⟨dx1, hp1⟩, kvs, hD, hk⟩ := id hB'
      fail "rd"
      intro w n_w
      generalize g_H2 : upd _ w _ = H2
      obtain ⟨s_H2, e_w⟩ := gen_new n_w g_H2
      clear g_H2
      refine ⟨p, dx1, _, rfl, s_H2 _ _ hp1, p, w, D, _, .int q.1, .int q.2, .ref a, true, rfl, hB'.same s_H2, e_w, (by first | exact .inl rfl | exact rfl), (by first | exact .inl rfl | exact rfl), ox.v (s_H2 _ _ ha), Nat.lt_of_le_of_lt hl' (by omega), (fun z => by rw [whole_ok h6.1 h6.2.1, whole_ok h6.2.2.1 h6.2.2.2] at z; cases z), fun _ d' n' a' x' ed en ea hx' H3 k3 hB3 => ?_⟩
      cases ed
      cases en
      cases ea
      rw [s_H2 _ _ ha] at hx'
      cases hx'
      exact ⟨_, _, _, rfl, fun b o e => k3 _ _ (s_H2 _ _ (sH _ _ e)) (ne_of_none e nD0), hB3, bkW_ins hB'.2.asc hw' h6 ox, Nat.le_trans len_insE (Nat.succ_le_succ hl')⟩
    · rintro σ' H' ⟨v2, v3, v4, rfl, sH, hB', hw', hl'⟩
      rw [List.take_of_length_le (by rw [hR.length]; exact Nat.le_refl _)] at hB' hw' hl'
      fail "rd"
      exact k p D H' np nD0 sH hB' hw' (by rw [← hR.length]; exact hl')

abbrev s_Book_places : Stmt := inClass (top 12) 6
theorem sc_Book_places : FnScope ["self"] ["self"] (defScope s_Book_places) := ⟨rfl, rfl, rfl, by decide +kernel, rfl, by decide +kernel, by decide +kernel⟩
def sp_Book_places (_ : PySem.W.Frag) (ca : Nat → Addr) : Sp := fun vs H Q _ => ∃ (p D : Addr) (es : Bk), vs = [.ref p] ∧ BookAt ca H p D es ∧ BkW es ∧ es.length < 64 ∧ ∀ (l : Addr) (ys : List Addr) (H' : Hp), H l = none → Same H H' → H' l = some (.lst (ys.map V.ref)) → Paired (PlR H') ys (es.map (·.1)) → Q (.ref l) H'
theorem ok_Book_places {f : Addr} {fd : FuncData} (F : Fun K "places" "Book.places" s_Book_places f fd) (T : Txt K mg ca)  : FnOk P w K mg base (L2N.CX P w) 1 f fd ["self"] (sp_Book_places K ca) := by
  refine okN F sc_Book_places (fun vs H Q E h => ?_) (fun cdv A outer s H vs Q E hr h => ?_)
  · obtain ⟨_, _, _, rfl, _⟩ := h
    rfl
  · obtain ⟨p, D, es, rfl, ⟨⟨dx, hp⟩, hD⟩, hw, hl, k⟩ := h
    refine ⟨_, pss_one (ps_ret (pe_callB (cr_sortedDT (d := 2) (B := 1000001) rfl (by decide)) (by rfl) T.b_sorted (by decide +kernel) (pa_cons (pe_fld (pv 0) rfl) pa_nil))), ?_⟩
    fail "rd"
    refine sortE hD hw hl fun ys l hy nl => ?_
    exact k l ys _ nl (same_upd nl) upd_same (Paired.mapP hy fun y q e => same_upd nl _ _ e)

abbrev s_NoEntry_init : Stmt := inClass (top 4) 0
theorem sc_NoEntry_init : FnScope ["self", "day", "number"] ["self", "day", "number"] (defScope s_NoEntry_init) := ⟨rfl, rfl, rfl, by decide +kernel, rfl, by decide +kernel, by decide +kernel⟩
theorem ok_NoEntry_init {f : Addr} {fd : FuncData} (F : Fun K "__init__" "NoEntry.__init__" s_NoEntry_init f fd) (T : Txt K mg ca)  : FnOk P w K mg base (L2N.CX P w) 1 f fd ["self", "day", "number"] (spErr (ca 8) ["day", "number"]) := by
  refine okN F sc_NoEntry_init (fun vs H Q E h => ?_) (fun cdv A outer s H vs Q E hr h => ?_)
  · obtain ⟨a, us, rfl, hl, _⟩ := h
    exact congrArg Nat.succ hl
  · obtain ⟨a, us, rfl, hl, ha, k⟩ := h
    obtain ⟨x0, x1, rfl⟩ := list_2 hl
    refine ⟨_, pss_cons (ps_ost (pv 0) (pv 1)) (pss_one (ps_ost (pv 0) (pv 2))), ?_⟩
    refine ⟨_, rfl, _, rfl, ?_⟩
    refine err_1 T.ox_NoEntry T.nf_NoEntry_day ha fun dx H1 nd ne a1 d1 m1 => ?_
    refine ⟨_, rfl, _, rfl, ?_⟩
    refine err_2 T.ox_NoEntry T.nf_NoEntry_number a1 d1 (by simp) ne fun H2 a2 d2 m2 => ?_
    exact k dx _ nd ne a2 d2 fun b o e n => m2 _ _ (m1 _ _ e n) (ne_of_none e nd)
abbrev s_Book_getitem : Stmt := inClass (top 12) 2
theorem sc_Book_getitem : FnScope ["self", "at", "day", "number"] ["self", "at"] (defScope s_Book_getitem) := ⟨rfl, rfl, rfl, by decide +kernel, rfl, by decide +kernel, by decide +kernel⟩
def sp_Book_getitem (_ : PySem.W.Frag) (ca : Nat → Addr) : Sp := fun vs H Q E => ∃ (p t D : Addr) (es : Bk) (q : Int × Int), vs = [.ref p, .ref t] ∧ BookAt ca H p D es ∧ PlR H t q ∧
  (getE q es = none → ∀ (e : Addr) (H' : Hp), Same H H' → H' e = some (.xd [("number", .int q.2), ("day", .int q.1)]) → E (.ref (ca 8)) (some e) H') ∧
  (∀ x, getE q es = some x → ∀ (a : Addr) (H' : Hp), Same H H' → H' a = some (.tup x) → Q (.ref a) H')
theorem ok_Book_getitem {f : Addr} {fd : FuncData} (F : Fun K "__getitem__" "Book.__getitem__" s_Book_getitem f fd) (T : Txt K mg ca) (O_NoEntry_init : OwnE P w K mg base "NoEntry" (ca 8) ["day", "number"]) : FnOk P w K mg base (L2N.CX P w) 3 f fd ["self", "at"] (sp_Book_getitem K ca) := by
  refine okN F sc_Book_getitem (fun vs H Q E h => ?_) (fun cdv A outer s H vs Q E hr h => ?_)
  · obtain ⟨_, _, _, _, _, rfl, _⟩ := h
    rfl
  · obtain ⟨p, t, D, es, q, rfl, hB, ht, kE, k⟩ := h
    have ⟨⟨dx, hp⟩, kvs, hD, hk⟩ := id hB
    refine ⟨_, pss_cons (ps_asg (pv 1) (pg_tup rfl (pgs_cons (pg_name (i := 2) sc_Book_getitem.nd rfl (Or.inl rfl)) (pgs_cons (pg_name (i := 3) sc_Book_getitem.nd rfl (Or.inl rfl)) pgs_nil)))) (pss_cons (ps_if (pt_cmp (pc_dnotin (hu_of (hr.mono (Nat.zero_le _))) (pe_tup (pa_cons (pv 2) (pa_cons (pv 3) pa_nil))) (pe_fld (pv 0) rfl))) (pss_one (ps_raiseE rfl O_NoEntry_init (hr.mono (by decide)) (L2N.takes_of rfl rfl rfl rfl) rfl (pa_cons (pv 2) (pa_cons (pv 3) pa_nil)))) pss_nil) (pss_one (ps_ret (pe_dget (hu_of (hr.mono (Nat.zero_le _))) (pe_fld (pv 0) rfl) (pe_tup (pa_cons (pv 2) (pa_cons (pv 3) pa_nil))) (fun _ _ => rfl))))), ?_⟩
    unfold PlR at ht
    fail "rd"
    intro t1 n_t1
    generalize g_H1 : upd _ t1 _ = H1
    obtain ⟨s_H1, e_t1⟩ := gen_new n_t1 g_H1
    clear g_H1
    have hp1 := s_H1 _ _ hp
    have hD1 := s_H1 _ _ hD
    fail "rd"
    refine ⟨D, _, rfl, DGet.t (k := keyP q) hD1 e_t1, ?_⟩
    rcases hk.get q with ⟨e1, e2⟩ | ⟨v, x, e1, e2, a, rfl, ha⟩
    · rw [e1]
      fail "rd"
      exact err_in rfl (by decide) fun e H2 _ s2 q2 => kE e2 e H2 (s_H1.trans s2) q2
    · rw [e1]
      fail "rd"
      intro t2 n_t2
      generalize g_H2 : upd _ t2 _ = H2
      obtain ⟨s_H2, e_t2⟩ := gen_new n_t2 g_H2
      clear g_H2
      have g := DGet.t (k := keyP q) (s_H2 _ _ hD1) e_t2
      rw [e1] at g
      refine ⟨D, _, rfl, g, ?_⟩
      fail "rd"
      exact k x e2 a H2 (s_H1.trans s_H2) (s_H2 _ _ (s_H1 _ _ ha))

abbrev s_l_kept : Stmt := top 22
theorem sc_l_kept : FnScope ["_law_book_here", "_law_spot"] ["_law_book_here"] (defScope s_l_kept) := ⟨rfl, rfl, rfl, by decide +kernel, rfl, by decide +kernel, by decide +kernel⟩
def sp_l_kept (_ : PySem.W.Frag) (ca : Nat → Addr) : Sp := fun vs H Q _ => ∃ (p D : Addr) (es : Bk), vs = [.ref p] ∧ BookAt ca H p D es ∧ BkW es ∧ es.length < 64 ∧ ∀ (l : Addr) (ys : List V) (H' : Hp), H l = none → Same H H' → H' l = some (.lst ys) → Kept H' ys es → Q (.ref l) H'
theorem ok_l_kept {f : Addr} {fd : FuncData} (F : Fun K "_law_kept" "_law_kept" s_l_kept f fd) (T : Txt K mg ca) (O_Book_places : OwnM P w K mg base 1 (ca 22) "places" ["self"] (sp_Book_places K ca)) (O_Book___getitem__ : OwnM P w K mg base 3 (ca 22) "__getitem__" ["self", "at"] (sp_Book_getitem K ca)) : FnOk P w K mg base (L2N.CX P w) 5 f fd ["_law_book_here"] (sp_l_kept K ca) := by
  refine okN F sc_l_kept (fun vs H Q E h => ?_) (fun cdv A outer s H vs Q E hr h => ?_)
  · obtain ⟨_, _, _, rfl, _⟩ := h
    rfl
  · obtain ⟨p, D, es, rfl, hB, hw, hl, k⟩ := h
    have ⟨⟨dx, hp⟩, _⟩ := id hB
    refine ⟨_, pss_one (ps_ret (pe_lc (own := [("_law_spot", 1)]) (g := gName 1) (tt := tYes) rfl sc_l_kept.nd (pi_list (pe_ownm0 O_Book_places (pv 0) (hr.mono (by decide)) pas0)) (blkOk_by (N := ["_law_book_here", "_law_spot"]) (sc := defScope s_l_kept) (by decide +kernel)) (fun _ _ _ _ _ => pg_name (i := 1) sc_l_kept.nd rfl (Or.inl rfl)) (fun _ _ _ _ _ => pts_nil) (fun _ _ _ _ _ => pe_tup (pa_cons (pv 1) (pa_cons (pe_ixOwn O_Book___getitem__ T.fg_Book (hr.mono (by decide)) pas0 (pv 0) (pe_tup (pa_cons (pe_ix (r := rIxT K) ix_tup (pv 1) pe_int (fun _ _ => rfl)) (pa_cons (pe_ix (r := rIxT K) ix_tup (pv 1) pe_int (fun _ _ => rfl)) pa_nil))) (fun _ _ => rfl)) pa_nil))))), ?_⟩
    fail "rd"
    refine ⟨p, D, es, rfl, hB, hw, hl, fun l ys H1 n1 s1 e1 hy => ?_⟩
    fail "rd"
    intro O nO
    refine lc_list (K := K) (a := l) (xs := ys.map V.ref) (fun i H' => Same H1 H' ∧ ∃ acc, H' O = some (.lst acc) ∧ acc.length = i ∧ Kept H' acc (es.take i)) ⟨same_upd nO, [], upd_same, rfl, .nil⟩ (fun i H' _ s => SqL.of (s.1 _ _ e1)) ?_ ?_
    · rintro i x H' hi ⟨s', acc, hO, hla, hk⟩
      obtain ⟨y, hy1, rfl⟩ : ∃ y, ys[i]? = some y ∧ V.ref y = x := by
        rw [List.getElem?_map] at hi
        exact Option.map_eq_some_iff.mp hi
      have li : i < es.length := by
        have := (List.getElem?_eq_some_iff.mp hy1).1
        have e := hy.length
        rw [List.length_map] at e
        omega
      have ge : es[i]? = some es[i] := List.getElem?_eq_getElem li
      have me : es[i] ∈ es := List.getElem_mem li
      have gm : (es.map (·.1))[i]? = some es[i].1 := by rw [List.getElem?_map, ge]; rfl
      have ht0 : PlR H1 y es[i].1 := paired_get hy hy1 gm
      have ht : H' y = some (.tup [.int es[i].1.1, .int es[i].1.2]) := s' _ _ ht0
      have hts : es.take (i + 1) = es.take i ++ [es[i]] := by rw [List.take_add_one, ge]; rfl
      have hB' := (hB.same s1).same s'
      have hp' := s' _ _ (s1 _ _ hp)
      have hg : getE es[i].1 es = some es[i].2 := (getE_mem hB.2.asc).mpr me
      clear ht0
      generalize es[i] = e at ht hts hg me
      fail "rd"
      intro w n_w
      generalize g_H2 : upd _ w _ = H2
      obtain ⟨s_H2, e_w⟩ := gen_new n_w g_H2
      clear g_H2
      refine ⟨p, dx, _, rfl, s_H2 _ _ hp', p, w, D, es, e.1, rfl, hB'.same s_H2, e_w, (fun z => by rw [hg] at z; cases z), fun x' hx' b H3 s3 hb => ?_⟩
      rw [hg] at hx'
      cases hx'
      have s23 := s_H2.trans s3
      have ht3 := s23 _ _ ht
      have hO3 := s23 _ _ hO
      have hk3 := hk.same s23
      fail "rd"
      intro u n_u
      generalize g_H4 : upd _ u _ = H4
      obtain ⟨s_H4, e_u⟩ := gen_new n_u g_H4
      clear g_H4
      have hO4 := s_H4 _ _ hO3
      fail "rd"
      refine ⟨acc, hO4, Nat.lt_of_lt_of_le (show acc.length < 2000 by omega) (line_le (by decide)), same_put nO (s'.trans (s23.trans s_H4)), acc ++ [V.ref u], upd_same, by rw [List.length_append, hla]; rfl, ?_⟩
      rw [hts]
      exact Paired.snoc ((hk3.same s_H4).keep hO4 (fun _ z => nomatch z) keep_upd) (KepR.keep ⟨u, y, b, rfl, e_u, s_H4 _ _ ht3, s_H4 _ _ hb⟩ hO4 (fun _ z => nomatch z) keep_upd)
    · rintro H' ⟨s', acc, hO, hla, hk⟩
      rw [List.take_of_length_le (by rw [List.length_map]; have e := hy.length; rw [List.length_map] at e; omega)] at hk
      fail "rd"
      exact k O acc H' (s1.free nO) (s1.trans s') hO hk

abbrev s_l_named : Stmt := top 23
theorem sc_l_named : FnScope ["_law_kept_here", "_law_kind", "_law_found", "_law_spot", "_law_entry"] ["_law_kept_here", "_law_kind"] (defScope s_l_named) := ⟨rfl, rfl, rfl, by decide +kernel, rfl, by decide +kernel, by decide +kernel⟩
def sp_l_named (_ : PySem.W.Frag) (_ : Nat → Addr) : Sp := fun vs H Q _ => ∃ (a : Addr) (ys : List V) (es : Bk) (kd : Str), vs = [.ref a, .str kd] ∧ H a = some (.lst ys) ∧ Kept H ys es ∧ BkW es ∧ es.length < 64 ∧ ∀ (l : Addr) (H' : Hp), H l = none → Same H H' → H' l = some (.lst ((namesE kd es).map V.str)) → Q (.ref l) H'
theorem ok_l_named {f : Addr} {fd : FuncData} (F : Fun K "_law_named" "_law_named" s_l_named f fd) (T : Txt K mg ca)  : FnOk P w K mg base (L2N.CX P w) 1 f fd ["_law_kept_here", "_law_kind"] (sp_l_named K ca) := by
  refine okN F sc_l_named (fun vs H Q E h => ?_) (fun cdv A outer s H vs Q E hr h => ?_)
  · obtain ⟨_, _, _, _, rfl, _⟩ := h
    rfl
  · obtain ⟨a, ys, es, kd, rfl, ha, hK, hw, hl, k⟩ := h
    refine ⟨_, pss_cons (ps_set (i := 2) sc_l_named.nd rfl (Or.inl rfl) (pe_lst pa_nil)) (pss_cons (ps_for (passes_of rfl) rfl (pi_list (pv 0)) (pg_tup rfl (pgs_cons (pg_name (i := 3) sc_l_named.nd rfl (Or.inl rfl)) (pgs_cons (pg_name (i := 4) sc_l_named.nd rfl (Or.inl rfl)) pgs_nil))) (pss_one (ps_if (PW.pt (pw_and (pt_cmpR op_eq (pe_ix ix_tup (pv 4) pe_int (fun _ _ => rfl)) (pv 1) (nomark _)) (pw_and1 (pt_cmpR op_notIn_seq (pe_ix ix_tup (pv 4) pe_int (fun _ _ => rfl)) (pv 2) (by with_unfolding_all rfl))))) (pss_one (ps_expr (pe_bm PySem.F.plainAttrs_list PySem.F.slot_list_append PySem.F.type_list_append mt_append (pv 2) (pa_cons (pe_ix ix_tup (pv 4) pe_int (fun _ _ => rfl)) pa_nil)))) pss_nil))) (pss_one (ps_ret (pv 2)))), ?_⟩
    fail "rd"
    intro F n_F
    generalize g_H1 : upd _ F _ = H1
    obtain ⟨s_H1, e_F⟩ := gen_new n_F g_H1
    clear g_H1
    fail "rd"
    have nFa : F ≠ a := (ne_of_none ha n_F).symm
    refine for_list (K := K) (D := ⟨_, _, fun _ _ => True, fun _ _ => True⟩) (a := a) (xs := ys) (fun i σ' H' => ∃ (v1 v2 : Option V), σ' = [some (.ref a), some (.str kd), some (.ref F), v1, v2] ∧ Same H H' ∧ H' F = some (.lst ((namesE kd (es.take i)).map V.str)))
      ⟨none, none, rfl, s_H1, e_F⟩ (fun i σ' H' _ ⟨_, _, _, e, _⟩ => SqL.of (e _ _ ha)) ?_ ?_
    · rintro i x σ' H' hi ⟨v1, v2, rfl, sH, eF⟩
      have le : i < es.length := by rw [← hK.length]; exact (List.getElem?_eq_some_iff.mp hi).1
      have he : es[i]? = some es[i] := List.getElem?_eq_getElem le
      obtain ⟨t, q, b, rfl, h1, h2, h3⟩ : KepR H' x es[i] := KepR.same (paired_get hK hi he) sH
      obtain ⟨_, hx⟩ := hw _ (List.mem_of_getElem? he)
      obtain ⟨w, n, y, ex, _⟩ := hx.ex
      rw [ex] at h3
      have es1 := namesE_snoc (k := kd) he
      rw [ex, pickN_of] at es1
      have hnl := (namesE_ok (k := kd) (es := es.take i) fun e m => hw e (List.mem_of_mem_take m)).2.1
      rw [List.length_take] at hnl
      fail "rd"
      refine iteD (fun z => ?_) (fun z => ?_)
      · have z : w = kd := V.str.inj z
        rw [if_pos z] at es1
        fail "rd"
        refine ⟨flat_strs, ?_⟩
        rw [inV_strs]
        unfold addN at es1
        refine ⟨_, rfl, ?_⟩
        show if (!decide (n ∈ namesE kd (es.take i))) = true then _ else _
        refine iteDn (fun c => ?_) (fun c => ?_)
        · rw [if_neg c] at es1
          fail "rd"
          refine ⟨F, _, _, rfl, rfl, eF, Nat.lt_of_lt_of_le (show ((namesE kd (es.take i)).map V.str).length < 2000 by rw [List.length_map]; omega) (line_le (by decide)), ?_⟩
          refine ⟨_, _, rfl, same_put n_F sH, ?_⟩
          rw [upd_same, es1, strs_snoc]
        · rw [if_pos c] at es1
          fail "rd"
          exact ⟨sH, by rw [es1]; exact eF⟩
      · have z : w ≠ kd := fun q => z (by rw [q])
        rw [if_neg z] at es1
        fail "rd"
        exact ⟨sH, by rw [es1]; exact eF⟩
    · rintro σ' H' ⟨v1, v2, rfl, sH, eF⟩
      rw [hK.length, List.take_length] at eF
      fail "rd"
      exact k F H' n_F sH eF

abbrev s_Book_len : Stmt := inClass (top 12) 4
theorem sc_Book_len : FnScope ["self"] ["self"] (defScope s_Book_len) := ⟨rfl, rfl, rfl, by decide +kernel, rfl, by decide +kernel, by decide +kernel⟩
def sp_Book_len (_ : PySem.W.Frag) (ca : Nat → Addr) : Sp := fun vs H Q _ => ∃ (p D : Addr) (es : Bk), vs = [.ref p] ∧ BookAt ca H p D es ∧ Q (.int (es.length : Nat)) H
theorem ok_Book_len {f : Addr} {fd : FuncData} (F : Fun K "__len__" "Book.__len__" s_Book_len f fd) (T : Txt K mg ca)  : FnOk P w K mg base (L2N.CX P w) 1 f fd ["self"] (sp_Book_len K ca) := by
  refine okN F sc_Book_len (fun vs H Q E h => ?_) (fun cdv A outer s H vs Q E hr h => ?_)
  · obtain ⟨_, _, _, rfl, _⟩ := h
    rfl
  · obtain ⟨p, D, es, rfl, ⟨⟨dx, hp⟩, kvs, hD, hk⟩, k⟩ := h
    refine ⟨_, pss_one (ps_ret (pe_callB call_len_dT (by rfl) T.b_len (by decide +kernel) (pa_cons (pe_fld (pv 0) rfl) pa_nil))), ?_⟩
    fail "rd"
    refine ⟨D, kvs, rfl, hD, ?_⟩
    rw [hk.len]
    exact k

abbrev s_Book_contains : Stmt := inClass (top 12) 3
theorem sc_Book_contains : FnScope ["self", "x"] ["self", "x"] (defScope s_Book_contains) := ⟨rfl, rfl, rfl, by decide +kernel, rfl, by decide +kernel, by decide +kernel⟩
def sp_Book_contains (_ : PySem.W.Frag) (ca : Nat → Addr) : Sp := fun vs H Q _ => ∃ (p t D : Addr) (es : Bk) (q : Int × Int), vs = [.ref p, .ref t] ∧ BookAt ca H p D es ∧ PlR H t q ∧ Q (.bl (getE q es).isSome) H
theorem ok_Book_contains {f : Addr} {fd : FuncData} (F : Fun K "__contains__" "Book.__contains__" s_Book_contains f fd) (T : Txt K mg ca)  : FnOk P w K mg base (L2N.CX P w) 1 f fd ["self", "x"] (sp_Book_contains K ca) := by
  refine okN F sc_Book_contains (fun vs H Q E h => ?_) (fun cdv A outer s H vs Q E hr h => ?_)
  · obtain ⟨_, _, _, _, _, rfl, _⟩ := h
    rfl
  · obtain ⟨p, t, D, es, q, rfl, ⟨⟨dx, hp⟩, kvs, hD, hk⟩, ht, k⟩ := h
    refine ⟨_, pss_one (ps_ret (pe_cmp (pc_din (hu_of (hr.mono (Nat.zero_le _))) (pv 1) (pe_fld (pv 0) rfl)))), ?_⟩
    fail "rd"
    refine ⟨D, _, rfl, DGet.t (k := keyP q) hD ht, ?_⟩
    fail "rd"
    rcases hk.get q with ⟨e1, e2⟩ | ⟨v, x, e1, e2, _⟩
    · rw [e2] at k
      rw [e1]
      exact k
    · rw [e2] at k
      rw [e1]
      exact k

abbrev s_Book__names_of : Stmt := inClass (top 12) 13
theorem sc_Book__names_of : FnScope ["self", "kind", "names", "place", "word", "name", "_"] ["self", "kind"] (defScope s_Book__names_of) := ⟨rfl, rfl, rfl, by decide +kernel, rfl, by decide +kernel, by decide +kernel⟩
def sp_Book__names_of (_ : PySem.W.Frag) (ca : Nat → Addr) : Sp := fun vs H Q _ => ∃ (p D : Addr) (es : Bk) (kd : Str), vs = [.ref p, .str kd] ∧ BookAt ca H p D es ∧ BkW es ∧ es.length < 64 ∧ ∀ (l : Addr) (H' : Hp), H l = none → Same H H' → H' l = some (.lst ((namesE kd es).map V.str)) → Q (.ref l) H'
theorem ok_Book__names_of {f : Addr} {fd : FuncData} (F : Fun K "_names_of" "Book._names_of" s_Book__names_of f fd) (T : Txt K mg ca) (O_Book_places : OwnM P w K mg base 1 (ca 22) "places" ["self"] (sp_Book_places K ca)) : FnOk P w K mg base (L2N.CX P w) 2 f fd ["self", "kind"] (sp_Book__names_of K ca) := by
  refine okN F sc_Book__names_of (fun vs H Q E h => ?_) (fun cdv A outer s H vs Q E hr h => ?_)
  · obtain ⟨_, _, _, _, rfl, _⟩ := h
    rfl
  · obtain ⟨p, D, es, kd, rfl, hB, hw, hl, k⟩ := h
    have ⟨⟨dx, hp⟩, kvs, hD, hk⟩ := id hB
    refine ⟨_, pss_cons (ps_set (i := 2) sc_Book__names_of.nd rfl (Or.inl rfl) pe_dnewK) (pss_cons (ps_for (passes_of rfl) rfl (pi_list (pe_ownm0 O_Book_places (pv 0) (hr.mono (by decide)) pas0)) (pg_name (i := 3) sc_Book__names_of.nd rfl (Or.inl rfl)) (pss_cons (ps_asg (pe_dget (hu_of (hr.mono (Nat.zero_le _))) (pe_fld (pv 0) rfl) (pv 3) (fun _ _ => rfl)) (pg_tup rfl (pgs_cons (pg_name (i := 4) sc_Book__names_of.nd rfl (Or.inl rfl)) (pgs_cons (pg_name (i := 5) sc_Book__names_of.nd rfl (Or.inl rfl)) (pgs_cons (pg_name (i := 6) sc_Book__names_of.nd rfl (Or.inl rfl)) pgs_nil))))) (pss_one (ps_if (pt_cmpR op_eq (pv 4) (pv 1) (nomark _)) (pss_one (ps_dput (hu_of (hr.mono (Nat.zero_le _))) (pv 2) (pv 5) pe_bl rfl)) pss_nil)))) (pss_one (ps_ret (pe_callTy (call_listD rfl) (by rfl) T.b_list (by decide +kernel) (pa_cons (pv 2) pa_nil))))), ?_⟩
    fail "rd"
    intro N n_N
    generalize g_H1 : upd _ N _ = H1
    obtain ⟨s_H1, e_N⟩ := gen_new n_N g_H1
    clear g_H1
    have hp1 := s_H1 _ _ hp
    fail "rd"
    refine ⟨p, D, es, rfl, hB.same s_H1, hw, hl, fun l ys H2 nl s2 el hy => ?_⟩
    have sA := s_H1.trans s2
    have eN := s2 _ _ e_N
    have hyl : ys.length = es.length := by rw [hy.length, List.length_map]
    fail "rd"
    refine for_list (K := K) (D := ⟨_, _, fun _ _ => True, fun _ _ => True⟩) (a := l) (xs := ys.map V.ref) (fun i σ' H' => ∃ (nk : List (Key × V)) (v1 v2 v3 v4 : Option V), σ' = [some (.ref p), some (.str kd), some (.ref N), v1, v2, v3, v4] ∧ Same H H' ∧ H' l = some (.lst (ys.map V.ref)) ∧ H' N = some (.dK nk) ∧ nk.map (·.1) = (namesE kd (es.take i)).map Sum.inr ∧ Paired (PlR H') ys (es.map (·.1)))
      ⟨[], none, none, none, none, rfl, sA, el, eN, rfl, hy⟩ (fun i σ' H' _ ⟨_, _, _, _, _, _, _, e, _⟩ => SqL.of e) ?_ ?_
    · rintro i x σ' H' hi ⟨nk, v1, v2, v3, v4, rfl, sH, el', eN', ek, hy'⟩
      have li : i < ys.length := by rw [← List.length_map (f := V.ref)]; exact (List.getElem?_eq_some_iff.mp hi).1
      have le : i < es.length := by omega
      have he : es[i]? = some es[i] := List.getElem?_eq_getElem le
      have hyi : ys[i]? = some ys[i] := List.getElem?_eq_getElem li
      have hpl := paired_get hy' hyi (show (es.map (·.1))[i]? = some es[i].1 by rw [List.getElem?_map, he]; rfl)
      obtain rfl : V.ref ys[i] = x := by
        rw [List.getElem?_map, hyi] at hi
        exact Option.some.inj hi
      obtain ⟨v, hv, a, rfl, ha⟩ := hk.at_ (List.mem_of_getElem? he)
      obtain ⟨_, hx⟩ := hw _ (List.mem_of_getElem? he)
      obtain ⟨w, n, y, ex, _⟩ := hx.ex
      rw [ex] at ha
      have ha := sH _ _ ha
      have hp' := sH _ _ hp
      have hD' := sH _ _ hD
      fail "rd"
      have g := DGet.t (k := keyP es[i].1) hD' hpl
      rw [hv] at g
      refine ⟨D, _, rfl, g, ?_⟩
      fail "rd"
      have es1 := namesE_snoc (k := kd) he
      rw [ex, pickN_of] at es1
      have lk : nk.length ≤ i := by
        have := congrArg List.length ek
        rw [List.length_map, List.length_map] at this
        rw [this]
        have := (namesE_ok (k := kd) (es := es.take i) fun e m => hw e (List.mem_of_mem_take m)).2.1
        rw [List.length_take] at this
        omega
      refine iteD (fun z => ?_) (fun z => ?_)
      · fail "rd"
        have z : w = kd := V.str.inj z
        rw [if_pos z] at es1
        refine ⟨N, _, rfl, DPut.k (k := Sum.inr n) eN' (Nat.lt_of_lt_of_le (show nk.length < 2000 by omega) (line_le (by decide))), ?_⟩
        refine ⟨_, _, _, _, _, rfl, same_put n_N sH, une (ne_of el' eN' fun z => nomatch z) el', upd_same, ?_, Paired.mapP hy' fun y q r => une (ne_of r eN' fun z => nomatch z) r⟩
        rw [es1]
        exact addN_keys ek
      · have z : w ≠ kd := fun q => z (by rw [q])
        rw [if_neg z] at es1
        fail "rd"
        exact ⟨_, _, _, _, _, rfl, sH, el', eN', by rw [es1]; exact ek, hy'⟩
    · rintro σ' H' ⟨nk, v1, v2, v3, v4, rfl, sH, el', eN', ek, hy'⟩
      rw [List.length_map, hyl, List.take_length] at ek
      fail "rd"
      refine ⟨N, nk, rfl, .inl eN', fun q nq => ?_⟩
      rw [keys_str ek]
      exact k q _ (sH.free nq) (same_put (sH.free nq) sH) upd_same

abbrev s_Book_lots : Stmt := inClass (top 12) 7
theorem sc_Book_lots : FnScope ["self"] ["self"] (defScope s_Book_lots) := ⟨rfl, rfl, rfl, by decide +kernel, rfl, by decide +kernel, by decide +kernel⟩
def sp_Book_lots (_ : PySem.W.Frag) (ca : Nat → Addr) : Sp := fun vs H Q _ => ∃ (p D : Addr) (es : Bk), vs = [.ref p] ∧ BookAt ca H p D es ∧ BkW es ∧ es.length < 64 ∧ ∀ (l : Addr) (H' : Hp), H l = none → Same H H' → H' l = some (.lst ((namesE "buy" es).map V.str)) → Q (.ref l) H'
theorem ok_Book_lots {f : Addr} {fd : FuncData} (F : Fun K "lots" "Book.lots" s_Book_lots f fd) (T : Txt K mg ca) (O_Book__names_of : OwnM P w K mg base 2 (ca 22) "_names_of" ["self", "kind"] (sp_Book__names_of K ca)) : FnOk P w K mg base (L2N.CX P w) 3 f fd ["self"] (sp_Book_lots K ca) := by
  refine okN F sc_Book_lots (fun vs H Q E h => ?_) (fun cdv A outer s H vs Q E hr h => ?_)
  · obtain ⟨_, _, _, rfl, _⟩ := h
    rfl
  · obtain ⟨p, D, es, rfl, hB, hw, hl, k⟩ := h
    have ⟨⟨dx, hp⟩, _⟩ := id hB
    refine ⟨_, pss_one (ps_ret (pe_ownm O_Book__names_of (pv 0) (hr.mono (by decide)) pas0 (pa_cons pe_str pa_nil))), ?_⟩
    fail "rd"
    exact ⟨p, D, es, "buy", rfl, hB, hw, hl, fun l H' n s e => k l H' n s e⟩

abbrev s_Book_sales : Stmt := inClass (top 12) 8
theorem sc_Book_sales : FnScope ["self"] ["self"] (defScope s_Book_sales) := ⟨rfl, rfl, rfl, by decide +kernel, rfl, by decide +kernel, by decide +kernel⟩
def sp_Book_sales (_ : PySem.W.Frag) (ca : Nat → Addr) : Sp := fun vs H Q _ => ∃ (p D : Addr) (es : Bk), vs = [.ref p] ∧ BookAt ca H p D es ∧ BkW es ∧ es.length < 64 ∧ ∀ (l : Addr) (H' : Hp), H l = none → Same H H' → H' l = some (.lst ((namesE "sell" es).map V.str)) → Q (.ref l) H'
theorem ok_Book_sales {f : Addr} {fd : FuncData} (F : Fun K "sales" "Book.sales" s_Book_sales f fd) (T : Txt K mg ca) (O_Book__names_of : OwnM P w K mg base 2 (ca 22) "_names_of" ["self", "kind"] (sp_Book__names_of K ca)) : FnOk P w K mg base (L2N.CX P w) 3 f fd ["self"] (sp_Book_sales K ca) := by
  refine okN F sc_Book_sales (fun vs H Q E h => ?_) (fun cdv A outer s H vs Q E hr h => ?_)
  · obtain ⟨_, _, _, rfl, _⟩ := h
    rfl
  · obtain ⟨p, D, es, rfl, hB, hw, hl, k⟩ := h
    have ⟨⟨dx, hp⟩, _⟩ := id hB
    refine ⟨_, pss_one (ps_ret (pe_ownm O_Book__names_of (pv 0) (hr.mono (by decide)) pas0 (pa_cons pe_str pa_nil))), ?_⟩
    fail "rd"
    exact ⟨p, D, es, "sell", rfl, hB, hw, hl, fun l H' n s e => k l H' n s e⟩

abbrev s_Book_late_costs : Stmt := inClass (top 12) 9
theorem sc_Book_late_costs : FnScope ["self"] ["self"] (defScope s_Book_late_costs) := ⟨rfl, rfl, rfl, by decide +kernel, rfl, by decide +kernel, by decide +kernel⟩
def sp_Book_late_costs (_ : PySem.W.Frag) (ca : Nat → Addr) : Sp := fun vs H Q _ => ∃ (p D : Addr) (es : Bk), vs = [.ref p] ∧ BookAt ca H p D es ∧ BkW es ∧ es.length < 64 ∧ ∀ (l : Addr) (H' : Hp), H l = none → Same H H' → H' l = some (.lst ((namesE "late" es).map V.str)) → Q (.ref l) H'
theorem ok_Book_late_costs {f : Addr} {fd : FuncData} (F : Fun K "late_costs" "Book.late_costs" s_Book_late_costs f fd) (T : Txt K mg ca) (O_Book__names_of : OwnM P w K mg base 2 (ca 22) "_names_of" ["self", "kind"] (sp_Book__names_of K ca)) : FnOk P w K mg base (L2N.CX P w) 3 f fd ["self"] (sp_Book_late_costs K ca) := by
  refine okN F sc_Book_late_costs (fun vs H Q E h => ?_) (fun cdv A outer s H vs Q E hr h => ?_)
  · obtain ⟨_, _, _, rfl, _⟩ := h
    rfl
  · obtain ⟨p, D, es, rfl, hB, hw, hl, k⟩ := h
    have ⟨⟨dx, hp⟩, _⟩ := id hB
    refine ⟨_, pss_one (ps_ret (pe_ownm O_Book__names_of (pv 0) (hr.mono (by decide)) pas0 (pa_cons pe_str pa_nil))), ?_⟩
    fail "rd"
    exact ⟨p, D, es, "late", rfl, hB, hw, hl, fun l H' n s e => k l H' n s e⟩

abbrev s_l_lists_right : Stmt := top 24
theorem sc_l_lists_right : FnScope ["_law_book_here", "_law_kept_here", "_law_spots", "_law_spot", "_law_item"] ["_law_book_here", "_law_kept_here", "_law_spots"] (defScope s_l_lists_right) := ⟨rfl, rfl, rfl, by decide +kernel, rfl, by decide +kernel, by decide +kernel⟩
def sp_l_lists_right (K : PySem.W.Frag) (ca : Nat → Addr) : Sp := fun vs H Q _ => ∃ (p D a s : Addr) (ys : List V) (es : Bk) (sp : List V) (qs : List (Int × Int)), vs = [.ref p, .ref a, .ref s] ∧ BookAt ca H p D es ∧ BkW es ∧ es.length < 64 ∧ H a = some (.lst ys) ∧ Kept H ys es ∧ H s = some (.lst sp) ∧ sp.length < 1000 ∧ Paired (fun x q => ∃ t, x = .ref t ∧ PlR H t q) sp qs ∧ ∀ H' : Hp, Same H H' → Q (.bl true) H'
theorem ok_l_lists_right {f : Addr} {fd : FuncData} (F : Fun K "_law_lists_right" "_law_lists_right" s_l_lists_right f fd) (T : Txt K mg ca) (O__law_named : Own P w K mg base 1 "_law_named" ["_law_kept_here", "_law_kind"] (sp_l_named K ca)) (O_Book___len__ : OwnM P w K mg base 1 (ca 22) "__len__" ["self"] (sp_Book_len K ca)) (O_Book___contains__ : OwnM P w K mg base 1 (ca 22) "__contains__" ["self", "x"] (sp_Book_contains K ca)) (O_Book_lots : OwnM P w K mg base 3 (ca 22) "lots" ["self"] (sp_Book_lots K ca)) (O_Book_sales : OwnM P w K mg base 3 (ca 22) "sales" ["self"] (sp_Book_sales K ca)) (O_Book_late_costs : OwnM P w K mg base 3 (ca 22) "late_costs" ["self"] (sp_Book_late_costs K ca)) : FnOk P w K mg base (L2N.CX P w) 4 f fd ["_law_book_here", "_law_kept_here", "_law_spots"] (sp_l_lists_right K ca) := by
  refine okN F sc_l_lists_right (fun vs H Q E h => ?_) (fun cdv A outer s H vs Q E hr h => ?_)
  · obtain ⟨_, _, _, _, _, _, _, _, rfl, _⟩ := h
    rfl
  · obtain ⟨p, D, a, s, ys, es, sp, qs, rfl, hB, hw, hl, ha, hK, hs, hsl, hq, k⟩ := h
    have ⟨⟨dx, hp⟩, _⟩ := id hB
    refine ⟨_, pss_cons (ps_if (pt_cmpR (op_neD (Room.units (hr.mono (Nat.zero_le _)))) (pe_lst (pa_cons (pe_ownm0 O_Book_lots (pv 0) (hr.mono (by decide)) pas0) (pa_cons (pe_ownm0 O_Book_sales (pv 0) (hr.mono (by decide)) pas0) pa_nil))) (pe_lst (pa_cons (pe_own O__law_named (hr.mono (by decide)) rfl pas0 (pa_cons (pv 1) (pa_cons pe_str pa_nil))) (pa_cons (pe_own O__law_named (hr.mono (by decide)) rfl pas0 (pa_cons (pv 1) (pa_cons pe_str pa_nil))) pa_nil))) (nomark _)) (pss_one (ps_ret pe_bl)) pss_nil) (pss_cons (ps_if (PW.pt (pw_or (pt_cmpR (op_neD (Room.units (hr.mono (Nat.zero_le _)))) (pe_ownm0 O_Book_late_costs (pv 0) (hr.mono (by decide)) pas0) (pe_own O__law_named (hr.mono (by decide)) rfl pas0 (pa_cons (pv 1) (pa_cons pe_str pa_nil))) (nomark _)) (pw_or1 (pt_cmpR op_ne (pe_callB (call_lenOwn O_Book___len__ (hr.mono (by decide)) pas0) (by rfl) T.b_len (by decide +kernel) (pa_cons (pv 0) pa_nil)) (pe_callB call_len_seq (by rfl) T.b_len (by decide +kernel) (pa_cons (pv 1) pa_nil)) (nomark _))))) (pss_one (ps_ret pe_bl)) pss_nil) (pss_one (ps_ret (pe_callB (cr_all rfl) (by rfl) T.b_all (by decide +kernel) (pa_cons (pe_lc (own := [("_law_spot", 3)]) (g := gName 3) (tt := tYes) rfl sc_l_lists_right.nd (pi_list (pv 2)) (blkOk_by (N := ["_law_book_here", "_law_kept_here", "_law_spots", "_law_spot", "_law_item"]) (sc := defScope s_l_lists_right) (by decide +kernel)) (fun _ _ _ _ _ => pg_name (i := 3) sc_l_lists_right.nd rfl (Or.inl rfl)) (fun _ _ _ _ _ => pts_nil) (fun _ _ _ _ _ => pe_cmpR op_eq (pe_cmpR (op_inOwn O_Book___contains__ (hr.mono (by decide)) pas0) (pv 3) (pv 0) (by with_unfolding_all rfl)) (pe_cmpR (show OpR _ _ (rInD K) from op_inD (by have hu := room65 (hr.mono (Nat.zero_le _)); exact hu)) (pv 3) (pe_lc (own := [("_law_item", 4)]) (g := gName 4) (tt := tYes) rfl sc_l_lists_right.nd ((show PI _ _ _ (iList K _) from pi_list (pv 1))) (blkOk_by (N := ["_law_book_here", "_law_kept_here", "_law_spots", "_law_spot", "_law_item"]) (by rfl)) (fun _ _ _ _ _ => pg_name (i := 4) sc_l_lists_right.nd rfl (Or.inl rfl)) (fun _ _ _ _ _ => pts_nil) (fun _ _ _ _ _ => pe_ix (r := rIxT K) ix_tup (pv 4) pe_int (fun _ _ => rfl))) (by with_unfolding_all rfl)) (nomark _))) pa_nil))))), ?_⟩
    fail "rd"
    refine ⟨p, D, es, rfl, hB, hw, hl, fun l1 H1 n1 s1 e1 => ?_⟩
    have hp1 := s1 _ _ hp
    fail "rd"
    refine ⟨p, D, es, rfl, hB.same s1, hw, hl, fun l2 H2 n2 s2 e2 => ?_⟩
    have s12 := s1.trans s2
    fail "rd"
    intro tl n_tl
    generalize g_H3 : upd _ tl _ = H3
    obtain ⟨s_H3, e_tl⟩ := gen_new n_tl g_H3
    clear g_H3
    have s13 := s12.trans s_H3
    have e1 := s_H3 _ _ (s2 _ _ e1)
    have e2 := s_H3 _ _ e2
    fail "rd"
    refine ⟨a, ys, es, "buy", rfl, s13 _ _ ha, hK.same s13, hw, hl, fun m1 H4 nm1 s4 f1 => ?_⟩
    have s14 := s13.trans s4
    fail "rd"
    refine ⟨a, ys, es, "sell", rfl, s14 _ _ ha, hK.same s14, hw, hl, fun m2 H5 nm2 s5 f2 => ?_⟩
    have s15 := s14.trans s5
    fail "rd"
    intro rl n_rl
    generalize g_H6 : upd _ rl _ = H6
    obtain ⟨s_H6, e_rl⟩ := gen_new n_rl g_H6
    clear g_H6
    have s16 := s15.trans s_H6
    have s36 := (s4.trans s5).trans s_H6
    have ok : ∀ w, ∀ z ∈ namesE w es, PyData.strOk z = true := fun w z m => lets_ok ((namesE_ok hw).1 z m).ls
    have e1 := s36 _ _ e1
    have e2 := s36 _ _ e2
    have e_tl := s36 _ _ e_tl
    have f1 := s_H6 _ _ (s5 _ _ f1)
    have f2 := s_H6 _ _ f2
    refine Da.ne (n := 2) (m := 2) (.lst (.cons (.lst (.strs (ok "buy")) (SqL.of e1)) (.cons (.lst (.strs (ok "sell")) (SqL.of e2)) .nil)) (SqL.of e_tl)) (.lst (.cons (.lst (.strs (ok "buy")) (SqL.of f1)) (.cons (.lst (.strs (ok "sell")) (SqL.of f2)) .nil)) (SqL.of e_rl)) ?_
    clear e1 e2 e_tl f1 f2 e_rl s36 s1 s2 s_H3 s4 s5 s_H6 s12 s13 s14 s15 nm1 nm2 n1 n2
    fail "rd"
    refine ⟨p, D, es, rfl, hB.same s16, hw, hl, fun l3 H7 n3 s7 e3 => ?_⟩
    have s17 := s16.trans s7
    fail "rd"
    refine ⟨a, ys, es, "late", rfl, s17 _ _ ha, hK.same s17, hw, hl, fun m3 H8 nm3 s8 f3 => ?_⟩
    have s18 := s17.trans s8
    refine Da.ne (n := 1) (m := 1) (.lst (.strs (ok "late")) (SqL.of (s8 _ _ e3))) (.lst (.strs (ok "late")) (SqL.of f3)) ?_
    have hB8 := hB.same s18
    have hp8 := s18 _ _ hp
    have ha8 := s18 _ _ ha
    have hK8 := hK.same s18
    have hs8 := s18 _ _ hs
    have hq8 : Paired (fun x q => ∃ t, x = .ref t ∧ PlR H8 t q) sp qs := Paired.mapP hq fun _ _ ⟨t, e, r⟩ => ⟨t, e, s18 _ _ r⟩
    clear s16 s7 s8 s17 e3 f3 n3 nm3
    have small : es.length < 2 ^ 62 := Nat.lt_trans hl (by decide)
    fail "rd"
    refine ⟨p, dx, _, rfl, hp8, p, D, es, rfl, hB8, es.length, rfl, small, ?_⟩
    fail "rd"
    refine iteNv (congrArg (fun n : Nat => V.int n) hK.length.symm) ?_
    fail "rd"
    intro O nO
    refine lc_list (K := K) (a := s) (xs := sp) (fun i H' => Same H8 H' ∧ H' O = some (.lst (List.replicate i (V.bl true)))) ⟨same_upd nO, upd_same⟩ (fun i H' _ s => SqL.of (s.1 _ _ hs8)) ?_ ?_
    · rintro i x H9 hi ⟨s9, hO⟩
      have lsi : i < sp.length := (List.getElem?_eq_some_iff.mp hi).1
      have li : i < qs.length := by rw [← hq8.length]; exact (List.getElem?_eq_some_iff.mp hi).1
      obtain ⟨t, rfl, ht⟩ := paired_get hq8 hi (List.getElem?_eq_getElem li)
      have ht := s9 _ _ ht
      generalize qs[i] = q at ht
      fail "rd"
      refine ⟨p, dx, _, rfl, s9 _ _ hp8, p, t, D, es, q, rfl, hB8.same s9, ht, _, rfl, ?_⟩
      fail "rd"
      intro O2 nO2
      refine lc_list (K := K) (a := a) (xs := ys) (fun j H' => Same H9 H' ∧ ∃ acc : List Addr, H' O2 = some (.lst (acc.map V.ref)) ∧ acc.length = j ∧ Paired (PlR H') acc ((es.take j).map (·.1))) ⟨same_upd nO2, [], upd_same, rfl, .nil⟩ (fun j H' _ s => SqL.of (s.1 _ _ (s9 _ _ ha8))) ?_ ?_
      · rintro j v H10 hj ⟨s10, acc, hO2, la, hac⟩
        have lj : j < es.length := by rw [← hK8.length]; exact (List.getElem?_eq_some_iff.mp hj).1
        have ge : es[j]? = some es[j] := List.getElem?_eq_getElem lj
        obtain ⟨tt, qq, aa, rfl, h1, h2, h3⟩ : KepR H10 v es[j] := KepR.same (paired_get hK8 hj ge) (s9.trans s10)
        have hts : (es.take (j + 1)).map (·.1) = (es.take j).map (·.1) ++ [es[j].1] := by rw [List.take_add_one, ge, List.map_append]; rfl
        rw [hts]
        fail "rd"
        refine ⟨_, hO2, Nat.lt_of_lt_of_le (show (acc.map V.ref).length < 2000 by rw [List.length_map]; omega) (line_le (by decide)), same_put nO2 s10, acc ++ [qq], by rw [upd_same, List.map_append]; rfl, by rw [List.length_append, la]; rfl, ?_⟩
        exact Paired.snoc (Paired.mapP hac fun _ _ r => PlR.keep r hO2 (fun _ z => nomatch z) keep_upd) (h2.keep hO2 (fun _ z => nomatch z) keep_upd)
      · rintro H10 ⟨s10, acc, hO2, la, hac⟩
        rw [List.take_of_length_le (by rw [hK8.length]; exact Nat.le_refl _)] at hac
        refine inPl (s10 _ _ ht) hO2 hac ?_
        refine ⟨rfl, ?_⟩
        refine ⟨_, s10 _ _ hO, Nat.lt_of_lt_of_le (show (List.replicate i (V.bl true)).length < 2000 by rw [List.length_replicate]; omega) (line_le (by decide)), same_put nO (s9.trans s10), ?_⟩
        rw [upd_same, List.replicate_succ']
        have e : decide (V.bl (if false = true then !(getE q es).isSome else (getE q es).isSome) = V.bl (getE q es).isSome) = true := decide_eq_true rfl
        rw [e]
    · rintro H9 ⟨s9, hO⟩
      refine ⟨O, List.replicate sp.length true, rfl, SqL.of (by rw [hO, List.map_replicate]), ?_⟩
      have e : (List.replicate sp.length true).all id = true := by simp
      first | rw [e] | skip
      exact k H9 (s18.trans s9)

abbrev s_Book_joined : Stmt := inClass (top 12) 12
theorem sc_Book_joined : FnScope ["self", "other", "place", "day", "number", "book", "source"] ["self", "other"] (defScope s_Book_joined) := ⟨rfl, rfl, rfl, by decide +kernel, rfl, by decide +kernel, by decide +kernel⟩
def sp_Book_joined (K : PySem.W.Frag) (ca : Nat → Addr) : Sp := fun vs H Q E => ∃ (p1 D1 p2 D2 : Addr) (es fs : Bk), vs = [.ref p1, .ref p2] ∧ BookAt ca H p1 D1 es ∧ BookAt ca H p2 D2 fs ∧ BkW es ∧ BkW fs ∧ es.length < 30 ∧ fs.length < 30 ∧
  (∀ q, clash1 es fs = some q → ∀ (e : Addr) (H' : Hp), Same H H' → H' e = some (.xd [("number", .int q.2), ("day", .int q.1)]) → E (.ref (ca 7)) (some e) H') ∧
  (clash1 es fs = none → ∀ (p D : Addr) (H' : Hp), H p = none → H D = none → Same H H' → BookAt ca H' p D (setAll (es ++ fs)) → BkW (setAll (es ++ fs)) → (setAll (es ++ fs)).length ≤ es.length + fs.length → Q (.ref p) H')
def preJ (es fs : Bk) : Nat → Bk
  | 0 => []
  | 1 => es
  | _ => es ++ fs
theorem ok_Book_joined {f : Addr} {fd : FuncData} (F : Fun K "joined" "Book.joined" s_Book_joined f fd) (T : Txt K mg ca) (O_Book_0 : OwnI P w K mg base 1 "Book" (ca 22) ["self"] [] (sp_Book_init K ca)) (O_BadEntry_init : OwnE P w K mg base "BadEntry" (ca 7) ["day", "number"]) (O_Book_places : OwnM P w K mg base 1 (ca 22) "places" ["self"] (sp_Book_places K ca)) (O_Book___contains__ : OwnM P w K mg base 1 (ca 22) "__contains__" ["self", "x"] (sp_Book_contains K ca)) (O_Book___getitem__ : OwnM P w K mg base 3 (ca 22) "__getitem__" ["self", "at"] (sp_Book_getitem K ca)) (O_Book___setitem__ : OwnM P w K mg base 3 (ca 22) "__setitem__" ["self", "at", "worth"] (sp_Book_setitem K ca)) : FnOk P w K mg base (L2N.CX P w) 5 f fd ["self", "other"] (sp_Book_joined K ca) := by
  refine okN F sc_Book_joined (fun vs H Q E h => ?_) (fun cdv A outer s H vs Q E hr h => ?_)
  · obtain ⟨_, _, _, _, _, _, rfl, _⟩ := h
    rfl
  · obtain ⟨p1, D1, p2, D2, es, fs, rfl, hB1, hB2, hw1, hw2, l1, l2, kE, k⟩ := h
    have ⟨⟨dx1, hp1⟩, _⟩ := id hB1
    have ⟨⟨dx2, hp2⟩, _⟩ := id hB2
    refine ⟨_, pss_cons (ps_for (passes_of rfl) rfl (pi_list (pe_ownm0 O_Book_places (pv 0) (hr.mono (by decide)) (pasE (L2N.takes_of rfl rfl rfl rfl)))) (pg_name (i := 2) sc_Book_joined.nd rfl (Or.inl rfl)) (pss_one (ps_if (PW.pt (pw_and (pt_cmpR (op_inOwn O_Book___contains__ (hr.mono (by decide)) (pasE (L2N.takes_of rfl rfl rfl rfl))) (pv 2) (pv 1) (by with_unfolding_all rfl)) (pw_and1 (pt_cmpR (op_neD (Room.units (hr.mono (Nat.zero_le _)))) (pe_ixOwn O_Book___getitem__ T.fg_Book (hr.mono (by decide)) (pasE (L2N.takes_of rfl rfl rfl rfl)) (pv 1) (pv 2) (fun _ _ => rfl)) (pe_ixOwn O_Book___getitem__ T.fg_Book (hr.mono (by decide)) (pasE (L2N.takes_of rfl rfl rfl rfl)) (pv 0) (pv 2) (fun _ _ => rfl)) (nomark _))))) (pss_cons (ps_asg (pv 2) (pg_tup rfl (pgs_cons (pg_name (i := 3) sc_Book_joined.nd rfl (Or.inl rfl)) (pgs_cons (pg_name (i := 4) sc_Book_joined.nd rfl (Or.inl rfl)) pgs_nil)))) (pss_one (ps_raiseE rfl O_BadEntry_init (hr.mono (by decide)) (L2N.takes_of rfl rfl rfl rfl) rfl (pa_cons (pv 3) (pa_cons (pv 4) pa_nil))))) pss_nil))) (pss_cons (ps_set (i := 5) sc_Book_joined.nd rfl (Or.inl rfl) (pe_owni0 O_Book_0 (hr.mono (by decide)) rfl (pasE (L2N.takes_of rfl rfl rfl rfl)))) (pss_cons (ps_for (passes_of rfl) rfl (pi_tup (pe_tup (pa_cons (pv 0) (pa_cons (pv 1) pa_nil)))) (pg_name (i := 6) sc_Book_joined.nd rfl (Or.inl rfl)) (pss_one (ps_for (passes_of rfl) rfl (pi_list (pe_ownm0 O_Book_places (pv 6) (hr.mono (by decide)) (pasE (L2N.takes_of rfl rfl rfl rfl)))) (pg_name (i := 2) sc_Book_joined.nd rfl (Or.inl rfl)) (pss_one (ps_asg (pe_ixOwn O_Book___getitem__ T.fg_Book (hr.mono (by decide)) (pasE (L2N.takes_of rfl rfl rfl rfl)) (pv 6) (pv 2) (fun _ _ => rfl)) (pg_sub (pv 5) (pv 2) (set_own O_Book___setitem__ T.nq_Book (hr.mono (by decide)) (pasE (L2N.takes_of rfl rfl rfl rfl))))))))) (pss_one (ps_ret (pv 5))))), ?_⟩
    fail "rd"
    refine ⟨p1, D1, es, rfl, hB1, hw1, by omega, fun l ys H1 nl s1 e1 hy => ?_⟩
    have hyl : ys.length = es.length := by rw [hy.length, List.length_map]
    fail "rd"
    refine for_list (K := K) (D := ⟨_, _, fun _ _ => True, fun _ _ => True⟩) (a := l) (xs := ys.map V.ref) (fun i σ' H' => ∃ (v2 v3 v4 v5 v6 : Option V), σ' = [some (.ref p1), some (.ref p2), v2, v3, v4, v5, v6] ∧ Same H1 H' ∧ ∀ e ∈ es.take i, clashE es fs e = false)
      ⟨_, _, _, _, _, rfl, Same.refl _, fun e m => by cases m⟩ (fun i σ' H' _ ⟨_, _, _, _, _, _, e, _⟩ => SqL.of (e _ _ e1)) ?_ ?_
    · rintro i x σ' H' hi ⟨v2, v3, v4, v5, v6, rfl, sH, hc⟩
      have li : i < ys.length := by rw [← List.length_map (f := V.ref)]; exact (List.getElem?_eq_some_iff.mp hi).1
      have le : i < es.length := by omega
      have he : es[i]? = some es[i] := List.getElem?_eq_getElem le
      have hyi : ys[i]? = some ys[i] := List.getElem?_eq_getElem li
      have hpl : PlR H1 ys[i] es[i].1 := paired_get hy hyi (show (es.map (·.1))[i]? = some es[i].1 by rw [List.getElem?_map, he]; rfl)
      obtain rfl : V.ref ys[i] = x := by
        rw [List.getElem?_map, hyi] at hi
        exact Option.some.inj hi
      have hts : es.take (i + 1) = es.take i ++ [es[i]] := by rw [List.take_add_one, he]; rfl
      have me : es[i] ∈ es := List.getElem_mem le
      have hg : getE es[i].1 es = some es[i].2 := (getE_mem hB1.2.asc).mpr me
      have hx1 := (hw1 _ me).2
      have fst : clashE es fs es[i] = true → clash1 es fs = some es[i].1 := fun z => by
        unfold clash1
        have e2 : es = es.take i ++ es[i] :: es.drop (i + 1) := by rw [List.getElem_cons_drop, List.take_append_drop]
        have e3 : es.find? (fun e => clashE es fs e) = some es[i] := by
          refine List.find?_eq_some_iff_append.mpr ⟨z, es.take i, es.drop (i + 1), e2, fun a m => by rw [hc a m]; rfl⟩
        rw [e3]
        rfl
      generalize ys[i] = y at hpl
      generalize es[i] = e at hpl hts me hg hx1 fst
      have hy1 : H' y = some (.tup [.int e.1.1, .int e.1.2]) := sH _ _ hpl
      have s01 := s1.trans sH
      have B1 := hB1.same s01
      have B2 := hB2.same s01
      have q1 := s01 _ _ hp1
      have q2 := s01 _ _ hp2
      fail "rd"
      refine ⟨p2, dx2, _, rfl, q2, p2, y, D2, fs, e.1, rfl, B2, hy1, _, rfl, ?_⟩
      cases hf : getE e.1 fs with
      | none =>
        have nc : clashE es fs e = false := by unfold clashE; rw [hf]
        fail "rd"
        refine ⟨_, _, _, _, _, rfl, sH, fun a m => ?_⟩
        rw [hts] at m
        rcases List.mem_append.mp m with m | m
        · exact hc a m
        · rw [List.mem_singleton.mp m]
          exact nc
      | some x2 =>
        have hx2 : EntOk x2 := (hw2 _ ((getE_mem hB2.2.asc).mp hf)).2
        fail "rd"
        refine ⟨p2, dx2, _, rfl, q2, p2, y, D2, fs, e.1, rfl, B2, hy1, (fun z => by rw [hf] at z; cases z), fun x3 hx3 a H3 s3 ha => ?_⟩
        rw [hf] at hx3
        cases hx3
        fail "rd"
        refine ⟨p1, dx1, _, rfl, s3 _ _ q1, p1, y, D1, es, e.1, rfl, B1.same s3, s3 _ _ hy1, (fun z => by rw [hg] at z; cases z), fun x3 hx3 a2 H4 s4 ha2 => ?_⟩
        rw [hg] at hx3
        cases hx3
        have s34 := s3.trans s4
        by_cases z : x2 = e.2
        · have nc : clashE es fs e = false := by unfold clashE; rw [hf]; exact decide_eq_false fun n => n z
          refine Da.neB (n := 1) (m := 1) (hx2.da (s4 _ _ ha)) (hx1.da ha2) (b := true) (by rw [dEnt_eqv hx2 hx1]; exact decide_eq_true z) ?_
          fail "rd"
          refine ⟨_, _, _, _, _, rfl, sH.trans s34, fun a m => ?_⟩
          rw [hts] at m
          rcases List.mem_append.mp m with m | m
          · exact hc a m
          · rw [List.mem_singleton.mp m]
            exact nc
        · have nc : clashE es fs e = true := by unfold clashE; rw [hf]; exact decide_eq_true z
          refine Da.neB (n := 1) (m := 1) (hx2.da (s4 _ _ ha)) (hx1.da ha2) (b := false) (by rw [dEnt_eqv hx2 hx1]; exact decide_eq_false z) ?_
          have hy4 := s34 _ _ hy1
          fail "rd"
          exact err_in rfl (by decide) fun er H5 _ s5 q5 => kE _ (fst nc) er H5 ((s01.trans s34).trans s5) q5
    · rintro σ' H' ⟨v2, v3, v4, v5, v6, rfl, sH, hc⟩
      fail "rd"
      have nc : clash1 es fs = none := by
        rw [List.length_map, hyl, List.take_length] at hc
        unfold clash1
        rw [Option.map_eq_none_iff, List.find?_eq_none]
        intro e m
        rw [hc e m]
        decide
      intro p dx np nd ne
      have n2 : upd H' dx (.own p) p = none := by rw [upd_ne ne.symm]; exact np
      refine ⟨p, dx, rfl, upd_same, fun D H2 nD k2 hB => ⟨rfl, ?_⟩⟩
      have s2 : Same H' H2 := same_made np nd ne k2
      have nDp : D ≠ p := fun z => by rw [z, upd_same] at nD; cases nD
      have nDx : D ≠ dx := fun z => by rw [z, upd_ne ne, upd_same] at nD; cases nD
      have nD0 : H' D = none := by rw [upd_ne nDp, upd_ne nDx] at nD; exact nD
      have s0' := s1.trans sH
      have np0 : H p = none := s0'.free np
      have nD00 : H D = none := s0'.free nD0
      have s02 := s0'.trans s2
      clear nD k2 nDx s2 hc sH
      fail "rd"
      intro tp n_tp
      generalize g_H3 : upd _ tp _ = H3
      obtain ⟨s_H3, e_tp⟩ := gen_new n_tp g_H3
      clear g_H3
      have s03 := s02.trans s_H3
      fail "rd"
      refine for_tup (K := K) (D := ⟨_, _, fun _ _ => True, fun _ _ => True⟩) (a := tp) (xs := [V.ref p1, .ref p2]) (fun i σ' H' => ∃ (v2 v3 v4 v6 : Option V), σ' = [some (.ref p1), some (.ref p2), v2, v3, v4, some (.ref p), v6] ∧ Same H H' ∧ H' tp = some (.tup [V.ref p1, .ref p2]) ∧ BookAt ca H' p D (setAll (preJ es fs i)) ∧ BkW (setAll (preJ es fs i)) ∧ (setAll (preJ es fs i)).length ≤ (preJ es fs i).length)
        ⟨_, _, _, _, rfl, s03, e_tp, hB.same s_H3, (fun e m => by cases m), Nat.le_refl _⟩ (fun i σ' H' _ ⟨_, _, _, _, _, _, e, _⟩ => SqT.of e) ?_ ?_
      · rintro i x σ' H4 hi ⟨v2, v3, v4, v6, rfl, s04, et4, hB4, hw4, hl4⟩
        obtain ⟨pS, DS, ss, rfl, hBS, hwS, lS, hpre, lpre⟩ : ∃ (pS DS : Addr) (ss : Bk), V.ref pS = x ∧ BookAt ca H pS DS ss ∧ BkW ss ∧ ss.length < 30 ∧ preJ es fs (i + 1) = preJ es fs i ++ ss ∧ (preJ es fs i).length < 30 := by
          match i, hi with
          | 0, hi => exact ⟨p1, D1, es, Option.some.inj hi, hB1, hw1, l1, rfl, show 0 < 30 by decide⟩
          | 1, hi => exact ⟨p2, D2, fs, Option.some.inj hi, hB2, hw2, l2, rfl, l1⟩
          | n + 2, hi => simp at hi
        rw [hpre]
        generalize preJ es fs i = gs at hB4 hw4 hl4 lpre
        have ⟨⟨dxS, hpS⟩, _⟩ := id hBS
        fail "rd"
        refine ⟨pS, DS, ss, rfl, hBS.same s04, hwS, by omega, fun l ys H5 nl5 s5 e5 hy5 => ?_⟩
        have hyl : ys.length = ss.length := by rw [hy5.length, List.length_map]
        fail "rd"
        refine for_list (K := K) (D := ⟨_, _, fun _ _ => True, fun _ _ => True⟩) (a := l) (xs := ys.map V.ref) (fun j σ' H' => ∃ (v2 v3 v4 : Option V), σ' = [some (.ref p1), some (.ref p2), v2, v3, v4, some (.ref p), some (.ref pS)] ∧ Same H H' ∧ H' tp = some (.tup [V.ref p1, .ref p2]) ∧ H' l = some (.lst (ys.map V.ref)) ∧ Paired (PlR H') ys (ss.map (·.1)) ∧ BookAt ca H' p D (setAll (gs ++ ss.take j)) ∧ BkW (setAll (gs ++ ss.take j)) ∧ (setAll (gs ++ ss.take j)).length ≤ gs.length + j)
          ⟨_, _, _, rfl, s04.trans s5, s5 _ _ et4, e5, hy5, by rw [List.take_zero, List.append_nil]; exact hB4.same s5, by rw [List.take_zero, List.append_nil]; exact hw4, by rw [List.take_zero, List.append_nil]; exact hl4⟩ (fun j σ' H' _ ⟨_, _, _, _, _, _, e, _⟩ => SqL.of e) ?_ ?_
        · rintro j x σ' H6 hj ⟨v2, v3, v4, rfl, s06, et6, e6, hy6, hB6, hw6, hl6⟩
          have lj : j < ys.length := by rw [← List.length_map (f := V.ref)]; exact (List.getElem?_eq_some_iff.mp hj).1
          have le : j < ss.length := by omega
          have he : ss[j]? = some ss[j] := List.getElem?_eq_getElem le
          have hyj : ys[j]? = some ys[j] := List.getElem?_eq_getElem lj
          have hpl : PlR H6 ys[j] ss[j].1 := paired_get hy6 hyj (show (ss.map (·.1))[j]? = some ss[j].1 by rw [List.getElem?_map, he]; rfl)
          obtain rfl : V.ref ys[j] = x := by
            rw [List.getElem?_map, hyj] at hj
            exact Option.some.inj hj
          have hts : gs ++ ss.take (j + 1) = gs ++ ss.take j ++ [ss[j]] := by rw [List.take_add_one, he, List.append_assoc]; rfl
          have me : ss[j] ∈ ss := List.getElem_mem le
          have hg : getE ss[j].1 ss = some ss[j].2 := (getE_mem hBS.2.asc).mpr me
          obtain ⟨h6, hx1⟩ := hwS _ me
          rw [hts, setAll_snoc]
          generalize ys[j] = y at hpl
          generalize ss[j] = e at hpl me hg hx1 h6
          have hy1 : H6 y = some (.tup [.int e.1.1, .int e.1.2]) := hpl
          have ⟨⟨dx6, hp6⟩, kv6, hD6, _⟩ := id hB6
          fail "rd"
          refine ⟨pS, dxS, _, rfl, s06 _ _ hpS, pS, y, DS, ss, e.1, rfl, hBS.same s06, hy1, (fun z => by rw [hg] at z; cases z), fun x3 hx3 a H7 s7 ha => ?_⟩
          rw [hg] at hx3
          cases hx3
          have D7 := s7 _ _ hD6
          fail "rd"
          refine ⟨p, dx6, _, rfl, s7 _ _ hp6, p, y, D, _, .int e.1.1, .int e.1.2, .ref a, true, rfl, hB6.same s7, s7 _ _ hy1, rfl, rfl, hx1.v ha, Nat.lt_of_le_of_lt hl6 (by omega), (fun z => by rw [whole_ok h6.1 h6.2.1, whole_ok h6.2.2.1 h6.2.2.2] at z; cases z), fun _ d' n' a' x' ed en ea hx' H8 k8 hB8 => ?_⟩
          cases ed
          cases en
          cases ea
          rw [ha] at hx'
          cases hx'
          refine ⟨_, _, _, rfl, fun b o q => k8 _ _ (s7 _ _ (s06 _ _ q)) (ne_of_none q nD00), k8 _ _ (s7 _ _ et6) (ne_of (s7 _ _ et6) D7 fun z => nomatch z), k8 _ _ (s7 _ _ e6) (ne_of (s7 _ _ e6) D7 fun z => nomatch z), Paired.mapP hy6 fun y q r => (PlR.keep (s7 _ _ r) D7 (fun _ z => nomatch z) k8), hB8, bkW_ins hB6.2.asc hw6 h6 hx1, Nat.le_trans len_insE (Nat.succ_le_succ hl6)⟩
        · rintro σ' H6 ⟨v2, v3, v4, rfl, s06, et6, e6, hy6, hB6, hw6, hl6⟩
          rw [List.length_map, hyl, List.take_length] at hB6 hw6 hl6
          fail "rd"
          exact ⟨_, _, _, _, rfl, s06, et6, hB6, hw6, by rw [List.length_append]; exact hl6⟩
      · rintro σ' H4 ⟨v2, v3, v4, v6, rfl, s04, et4, hB4, hw4, hl4⟩
        fail "rd"
        exact k nc p D H4 np0 nD00 s04 hB4 hw4 (by rw [← List.length_append]; exact hl4)

abbrev s_Book_remove : Stmt := inClass (top 12) 5
theorem sc_Book_remove : FnScope ["self", "day", "number"] ["self", "day", "number"] (defScope s_Book_remove) := ⟨rfl, rfl, rfl, by decide +kernel, rfl, by decide +kernel, by decide +kernel⟩
def sp_Book_remove (_ : PySem.W.Frag) (ca : Nat → Addr) : Sp := fun vs H Q E => ∃ (p D : Addr) (es : Bk) (q : Int × Int), vs = [.ref p, .int q.1, .int q.2] ∧ BookAt ca H p D es ∧
  (getE q es = none → ∀ (e : Addr) (H' : Hp), Same H H' → H' e = some (.xd [("number", .int q.2), ("day", .int q.1)]) → E (.ref (ca 8)) (some e) H') ∧
  (getE q es ≠ none → ∀ H' : Hp, Keep D H H' → BookAt ca H' p D (delE q es) → Q .non H')
theorem ok_Book_remove {f : Addr} {fd : FuncData} (F : Fun K "remove" "Book.remove" s_Book_remove f fd) (T : Txt K mg ca) (O_NoEntry_init : OwnE P w K mg base "NoEntry" (ca 8) ["day", "number"]) : FnOk P w K mg base (L2N.CX P w) 3 f fd ["self", "day", "number"] (sp_Book_remove K ca) := by
  refine okN F sc_Book_remove (fun vs H Q E h => ?_) (fun cdv A outer s H vs Q E hr h => ?_)
  · obtain ⟨_, _, _, _, rfl, _⟩ := h
    rfl
  · obtain ⟨p, D, es, q, rfl, hB, kE, k⟩ := h
    have ⟨⟨dx, hp⟩, kvs, hD, hk⟩ := id hB
    refine ⟨_, pss_cons (ps_if (pt_cmp (pc_dnotin (hu_of (hr.mono (Nat.zero_le _))) (pe_tup (pa_cons (pv 1) (pa_cons (pv 2) pa_nil))) (pe_fld (pv 0) rfl))) (pss_one (ps_raiseE rfl O_NoEntry_init (hr.mono (by decide)) (L2N.takes_of rfl rfl rfl rfl) rfl (pa_cons (pv 1) (pa_cons (pv 2) pa_nil)))) pss_nil) (pss_one (ps_ddelT (hu_of (hr.mono (Nat.zero_le _))) (pe_fld (pv 0) rfl) (pe_tup (pa_cons (pv 1) (pa_cons (pv 2) pa_nil))))), ?_⟩
    fail "rd"
    intro t1 n_t1
    generalize g_H1 : upd _ t1 _ = H1
    obtain ⟨s_H1, e_t1⟩ := gen_new n_t1 g_H1
    clear g_H1
    have hp1 := s_H1 _ _ hp
    have hD1 := s_H1 _ _ hD
    fail "rd"
    refine ⟨D, _, rfl, DGet.t (k := keyP q) hD1 e_t1, ?_⟩
    rcases hk.get q with ⟨e1, e2⟩ | ⟨v, x, e1, e2, a, rfl, ha⟩
    · rw [e1]
      fail "rd"
      exact err_in rfl (by decide) fun e H2 _ s2 q2 => kE e2 e H2 (s_H1.trans s2) q2
    · rw [e1]
      fail "rd"
      intro t2 n_t2
      generalize g_H2 : upd _ t2 _ = H2
      obtain ⟨s_H2, e_t2⟩ := gen_new n_t2 g_H2
      clear g_H2
      have s2 := s_H1.trans s_H2
      have hD2 := s2 _ _ hD
      have hp2 := s2 _ _ hp
      refine ⟨D, kvs, keyP q, t2, .ref a, rfl, hD2, rfl, e_t2, e1, ?_⟩
      have nt : D ≠ p := fun z => by rw [z, hp] at hD; cases hD
      exact k (by rw [e2]; exact fun z => nomatch z) _ ((Keep.of s2).trans keep_upd) ⟨⟨dx, une nt.symm hp2⟩, _, upd_same, (hk.same s2).del.keep hD2 (fun _ z => nomatch z) keep_upd⟩

abbrev s_l_joined_right : Stmt := top 27
theorem sc_l_joined_right : FnScope ["_law_one", "_law_other", "_law_kept_here", "_law_spots", "_law_due", "_law_both", "_law_again", "_law_item"] ["_law_one", "_law_other", "_law_kept_here", "_law_spots"] (defScope s_l_joined_right) := ⟨rfl, rfl, rfl, by decide +kernel, rfl, by decide +kernel, by decide +kernel⟩
def sp_l_joined_right (K : PySem.W.Frag) (ca : Nat → Addr) : Sp := fun vs H Q _ => ∃ (p1 D1 p2 D2 kh l0 l1 s : Addr) (es fs : Bk) (ys0 ys1 sp : List V) (qs : List (Int × Int)), vs = [.ref p1, .ref p2, .ref kh, .ref s] ∧ BookAt ca H p1 D1 es ∧ BookAt ca H p2 D2 fs ∧ D1 ≠ D2 ∧ BkW es ∧ BkW fs ∧ es.length < 12 ∧ fs.length < 28 ∧ clash1 es fs = none ∧ es ++ fs ≠ [] ∧ (∀ e ∈ es, e.1 ≠ (1000000, 8)) ∧
  H kh = some (.lst [.ref l0, .ref l1]) ∧ H l0 = some (.lst ys0) ∧ Kept H ys0 es ∧ H l1 = some (.lst ys1) ∧ Kept H ys1 fs ∧ H s = some (.lst sp) ∧ sp.length < 1000 ∧ Paired (fun x q => ∃ t, x = .ref t ∧ PlR H t q) sp qs ∧ ∀ H' : Hp, Q (.bl true) H'
theorem ok_l_joined_right {f : Addr} {fd : FuncData} (F : Fun K "_law_joined_right" "_law_joined_right" s_l_joined_right f fd) (T : Txt K mg ca) (O__law_kept : Own P w K mg base 5 "_law_kept" ["_law_book_here"] (sp_l_kept K ca)) (O__law_lists_right : Own P w K mg base 4 "_law_lists_right" ["_law_book_here", "_law_kept_here", "_law_spots"] (sp_l_lists_right K ca)) (O_Book_0 : OwnI P w K mg base 1 "Book" (ca 22) ["self"] [] (sp_Book_init K ca)) (O_Book___len__ : OwnM P w K mg base 1 (ca 22) "__len__" ["self"] (sp_Book_len K ca)) (O_Book___setitem__ : OwnM P w K mg base 3 (ca 22) "__setitem__" ["self", "at", "worth"] (sp_Book_setitem K ca)) (O_Book_joined : OwnM P w K mg base 5 (ca 22) "joined" ["self", "other"] (sp_Book_joined K ca)) (O_Book_remove : OwnM P w K mg base 3 (ca 22) "remove" ["self", "day", "number"] (sp_Book_remove K ca)) : FnOk P w K mg base (L2N.CX P w) 6 f fd ["_law_one", "_law_other", "_law_kept_here", "_law_spots"] (sp_l_joined_right K ca) := by
  refine okN F sc_l_joined_right (fun vs H Q E h => ?_) (fun cdv A outer s H vs Q E hr h => ?_)
  · obtain ⟨_, _, _, _, _, _, _, _, _, _, _, _, _, _, rfl, _⟩ := h
    rfl
  · obtain ⟨p1, D1, p2, D2, kh, l0, l1, s, es, fs, ys0, ys1, sp, qs, rfl, hB1, hB2, nD, hw1, hw2, ln1, ln2, hc, hne, hnew, hkh, h0, K0, h1, K1, hs, hsl, hq, k⟩ := h
    have ⟨⟨dx1, hp1⟩, _⟩ := id hB1
    have ⟨⟨dx2, hp2⟩, _⟩ := id hB2
    have A1 := hB1.2.asc
    have A2 := hB2.2.asc
    have ok1 : ∀ e ∈ es, EntOk e.2 := fun e m => (hw1 e m).2
    have ok2 : ∀ e ∈ fs, EntOk e.2 := fun e m => (hw2 e m).2
    refine ⟨_, pss_cons (ps_set (i := 4) sc_l_joined_right.nd rfl (Or.inl rfl) (pe_callB (cr_sortedPE (Room.units (hr.mono (Nat.zero_le _)))) (by rfl) T.b_sorted (by decide +kernel) (pa_cons (pe_op op_cat (pe_ix ix_list (pv 2) pe_int (fun _ _ => rfl)) (pe_lc (own := [("_law_item", 7)]) (g := gName 7) rfl sc_l_joined_right.nd (pi_list (pe_ix ix_list (pv 2) pe_int (fun _ _ => rfl))) (blkOk_by (N := ["_law_one", "_law_other", "_law_kept_here", "_law_spots", "_law_due", "_law_both", "_law_again", "_law_item"]) (sc := defScope s_l_joined_right) (by decide +kernel)) (fun _ _ _ _ _ => pg_name (i := 7) sc_l_joined_right.nd rfl (Or.inl rfl)) (fun _ _ _ _ _ => pts_one (pt_cmpR (show OpR _ _ (rNotInD K) from op_notInD (by have hu := room65 (hr.mono (Nat.zero_le _)); exact hu)) (pv 7) (pe_ix (r := rIxL K) ix_list (pv 2) pe_int (fun _ _ => rfl)) (by with_unfolding_all rfl))) (fun _ _ _ _ _ => pv 7))) pa_nil))) (pss_cons (ps_for (passes_of rfl) rfl (pi_list (pe_lst (pa_cons (pe_ownm O_Book_joined (pv 0) (hr.mono (by decide)) pas0 (pa_cons (pv 1) pa_nil)) (pa_cons (pe_ownm O_Book_joined (pv 1) (hr.mono (by decide)) pas0 (pa_cons (pv 0) pa_nil)) (pa_cons (pe_ownm O_Book_joined (pe_ownm O_Book_joined (pv 0) (hr.mono (by decide)) pas0 (pa_cons (pe_owni0 O_Book_0 (hr.mono (by decide)) rfl pas0) pa_nil)) (hr.mono (by decide)) pas0 (pa_cons (pv 1) pa_nil)) pa_nil))))) (pg_name (i := 5) sc_l_joined_right.nd rfl (Or.inl rfl)) (pss_cons (ps_if (PW.pt (pw_or (pt_not (pt_val (pe_own O__law_lists_right (hr.mono (by decide)) rfl pas0 (pa_cons (pv 5) (pa_cons (pv 4) (pa_cons (pv 3) pa_nil)))))) (pw_or1 (pt_cmpR (op_neD (Room.units (hr.mono (Nat.zero_le _)))) (pe_own O__law_kept (hr.mono (by decide)) rfl pas0 (pa_cons (pv 5) pa_nil)) (pv 4) (nomark _))))) (pss_one (ps_ret pe_bl)) pss_nil) (pss_cons (ps_asg (pe_tup (pa_cons pe_str (pa_cons pe_str (pa_cons pe_str pa_nil)))) (pg_sub (pv 5) (pe_tup (pa_cons pe_int (pa_cons pe_int pa_nil))) (set_own O_Book___setitem__ T.nq_Book (hr.mono (by decide)) pas0))) (pss_one (ps_if (pt_cmpR (op_neD (Room.units (hr.mono (Nat.zero_le _)))) (pe_lst (pa_cons (pe_own O__law_kept (hr.mono (by decide)) rfl pas0 (pa_cons (pv 0) pa_nil)) (pa_cons (pe_own O__law_kept (hr.mono (by decide)) rfl pas0 (pa_cons (pv 1) pa_nil)) pa_nil))) (pv 2) (nomark _)) (pss_one (ps_ret pe_bl)) pss_nil))))) (pss_cons (ps_set (i := 5) sc_l_joined_right.nd rfl (Or.inl rfl) (pe_ownm O_Book_joined (pv 0) (hr.mono (by decide)) pas0 (pa_cons (pv 1) pa_nil))) (pss_cons (ps_set (i := 6) sc_l_joined_right.nd rfl (Or.inl rfl) (pe_ownm O_Book_joined (pv 0) (hr.mono (by decide)) pas0 (pa_cons (pv 0) pa_nil))) (pss_cons (ps_if (pt_cmpR (op_neD (Room.units (hr.mono (Nat.zero_le _)))) (pe_own O__law_kept (hr.mono (by decide)) rfl pas0 (pa_cons (pv 6) pa_nil)) (pe_ix ix_list (pv 2) pe_int (fun _ _ => rfl)) (nomark _)) (pss_one (ps_ret pe_bl)) pss_nil) (pss_cons (ps_asg (pe_tup (pa_cons pe_str (pa_cons pe_str (pa_cons pe_str pa_nil)))) (pg_sub (pv 6) (pe_tup (pa_cons pe_int (pa_cons pe_int pa_nil))) (set_own O_Book___setitem__ T.nq_Book (hr.mono (by decide)) pas0))) (pss_cons (ps_asg (pe_tup (pa_cons pe_str (pa_cons pe_str (pa_cons pe_str pa_nil)))) (pg_sub (pv 0) (pe_tup (pa_cons pe_int (pa_cons pe_int pa_nil))) (set_own O_Book___setitem__ T.nq_Book (hr.mono (by decide)) pas0))) (pss_cons (ps_expr (pe_ownm O_Book_remove (pv 5) (hr.mono (by decide)) pas0 (pa_cons (pe_ix ix_tup (pe_ix ix_tup (pe_ix ix_list (pv 4) pe_int (fun _ _ => rfl)) pe_int (fun _ _ => rfl)) pe_int (fun _ _ => rfl)) (pa_cons (pe_ix ix_tup (pe_ix ix_tup (pe_ix ix_list (pv 4) pe_int (fun _ _ => rfl)) pe_int (fun _ _ => rfl)) pe_int (fun _ _ => rfl)) pa_nil)))) (pss_one (ps_ret (pe_and (pe_cmpR (op_eqD (Room.units (hr.mono (Nat.zero_le _)))) (pe_own O__law_kept (hr.mono (by decide)) rfl pas0 (pa_cons (pv 5) pa_nil)) (pe_slice sl_list (pv 4) (po_some pe_int) po_none) (nomark _)) (pe_and (pe_cmpR (op_eqD (Room.units (hr.mono (Nat.zero_le _)))) (pe_own O__law_kept (hr.mono (by decide)) rfl pas0 (pa_cons (pv 1) pa_nil)) (pe_ix ix_list (pv 2) pe_int (fun _ _ => rfl)) (nomark _)) (pe_one (pe_cmpR op_eq (pe_callB (call_lenOwn O_Book___len__ (hr.mono (by decide)) pas0) (by rfl) T.b_len (by decide +kernel) (pa_cons (pv 0) pa_nil)) (pe_op op_add (pe_callB call_len_seq (by rfl) T.b_len (by decide +kernel) (pa_cons (pe_ix ix_list (pv 2) pe_int (fun _ _ => rfl)) pa_nil)) pe_int) (nomark _)))))))))))))), ?_⟩
    fail "rd"
    intro O nO
    refine lc_list (K := K) (a := l1) (xs := ys1) (fun j H' => Same H H' ∧ ∃ acc, H' O = some (.lst acc) ∧ acc.length ≤ j ∧ Kept H' acc ((fs.take j).filter fun f => !decide (f ∈ es))) ⟨same_upd nO, [], upd_same, Nat.le_refl _, .nil⟩ (fun j H' _ s => SqL.of (s.1 _ _ h1)) ?_ ?_
    · rintro j v H' hj ⟨sH, acc, hO, la, hk⟩
      have lj : j < fs.length := by rw [← K1.length]; exact (List.getElem?_eq_some_iff.mp hj).1
      have ge : fs[j]? = some fs[j] := List.getElem?_eq_getElem lj
      have okf := ok2 _ (List.getElem_mem lj)
      have kr : KepR H' v fs[j] := KepR.same (paired_get K1 hj ge) sH
      have hdel : ((fs.take (j + 1)).filter fun f => !decide (f ∈ es)) = ((fs.take j).filter fun f => !decide (f ∈ es)) ++ (if fs[j] ∈ es then [] else [fs[j]]) := by
        rw [List.take_add_one, ge, List.filter_append]
        congr 1
        by_cases z : fs[j] ∈ es <;> simp [z]
      generalize fs[j] = e at kr hdel okf
      have kr2 := kr
      obtain ⟨tt, qq, aa, rfl, g1, g2, g3⟩ := kr
      have E1 : Da K H' (.ref tt) (dKep e) 2 := .tup (.cons (.tup (.cons .int (.cons .int .nil)) (SqT.of g2)) (.cons (okf.da g3) .nil)) (SqT.of g1)
      have E2 : Da K H' (.ref l0) (.list (es.map dKep)) 3 := .lst (keptDa (K0.same sH) ok1) (SqL.of (sH _ _ h0))
      fail "rd"
      refine ⟨_, _, E1.dp, E2.dp, E1.shaped, E2.shaped, ?_⟩
      rw [in_kept okf ok1]
      by_cases z : e ∈ es
      · rw [if_pos z, List.append_nil] at hdel
        rw [decide_eq_true z]
        fail "rd"
        exact ⟨sH, acc, hO, Nat.le_succ_of_le la, by rw [hdel]; exact hk⟩
      · rw [if_neg z] at hdel
        rw [decide_eq_false z]
        fail "rd"
        refine ⟨acc, hO, Nat.lt_of_lt_of_le (show acc.length < 2000 by omega) (line_le (by decide)), same_put nO sH, acc ++ [V.ref tt], upd_same, by simp; omega, ?_⟩
        rw [hdel]
        exact Paired.snoc (hk.keep hO (fun _ z => nomatch z) keep_upd) (kr2.keep hO (fun _ z => nomatch z) keep_upd)
    · rintro H' ⟨sH, acc, hO, la, hk⟩
      rw [List.take_of_length_le (by rw [K1.length]; exact Nat.le_refl _)] at hk
      fail "rd"
      have lc : ys0.length + acc.length ≤ sizeLine := Nat.le_trans (show ys0.length + acc.length ≤ 1000 by have := K0.length; have := K1.length; omega) (line_le (by decide))
      refine ⟨_, _, _, _, rfl, rfl, sH _ _ h0, hO, lc, ?_⟩
      intro cl n_cl
      generalize g_H2 : upd _ cl _ = H2
      obtain ⟨s_H2, e_cl⟩ := gen_new n_cl g_H2
      clear g_H2
      have s2 := sH.trans s_H2
      obtain ⟨pm, pn⟩ := join_perm A1 A2 hc
      obtain ⟨AJ, mJ⟩ := setAll_ok (fit_join A1 A2 hc)
      have KC : Kept H2 (ys0 ++ acc) (es ++ fs.filter fun f => !decide (f ∈ es)) := paired_app (K0.same s2) (hk.same s_H2)
      fail "rd"
      refine sortKept e_cl KC pn pm AJ fun ysd ld Kd nld => ?_
      generalize g_H3 : upd H2 ld _ = H3
      obtain ⟨s_H3, e_ld⟩ := gen_new nld g_H3
      clear g_H3
      have s3 := s2.trans s_H3
      have Kd := Kd.same s_H3
      have okJ : ∀ e ∈ setAll (es ++ fs), EntOk e.2 := fun e m => ((List.mem_append.mp ((mJ e).mp m)).elim (ok1 e) (ok2 e))
      have lJ : (setAll (es ++ fs)).length ≤ es.length + fs.length := by
        have := pm.length_eq
        rw [this, List.length_append]
        have := List.length_filter_le (fun f => !decide (f ∈ es)) fs
        omega
      clear KC pm pn e_cl nld s_H2 s_H3 s2 hk hO sH la nO lc
      fail "rd"
      refine ⟨p1, D1, p2, D2, es, fs, rfl, hB1.same s3, hB2.same s3, hw1, hw2, by omega, by omega, (fun q z => by rw [hc] at z; cases z), fun _ pa Da' H4 npa nDa s4 hBa hwJ lJ' => ?_⟩
      fail "rd"
      refine ⟨p2, D2, p1, D1, fs, es, rfl, (hB2.same s3).same s4, (hB1.same s3).same s4, hw2, hw1, by omega, by omega, (fun q z => by rw [clash_sym A1 A2 hc] at z; cases z), fun _ pb Db H5 npb nDb s5 hBb _ _ => ?_⟩
      rw [join_comm A1 A2 hc] at hBb
      obtain ⟨kva, hBa0⟩ := hBa.2.dT
      have hBa0 := hBa0
      obtain ⟨kvb, hBb0⟩ := hBb.2.dT
      fail "rd"
      intro p0 dx0 np0 nd0 ne0
      have n20 : upd H5 dx0 (.own p0) p0 = none := by rw [upd_ne ne0.symm]; exact np0
      refine ⟨p0, dx0, rfl, upd_same, fun D0 H6 nD0 k6 hB0 => ⟨rfl, ?_⟩⟩
      have s6 : Same H5 H6 := same_made np0 nd0 ne0 k6
      have s36 := (s4.trans s5).trans s6
      have s06 := s3.trans s36
      clear np0 nd0 ne0 n20 nD0 k6
      fail "rd"
      refine ⟨p1, D1, p0, D0, es, [], rfl, hB1.same s06, hB0, hw1, (fun e m => by cases m), by omega, by decide, (fun q z => by rw [clash_nil] at z; cases z), fun _ pj Dj H7 npj nDj s7 hBj hwj lj => ?_⟩
      rw [List.append_nil, setAll_asc A1] at hBj hwj
      fail "rd"
      have ⟨⟨dxj, hpj⟩, _⟩ := id hBj
      refine ⟨pj, dxj, _, rfl, hpj, rfl, ?_⟩
      fail "rd"
      refine ⟨pj, Dj, p2, D2, es, fs, rfl, hBj, (hB2.same s06).same s7, hw1, hw2, by omega, by omega, (fun q z => by rw [hc] at z; cases z), fun _ pc Dc H8 npc nDc s8 hBc _ _ => ?_⟩
      fail "rd"
      intro tl n_tl
      generalize g_H9 : upd _ tl _ = H9
      obtain ⟨s_H9, e_tl⟩ := gen_new n_tl g_H9
      clear g_H9
      have s49 := ((s5.trans s6).trans (s7.trans s8)).trans s_H9
      have s39 := s4.trans s49
      have hBa := hBa.same s49
      have hBb := hBb.same (((s6.trans s7).trans s8).trans s_H9)
      have hBc := hBc.same s_H9
      have nab : Da' ≠ Db := ne_of_none hBa0 nDb
      have nac : Da' ≠ Dc := ne_of_none (((s5.trans s6).trans s7) _ _ hBa0) nDc
      have nbc : Db ≠ Dc := ne_of_none ((s6.trans s7) _ _ hBb0) nDc
      have fa : H3 Da' = none := nDa
      have fb : H3 Db = none := s4.free nDb
      have fc : H3 Dc = none := ((s4.trans s5).trans (s6.trans s7)).free nDc
      have hs3 := s3 _ _ hs
      have hq3 : Paired (fun x q => ∃ t, x = .ref t ∧ PlR H3 t q) sp qs := Paired.mapP hq fun _ _ ⟨t, e, r⟩ => ⟨t, e, s3 _ _ r⟩
      have hB13 := hB1.same s3
      have hB23 := hB2.same s3
      have hkh3 := s3 _ _ hkh
      have h03 := s3 _ _ h0
      have h13 := s3 _ _ h1
      have K03 := K0.same s3
      have K13 := K1.same s3
      have np1 := s3 _ _ hp1
      have oc : EntOk [.str "late", .str "cost", .str "lot"] := ⟨_, _, _, rfl, ⟨by decide +kernel, by decide +kernel, by unfold Lets; decide +kernel⟩, .inl ⟨rfl, _, rfl, ⟨by decide +kernel, by decide +kernel, by unfold Lets; decide +kernel⟩⟩⟩
      clear hBa0 hBb0 hBj hwj lj hpj hB0 npa npb npc npj nDa nDb nDc nDj s4 s5 s6 s7 s8 s_H9 s49 s36 s06 hB1 hB2 hkh h0 h1 K0 K1 hs hq hp1 hp2 s3
      refine ⟨tl, rfl, ⟨_, SqL.of e_tl⟩, for_list (K := K) (D := ⟨_, _, fun _ _ => True, fun _ _ => True⟩) (a := tl) (xs := [V.ref pa, .ref pb, .ref pc]) (fun i σ' H' => ∃ (v5 v6 v7 : Option V), σ' = [some (.ref p1), some (.ref p2), some (.ref kh), some (.ref s), some (.ref ld), v5, v6, v7] ∧ Same H3 H' ∧ H' tl = some (.lst [V.ref pa, .ref pb, .ref pc]) ∧ ∀ j pd, i ≤ j → [(pa, Da'), (pb, Db), (pc, Dc)][j]? = some pd → BookAt ca H' pd.1 pd.2 (setAll (es ++ fs)))
        ⟨_, _, _, rfl, s39, e_tl, fun j pd _ hj => ?_⟩ (fun i σ' H' _ ⟨_, _, _, _, _, e, _⟩ => SqL.of e) ?_ ?_⟩
      · match j, hj with
        | 0, hj => cases hj; exact hBa
        | 1, hj => cases hj; exact hBb
        | 2, hj => cases hj; exact hBc
        | n + 3, hj => simp at hj
      · rintro i x σ' H10 hi ⟨v5, v6, v7, rfl, s10, et10, hBs⟩
        obtain ⟨pi, Di, hpd, rfl, fi, nj⟩ : ∃ pi Di, [(pa, Da'), (pb, Db), (pc, Dc)][i]? = some (pi, Di) ∧ V.ref pi = x ∧ H3 Di = none ∧ ∀ j pd, i + 1 ≤ j → [(pa, Da'), (pb, Db), (pc, Dc)][j]? = some pd → pd.2 ≠ Di := by
          match i, hi with
          | 0, hi => exact ⟨pa, Da', rfl, Option.some.inj hi, fa, fun j pd l hj => by
              match j, l, hj with
              | 1, _, hj => cases hj; exact nab.symm
              | 2, _, hj => cases hj; exact nac.symm
              | n + 3, _, hj => simp at hj⟩
          | 1, hi => exact ⟨pb, Db, rfl, Option.some.inj hi, fb, fun j pd l hj => by
              match j, l, hj with
              | 2, _, hj => cases hj; exact nbc.symm
              | n + 3, _, hj => simp at hj⟩
          | 2, hi => exact ⟨pc, Dc, rfl, Option.some.inj hi, fc, fun j pd l hj => by
              match j, l, hj with
              | n + 3, _, hj => simp at hj⟩
          | n + 3, hi => simp at hi
        have hBi := hBs i (pi, Di) (Nat.le_refl _) hpd
        have ⟨⟨dxi, hpi⟩, kvi, hDi, _⟩ := id hBi
        fail "rd"
        refine ⟨pi, Di, ld, s, ysd, setAll (es ++ fs), sp, qs, rfl, hBi, hwJ, by omega, s10 _ _ e_ld, Kd.same s10, s10 _ _ hs3, hsl, Paired.mapP hq3 fun _ _ ⟨t, e, r⟩ => ⟨t, e, s10 _ _ r⟩, fun H11 s11 => ?_⟩
        have s311 := s10.trans s11
        fail "rd"
        refine ⟨pi, Di, _, rfl, hBi.same s11, hwJ, by omega, fun l6 ys6 H12 n6 s12 e6 K6 => ?_⟩
        have s312 := s311.trans s12
        fail "rd"
        refine Da.ne (n := 3) (m := 3) (.lst (keptDa K6 okJ) (SqL.of e6)) (.lst (keptDa (Kd.same s312) okJ) (SqL.of (s312 _ _ e_ld))) ?_
        clear e6 K6 n6
        fail "rd"
        intro en n_en
        generalize g_H13 : upd _ en _ = H13
        obtain ⟨s_H13, e_en⟩ := gen_new n_en g_H13
        clear g_H13
        fail "rd"
        intro pn n_pn
        generalize g_H14 : upd _ pn _ = H14
        obtain ⟨s_H14, e_pn⟩ := gen_new n_pn g_H14
        clear g_H14
        have s1014 := ((s11.trans s12).trans s_H13).trans s_H14
        have s314 := s10.trans s1014
        have een := s_H14 _ _ e_en
        have hDi14 := s1014 _ _ hDi
        refine ⟨pi, dxi, _, rfl, s1014 _ _ hpi, pi, pn, Di, _, .int 1000000, .int 7, .ref en, true, rfl, hBi.same s1014, e_pn, rfl, rfl, oc.v een, by omega, (fun z => by rw [whole_ok (by decide) (by decide), whole_ok (by decide) (by decide)] at z; cases z), fun _ d' n' a' x' ed en' ea hx' H15 k15 hB15 => ?_⟩
        clear ed en' ea hx' hB15 d' n' a' x'
        have s315 : Same H3 H15 := fun b o q => k15 _ _ (s314 _ _ q) (ne_of_none q fi)
        have et15 := k15 _ _ (s1014 _ _ et10) (ne_of (s1014 _ _ et10) hDi14 fun z => nomatch z)
        have hBs15 : ∀ j pd, i + 1 ≤ j → [(pa, Da'), (pb, Db), (pc, Dc)][j]? = some pd → BookAt ca H15 pd.1 pd.2 (setAll (es ++ fs)) := fun j pd l hj => ((hBs j pd (by omega) hj).same s1014).putD (nj j pd l hj) hDi14 k15
        clear hBs et10 hBi hpi hDi hDi14 s1014 s314 s_H13 s_H14 s12 s11 s312 s311 k15 een s10
        fail "rd"
        refine ⟨p1, D1, es, rfl, hB13.same s315, hw1, by omega, fun l7 ys7 H16 n7 s16 e7 K7 => ?_⟩
        fail "rd"
        refine ⟨p2, D2, fs, rfl, (hB23.same s315).same s16, hw2, by omega, fun l8 ys8 H17 n8 s17 e8 K8 => ?_⟩
        fail "rd"
        intro kl n_kl
        generalize g_H18 : upd _ kl _ = H18
        obtain ⟨s_H18, e_kl⟩ := gen_new n_kl g_H18
        clear g_H18
        have s1518 := (s16.trans s17).trans s_H18
        have s318 := s315.trans s1518
        fail "rd"
        refine Da.ne (n := 4) (m := 4) (.lst (.cons (.lst (keptDa (K7.same (s17.trans s_H18)) ok1) (SqL.of (s_H18 _ _ (s17 _ _ e7)))) (.cons (.lst (keptDa (K8.same s_H18) ok2) (SqL.of (s_H18 _ _ e8))) .nil)) (SqL.of e_kl)) (.lst (.cons (.lst (keptDa (K03.same s318) ok1) (SqL.of (s318 _ _ h03))) (.cons (.lst (keptDa (K13.same s318) ok2) (SqL.of (s318 _ _ h13))) .nil)) (SqL.of (s318 _ _ hkh3))) ?_
        fail "rd"
        exact ⟨_, _, _, rfl, s318, s1518 _ _ et15, fun j pd l hj => (hBs15 j pd l hj).same s1518⟩
      · rintro σ' H10 ⟨v5, v6, v7, rfl, s10, et10, hBs⟩
        clear hBs et10 hBa hBb hBc nab nac nbc e_tl s39 fa fb fc
        fail "rd"
        have hB1a := hB13.same s10
        have hB2a := hB23.same s10
        refine ⟨p1, D1, p2, D2, es, fs, rfl, hB1a, hB2a, hw1, hw2, by omega, by omega, (fun q z => by rw [hc] at z; cases z), fun _ pb Db H11 npb nDb s11 hBb _ _ => ?_⟩
        fail "rd"
        refine ⟨p1, D1, p1, D1, es, es, rfl, hB1a.same s11, hB1a.same s11, hw1, hw1, by omega, by omega, (fun q z => by rw [clash_self A1] at z; cases z), fun _ pc Dc H12 npc nDc s12 hBc hwc _ => ?_⟩
        rw [join_self A1] at hBc hwc
        have s312 := (s10.trans s11).trans s12
        obtain ⟨kvb, hDb⟩ := hBb.2.dT
        have nbc : Db ≠ Dc := ne_of_none hDb nDc
        obtain ⟨kv1, hD1⟩ := hB13.2.dT
        obtain ⟨kv2, hD2⟩ := hB23.2.dT
        have n1b : D1 ≠ Db := ne_of_none (s10 _ _ hD1) nDb
        have n1c : D1 ≠ Dc := ne_of_none (s11 _ _ (s10 _ _ hD1)) nDc
        have n2b : D2 ≠ Db := ne_of_none (s10 _ _ hD2) nDb
        have n2c : D2 ≠ Dc := ne_of_none (s11 _ _ (s10 _ _ hD2)) nDc
        have hBb := hBb.same s12
        fail "rd"
        refine ⟨pc, Dc, es, rfl, hBc, hwc, by omega, fun l6 ys6 H13 n6 s13 e6 K6 => ?_⟩
        have s313 := s312.trans s13
        have hkh13 := s313 _ _ hkh3
        have h013 := s313 _ _ h03
        fail "rd"
        refine Da.ne (n := 3) (m := 3) (.lst (keptDa K6 ok1) (SqL.of e6)) (.lst (keptDa (K03.same s313) ok1) (SqL.of h013)) ?_
        have hBb := hBb.same s13
        have hBc := hBc.same s13
        have hBO := hB13.same s313
        have hBT := hB23.same s313
        clear e6 K6 n6 hB1a hB2a npb nDb npc nDc s10 s11 s12 s13 s312 hDb hD1 hD2 hB13 hB23
        fail "rd"
        intro e1 n_e1
        generalize g_H14 : upd _ e1 _ = H14
        obtain ⟨s_H14, e_e1⟩ := gen_new n_e1 g_H14
        clear g_H14
        fail "rd"
        intro q1 n_q1
        generalize g_H15 : upd _ q1 _ = H15
        obtain ⟨s_H15, e_q1⟩ := gen_new n_q1 g_H15
        clear g_H15
        have s15 := s_H14.trans s_H15
        have ⟨⟨dxc, hpc⟩, kvc, hDc, _⟩ := id (hBc.same s15)
        refine ⟨pc, dxc, _, rfl, hpc, pc, q1, Dc, _, .int 1000000, .int 9, .ref e1, true, rfl, hBc.same s15, e_q1, rfl, rfl, oc.v (s_H15 _ _ e_e1), by omega, (fun z => by rw [whole_ok (by decide) (by decide), whole_ok (by decide) (by decide)] at z; cases z), fun _ d' n' a' x' ed en' ea hx' H16 k16 hB16 => ?_⟩
        clear ed en' ea hx' hB16 d' n' a' x'
        have keep : ∀ {b : Addr} {o : HO}, H13 b = some o → b ≠ Dc → H16 b = some o := fun q n => k16 _ _ (s15 _ _ q) n
        have hBb16 := (hBb.same s15).putD nbc hDc k16
        have hBO16 := (hBO.same s15).putD n1c hDc k16
        have hBT16 := (hBT.same s15).putD n2c hDc k16
        have hkh16 := keep hkh13 (ne_of (s15 _ _ hkh13) hDc fun z => nomatch z)
        have h016 := keep h013 (ne_of (s15 _ _ h013) hDc fun z => nomatch z)
        have h116 := keep (s313 _ _ h13) (ne_of (s15 _ _ (s313 _ _ h13)) hDc fun z => nomatch z)
        have eld16 := keep (s313 _ _ e_ld) (ne_of (s15 _ _ (s313 _ _ e_ld)) hDc fun z => nomatch z)
        have K016 := ((K03.same s313).same s15).keep hDc (fun _ z => nomatch z) k16
        have K116 := ((K13.same s313).same s15).keep hDc (fun _ z => nomatch z) k16
        have Kd16 := ((Kd.same s313).same s15).keep hDc (fun _ z => nomatch z) k16
        clear keep k16 s15 s_H14 s_H15 hDc hpc hBb hBc hBO hBT hkh13 h013 s313 e_e1 e_q1
        fail "rd"
        intro e2 n_e2
        generalize g_H17 : upd _ e2 _ = H17
        obtain ⟨s_H17, e_e2⟩ := gen_new n_e2 g_H17
        clear g_H17
        fail "rd"
        intro q2 n_q2
        generalize g_H18 : upd _ q2 _ = H18
        obtain ⟨s_H18, e_q2⟩ := gen_new n_q2 g_H18
        clear g_H18
        have s18 := s_H17.trans s_H18
        have ⟨⟨dxo, hpo⟩, kvo, hDo, _⟩ := id (hBO16.same s18)
        refine ⟨p1, dxo, _, rfl, hpo, p1, q2, D1, _, .int 1000000, .int 8, .ref e2, true, rfl, hBO16.same s18, e_q2, rfl, rfl, oc.v (s_H18 _ _ e_e2), by omega, (fun z => by rw [whole_ok (by decide) (by decide), whole_ok (by decide) (by decide)] at z; cases z), fun _ d' n' a' x' ed en' ea hx' H19 k19 hB19 => ?_⟩
        cases ed
        cases en'
        have keep : ∀ {b : Addr} {o : HO}, H16 b = some o → b ≠ D1 → H19 b = some o := fun q n => k19 _ _ (s18 _ _ q) n
        have hBb19 := (hBb16.same s18).putD n1b.symm hDo k19
        have hBT19 := (hBT16.same s18).putD nD.symm hDo k19
        have hkh19 := keep hkh16 (ne_of (s18 _ _ hkh16) hDo fun z => nomatch z)
        have h019 := keep h016 (ne_of (s18 _ _ h016) hDo fun z => nomatch z)
        have h119 := keep h116 (ne_of (s18 _ _ h116) hDo fun z => nomatch z)
        have eld19 := keep eld16 (ne_of (s18 _ _ eld16) hDo fun z => nomatch z)
        have K119 := (K116.same s18).keep hDo (fun _ z => nomatch z) k19
        have Kd19 := (Kd16.same s18).keep hDo (fun _ z => nomatch z) k19
        have lO := len_new (x := x') A1 hnew
        clear keep k19 s18 s_H17 s_H18 hDo hpo hBb16 hBO16 hBT16 hkh16 h016 h116 eld16 K016 K116 Kd16 ea hx' e_e2 e_q2
        obtain ⟨j, js, eJ⟩ : ∃ j js, setAll (es ++ fs) = j :: js := by
          cases e : setAll (es ++ fs) with
          | nil =>
            exfalso
            obtain ⟨a, r, er⟩ := List.exists_cons_of_ne_nil hne
            have := (mJ a).mpr (by rw [er]; exact List.mem_cons_self)
            rw [e] at this
            cases this
          | cons j js => exact ⟨j, js, rfl⟩
        rw [eJ] at AJ okJ lJ hBb19 Kd19 hwJ
        obtain ⟨v0, vs, rfl, r, tK⟩ : ∃ v0 vs, ysd = v0 :: vs ∧ KepR H19 v0 j ∧ Kept H19 vs js := by
          cases Kd19 with
          | cons r t => exact ⟨_, _, rfl, r, t⟩
        · obtain ⟨tj, qj, aj, rfl, g1, g2, g3⟩ := r
          have g2' : H19 qj = some (.tup [.int j.1.1, .int j.1.2]) := g2
          fail "rd"
          have ⟨⟨dxb, hpb⟩, kvb, hDb, _⟩ := id hBb19
          refine ⟨pb, dxb, _, rfl, hpb, rfl, ?_⟩
          fail "rd"
          have hgj : getE j.1 (j :: js) = some j.2 := (getE_mem AJ).mpr List.mem_cons_self
          refine ⟨pb, Db, j :: js, j.1, rfl, hBb19, (fun z => by rw [hgj] at z; cases z), fun _ H20 k20 hB20 => ?_⟩
          rw [del_head AJ] at hB20
          have hBO20 := hB19.putD n1b hDb k20
          have hBT20 := hBT19.putD n2b hDb k20
          have hkh20 := k20 _ _ hkh19 (ne_of hkh19 hDb fun z => nomatch z)
          have h020 := k20 _ _ h019 (ne_of h019 hDb fun z => nomatch z)
          have h120 := k20 _ _ h119 (ne_of h119 hDb fun z => nomatch z)
          have eld20 := k20 _ _ eld19 (ne_of eld19 hDb fun z => nomatch z)
          have K120 := K119.keep hDb (fun _ z => nomatch z) k20
          have Kd20 : Kept H20 _ js := Kept.keep tK hDb (fun _ z => nomatch z) k20
          have hwj : BkW js := fun e m => hwJ e (List.mem_cons_of_mem _ m)
          have okj : ∀ e ∈ js, EntOk e.2 := fun e m => okJ e (List.mem_cons_of_mem _ m)
          have ljs : js.length < 60 := by
            rw [List.length_cons] at lJ
            omega
          clear k20 hDb hpb hBb19 hB19 hBT19 hkh19 h019 h119 eld19 K119 tK g1 g2 g2' g3
          fail "rd"
          refine ⟨pb, Db, js, rfl, hB20, hwj, by omega, fun l7 ys7 H21 n7 s21 e7 K7 => ?_⟩
          fail "rd"
          have eld21 := s21 _ _ eld20
          refine ⟨ld, _, rfl, SqL.of eld21, ?_⟩
          intro sl n_sl
          generalize g_H22 : upd _ sl _ = H22
          obtain ⟨s_H22, e_sl⟩ := gen_new n_sl g_H22
          clear g_H22
          have ec : cutV (V.ref tj :: vs) (some 1) none = vs := cut_from (k := 1)
          rw [ec] at e_sl
          have s22 := s21.trans s_H22
          refine Da.eq (n := 3) (m := 3) (.lst (keptDa (K7.same s_H22) okj) (SqL.of (s_H22 _ _ e7))) (.lst (keptDa (Kd20.same s22) okj) (SqL.of e_sl)) ?_
          fail "rd"
          refine ⟨p2, D2, fs, rfl, hBT20.same s22, hw2, by omega, fun l8 ys8 H23 n8 s23 e8 K8 => ?_⟩
          have s223 := s22.trans s23
          have hkh23 := s223 _ _ hkh20
          have h023 := s223 _ _ h020
          have h123 := s223 _ _ h120
          fail "rd"
          refine Da.eq (n := 3) (m := 3) (.lst (keptDa K8 ok2) (SqL.of e8)) (.lst (keptDa (K120.same s223) ok2) (SqL.of h123)) ?_
          have hBO23 := hBO20.same s223
          have ⟨⟨dxo, hpo⟩, _⟩ := id hBO23
          fail "rd"
          refine ⟨p1, dxo, _, rfl, hpo, p1, D1, _, rfl, hBO23, _, rfl, Nat.lt_trans (show (insE (1000000, 8) x' es).length < 64 by omega) (by decide), ?_⟩
          fail "rd"
          have eq2 : decide (V.int ((insE (1000000, 8) x' es).length : Nat) = V.int ((ys0.length : Nat) + 1)) = true := decide_eq_true (by rw [lO, K03.length]; rfl)
          exact eq2 ▸ k H23

abbrev s_l_unlike : Stmt := top 26
theorem sc_l_unlike : FnScope ["_law_bag_here", "_law_entry", "_law_kind", "_law_name", "_law_thing", "_law_choice"] ["_law_bag_here", "_law_entry"] (defScope s_l_unlike) := ⟨rfl, rfl, rfl, by decide +kernel, rfl, by decide +kernel, by decide +kernel⟩
def sp_l_unlike (_ : PySem.W.Frag) (_ : Nat → Addr) : Sp := fun vs H Q _ => ∃ (b a : Addr) (x : Ent), vs = [.ref b, .ref a] ∧ ∃ L : Addr, Bag H L b ∧ H a = some (.tup x) ∧ EntOk x ∧ ∀ (t : Addr) (y : Ent) (H' : Hp), Keep b H H' → Bag H' L b → H' t = some (.tup y) → EntOk y → Q (.ref t) H'
theorem ok_l_unlike {f : Addr} {fd : FuncData} (F : Fun K "_law_unlike" "_law_unlike" s_l_unlike f fd) (T : Txt K mg ca) (O__law_draw : Own P w K mg base 1 "_law_draw" ["_law_bag_here", "_law_size"] (sp_l_draw K ca)) : FnOk P w K mg base (L2N.CX P w) 2 f fd ["_law_bag_here", "_law_entry"] (sp_l_unlike K ca) := by
  refine okN F sc_l_unlike (fun vs H Q E h => ?_) (fun cdv A outer s H vs Q E hr h => ?_)
  · obtain ⟨_, _, _, rfl, _⟩ := h
    rfl
  · obtain ⟨b, a, x, rfl, L, hB, ha, hx, k⟩ := h
    refine ⟨_, pss_cons (ps_asg (pv 1) (pg_tup rfl (pgs_cons (pg_name (i := 2) sc_l_unlike.nd rfl (Or.inl rfl)) (pgs_cons (pg_name (i := 3) sc_l_unlike.nd rfl (Or.inl rfl)) (pgs_cons (pg_name (i := 4) sc_l_unlike.nd rfl (Or.inl rfl)) pgs_nil))))) (pss_cons (ps_set (i := 5) sc_l_unlike.nd rfl (Or.inl rfl) (pe_own O__law_draw (hr.mono (by decide)) rfl pas0 (pa_cons (pv 0) (pa_cons pe_int pa_nil)))) (pss_cons (ps_if (pt_cmpR op_eq (pv 5) pe_int (nomark _)) (pss_one (ps_ret (pe_tup (pa_cons (pv 2) (pa_cons pe_str (pa_cons (pv 4) pa_nil)))))) pss_nil) (pss_cons (ps_if (pt_cmpR op_eq (pv 2) pe_str (nomark _)) (pss_one (ps_ret (pe_ix ix_list (pe_lst (pa_cons (pe_tup (pa_cons pe_str (pa_cons (pv 3) (pa_cons pe_str pa_nil)))) (pa_cons (pe_tup (pa_cons pe_str (pa_cons (pv 3) (pa_cons pe_int pa_nil)))) pa_nil))) (pe_op op_sub (pv 5) pe_int) (fun _ _ => rfl)))) pss_nil) (pss_cons (ps_if (pt_cmpR op_eq (pv 5) pe_int (nomark _)) (pss_one (ps_ret (pe_tup (pa_cons (pv 2) (pa_cons (pv 3) (pa_cons (pe_op op_add (pe_op op_mod (pe_callTy call_int1 (by rfl) T.b_int (by decide +kernel) (pa_cons (pv 4) pa_nil)) pe_int) pe_int) pa_nil)))))) pss_nil) (pss_one (ps_ret (pe_tup (pa_cons (pe_ix ix_list (pe_lst (pa_cons pe_str (pa_cons pe_str pa_nil))) (pe_callTy call_int1 (by rfl) T.b_int (by decide +kernel) (pa_cons (pe_cmpR op_eq (pv 2) pe_str (nomark _)) pa_nil)) (fun _ _ => rfl)) (pa_cons (pv 3) (pa_cons (pv 4) pa_nil)))))))))), ?_⟩
    obtain ⟨kd, n, y, rfl, on, hy⟩ := hx.ex
    have nab : a ≠ b := by
      obtain ⟨xb, hb⟩ := hB.lst
      exact ne_of ha hb fun z => nomatch z
    fail "rd"
    refine ⟨L, hB, by decide, by decide, fun c H1 c0 c1 k1 B1 => ?_⟩
    have ha1 := k1 _ _ ha nab
    have o1 : NameOk "othername" := ⟨by decide +kernel, by decide +kernel, by unfold Lets; decide +kernel⟩
    have o2 : NameOk "otherlot" := ⟨by decide +kernel, by decide +kernel, by unfold Lets; decide +kernel⟩
    fail "rd"
    refine iteI (fun z0 => ?_) (fun z0 => ?_)
    · fail "rd"
      intro t n_t
      generalize g_H2 : upd _ t _ = H2
      obtain ⟨s_H2, e_t⟩ := gen_new n_t g_H2
      clear g_H2
      exact k t _ H2 (k1.trans (Keep.of s_H2)) (B1.same s_H2) e_t ⟨kd, _, y, rfl, o1, hy⟩
    · fail "rd"
      refine iteD (fun z1 => ?_) (fun z1 => ?_)
      · have z1 : kd = "late" := V.str.inj z1
        fail "rd"
        obtain ⟨l, rfl, ol⟩ : ∃ l, y = .str l ∧ NameOk l := by
          rcases hy with ⟨_, l, e, ol⟩ | ⟨e, _⟩
          · exact ⟨l, e, ol⟩
          · rw [z1] at e
            rcases e with e | e | e <;> exact absurd e (by decide +kernel)
        intro t1 n_t1
        generalize g_H2 : upd _ t1 _ = H2
        obtain ⟨s_H2, e_t1⟩ := gen_new n_t1 g_H2
        clear g_H2
        fail "rd"
        intro t2 n_t2
        generalize g_H3 : upd _ t2 _ = H3
        obtain ⟨s_H3, e_t2⟩ := gen_new n_t2 g_H3
        clear g_H3
        fail "rd"
        intro q n_q
        generalize g_H4 : upd _ q _ = H4
        obtain ⟨s_H4, e_q⟩ := gen_new n_q g_H4
        clear g_H4
        have s14 := (s_H2.trans s_H3).trans s_H4
        have e1 := s_H4 _ _ (s_H3 _ _ e_t1)
        have e2 := s_H4 _ _ e_t2
        have kk := k1.trans (Keep.of s14)
        have B4 := B1.same s14
        fail "rd"
        have hc : c = 1 ∨ c = 2 := by omega
        rcases hc with rfl | rfl
        · exact ⟨_, _, _, _, rfl, rfl, SqL.of e_q, ix_c rfl, k t1 _ H4 kk B4 e1 ⟨_, n, _, rfl, on, .inl ⟨rfl, _, rfl, o2⟩⟩⟩
        · exact ⟨_, _, _, _, rfl, rfl, SqL.of e_q, ix_c rfl, k t2 _ H4 kk B4 e2 ⟨_, n, _, rfl, on, .inr ⟨.inl rfl, 3, rfl, by decide, by decide⟩⟩⟩
      · have z1 : kd ≠ "late" := fun e => z1 (by rw [e])
        obtain ⟨hk3, u, rfl, u1, u2⟩ := hy.resolve_left fun h => z1 h.1
        fail "rd"
        refine iteI (fun z2 => ?_) (fun z2 => ?_)
        · fail "rd"
          intro t1 n_t1
          generalize g_H2 : upd _ t1 _ = H2
          obtain ⟨s_H2, e_t1⟩ := gen_new n_t1 g_H2
          clear g_H2
          exact k t1 _ H2 (k1.trans (Keep.of s_H2)) (B1.same s_H2) e_t1 ⟨kd, n, _, rfl, on, .inr ⟨hk3, _, rfl, by have := Int.emod_nonneg u (show (1000000 : Int) ≠ 0 by decide); omega, by have := Int.emod_lt_of_pos u (show (0 : Int) < 1000000 by decide); omega⟩⟩
        · fail "rd"
          intro q n_q
          generalize g_H2 : upd _ q _ = H2
          obtain ⟨s_H2, e_q⟩ := gen_new n_q g_H2
          clear g_H2
          have e_q : H2 q = some (.lst [.str "buy", .str "sell"]) := e_q
          fail "rd"
          by_cases z : kd = "buy"
          · have e : decide (V.str kd = V.str "buy") = true := decide_eq_true (by rw [z])
            rw [e]
            refine ⟨_, _, _, _, rfl, rfl, SqL.of e_q, ix_c rfl, ?_⟩
            fail "rd"
            intro t1 n_t1
            generalize g_H3 : upd _ t1 _ = H3
            obtain ⟨s_H3, e_t1⟩ := gen_new n_t1 g_H3
            clear g_H3
            have s13 := s_H2.trans s_H3
            exact k t1 _ H3 (k1.trans (Keep.of s13)) (B1.same s13) e_t1 ⟨_, n, _, rfl, on, .inr ⟨.inr (.inl rfl), u, rfl, u1, u2⟩⟩
          · have e : decide (V.str kd = V.str "buy") = false := decide_eq_false fun e => z (V.str.inj e)
            rw [e]
            refine ⟨_, _, _, _, rfl, rfl, SqL.of e_q, ix_c rfl, ?_⟩
            fail "rd"
            intro t1 n_t1
            generalize g_H3 : upd _ t1 _ = H3
            obtain ⟨s_H3, e_t1⟩ := gen_new n_t1 g_H3
            clear g_H3
            have s13 := s_H2.trans s_H3
            exact k t1 _ H3 (k1.trans (Keep.of s13)) (B1.same s13) e_t1 ⟨_, n, _, rfl, on, .inr ⟨.inl rfl, u, rfl, u1, u2⟩⟩

abbrev s_l_clash : Stmt := top 25
theorem sc_l_clash : FnScope ["_law_one", "_law_other", "e"] ["_law_one", "_law_other"] (defScope s_l_clash) := ⟨rfl, rfl, rfl, by decide +kernel, rfl, by decide +kernel, by decide +kernel⟩
def sp_l_clash (K : PySem.W.Frag) (ca : Nat → Addr) : Sp := fun vs H Q _ => ∃ (p1 D1 p2 D2 : Addr) (es fs : Bk) (q : Int × Int), vs = [.ref p1, .ref p2] ∧ BookAt ca H p1 D1 es ∧ BookAt ca H p2 D2 fs ∧ BkW es ∧ BkW fs ∧ es.length < 30 ∧ fs.length < 30 ∧
  clash1 es fs = some q ∧ ∀ (t : Addr) (H' : Hp), Same H H' → H' t = some (.tup [.int q.1, .int q.2, .bl true]) → Q (.ref t) H'
theorem ok_l_clash {f : Addr} {fd : FuncData} (F : Fun K "_law_clash" "_law_clash" s_l_clash f fd) (T : Txt K mg ca) (O_Book_joined : OwnM P w K mg base 5 (ca 22) "joined" ["self", "other"] (sp_Book_joined K ca)) : FnOk P w K mg base (L2N.CX P w) 6 f fd ["_law_one", "_law_other"] (sp_l_clash K ca) := by
  refine okN F sc_l_clash (fun vs H Q E h => ?_) (fun cdv A outer s H vs Q E hr h => ?_)
  · obtain ⟨_, _, _, _, _, _, _, rfl, _⟩ := h
    rfl
  · obtain ⟨p1, D1, p2, D2, es, fs, q0, rfl, hB1, hB2, hw1, hw2, l1, l2, hc, k⟩ := h
    have ⟨⟨dx1, hp1⟩, _⟩ := id hB1
    refine ⟨_, pss_cons (L2N.ps_try_as (i := 2) (Wout := fun _ _ _ _ => False) rfl rfl sc_l_clash.nd rfl rfl ⟨rfl, by decide, Or.inl T.g_BadEntry⟩ takesN (fun W pn xe tk _ => pss_one (ps_expr (pe_ownm O_Book_joined (pv 0) (hr.mono (by decide)) (fun σ => L2N.passAt tk σ) (pa_cons (pv 1) pa_nil)))) (fun a oe cls d pn hzn hf => have hz := hzn.zc; pss_one (ps_ret (pe_tup (pa_cons (pe_xf T.xf_BadEntry T.nf_BadEntry_day hz hf (pv 2)) (pa_cons (pe_xf T.xf_BadEntry T.nf_BadEntry_number hz hf (pv 2)) (pa_cons (pe_callB (call_isD T.ec_BadEntry hz hf) (by rfl) T.b_isinstance (by decide +kernel) (pa_cons (pv 2) (pa_cons (pe_glob (v := .ref (ca 0)) (by rfl) T.g_CostError rfl) pa_nil))) pa_nil))))))) (pss_one (ps_ret pe_non)), ?_⟩
    fail "rd"
    refine ⟨p1, D1, p2, D2, es, fs, rfl, hB1, hB2, hw1, hw2, l1, l2, fun q hq e H1 s1 ex => ?_, fun hn => by rw [hc] at hn; cases hn⟩
    · rw [hc] at hq
      cases hq
      refine ⟨true, T.te_BadEntry, fun _ a ha => ?_, fun q => Bool.noConfusion q⟩
      fail "rd"
      refine ⟨_, _, true, rfl, rfl, fun x hx => by cases hx; exact ⟨_, ex⟩, fun u r => r, T.ki_BadEntry_CostError, ?_⟩
      fail "rd"
      intro t n_t
      generalize g_H2 : upd _ t _ = H2
      obtain ⟨s_H2, e_t⟩ := gen_new n_t g_H2
      clear g_H2
      exact k t H2 (s1.trans s_H2) e_t

abbrev s_law : Stmt := top 28
theorem sc_law : FnScope ["_law_script", "_law_bag_here", "_law_entries_here", "_law_sides", "_law_item", "_law_choice", "_law_one", "_law_other", "_law_clashes", "_law_day", "_law_number", "_law_entry", "_law_kept_here", "_law_due"] ["_law_script"] (defScope s_law) := ⟨rfl, rfl, rfl, by decide +kernel, rfl, by decide +kernel, by decide +kernel⟩
structure D33 (L bag l sd a0 a1 mp : Addr) : Prop where
  lb : l ≠ bag
  n01 : a0 ≠ a1
  n0s : a0 ≠ sd
  n1s : a1 ≠ sd
  n0b : a0 ≠ bag
  n1b : a1 ≠ bag
  nsb : sd ≠ bag
  n0L : a0 ≠ L
  n1L : a1 ≠ L
  nl0 : a0 ≠ l
  nl1 : a1 ≠ l
  nmb : mp ≠ bag
  nm0 : a0 ≠ mp
  nm1 : a1 ≠ mp
structure K33 (H : Hp) (L bag l sd a0 a1 mp : Addr) (xs : List V) (rs : Bk) (ys : List V) (ms : Bk) (us0 us1 : List V) (rs0 rs1 : Bk) : Prop where
  B : Bag H L bag
  hx : H l = some (.lst xs)
  hR : Rows H xs rs
  hsd : H sd = some (.lst [.ref a0, .ref a1])
  h0 : H a0 = some (.lst us0)
  R0 : Rows H us0 rs0
  h1 : H a1 = some (.lst us1)
  R1 : Rows H us1 rs1
  hm : H mp = some (.lst ys)
  hM : Rows H ys ms
theorem K33.bag {H H' : Hp} {L bag l sd a0 a1 mp : Addr} {xs : List V} {rs : Bk} {ys : List V} {ms : Bk} {us0 us1 : List V} {rs0 rs1 : Bk} (S : K33 H L bag l sd a0 a1 mp xs rs ys ms us0 us1 rs0 rs1) (d : D33 L bag l sd a0 a1 mp) (k : Keep bag H H') (B : Bag H' L bag) : K33 H' L bag l sd a0 a1 mp xs rs ys ms us0 us1 rs0 rs1 := by
  obtain ⟨xb, hb⟩ := S.B.lst
  exact ⟨B, k _ _ S.hx d.lb, S.hR.putL hb k, k _ _ S.hsd d.nsb, k _ _ S.h0 d.n0b, S.R0.putL hb k, k _ _ S.h1 d.n1b, S.R1.putL hb k, k _ _ S.hm d.nmb, S.hM.putL hb k⟩
theorem K33.add0 {H : Hp} {L bag l sd a0 a1 mp : Addr} {xs : List V} {rs : Bk} {ys : List V} {ms : Bk} {us0 us1 : List V} {rs0 rs1 : Bk} {x : V} {r : (Int × Int) × Ent} (S : K33 H L bag l sd a0 a1 mp xs rs ys ms us0 us1 rs0 rs1) (d : D33 L bag l sd a0 a1 mp) (hr : RowR H x r) : K33 (upd H a0 (.lst (us0 ++ [x]))) L bag l sd a0 a1 mp xs rs ys ms (us0 ++ [x]) us1 (rs0 ++ [r]) rs1 :=
  ⟨S.B.keep keep_upd d.n0b d.n0L, une d.nl0.symm S.hx, S.hR.putL S.h0 keep_upd, une d.n0s.symm S.hsd, upd_same, Paired.snoc (S.R0.putL S.h0 keep_upd) (hr.keep S.h0 (fun _ z => nomatch z) keep_upd), une d.n01.symm S.h1, S.R1.putL S.h0 keep_upd, une d.nm0.symm S.hm, S.hM.putL S.h0 keep_upd⟩
theorem K33.add1 {H : Hp} {L bag l sd a0 a1 mp : Addr} {xs : List V} {rs : Bk} {ys : List V} {ms : Bk} {us0 us1 : List V} {rs0 rs1 : Bk} {x : V} {r : (Int × Int) × Ent} (S : K33 H L bag l sd a0 a1 mp xs rs ys ms us0 us1 rs0 rs1) (d : D33 L bag l sd a0 a1 mp) (hr : RowR H x r) : K33 (upd H a1 (.lst (us1 ++ [x]))) L bag l sd a0 a1 mp xs rs ys ms us0 (us1 ++ [x]) rs0 (rs1 ++ [r]) :=
  ⟨S.B.keep keep_upd d.n1b d.n1L, une d.nl1.symm S.hx, S.hR.putL S.h1 keep_upd, une d.n1s.symm S.hsd, une d.n01 S.h0, S.R0.putL S.h1 keep_upd, upd_same, Paired.snoc (S.R1.putL S.h1 keep_upd) (hr.keep S.h1 (fun _ z => nomatch z) keep_upd), une d.nm1.symm S.hm, S.hM.putL S.h1 keep_upd⟩
theorem K33.same {H H' : Hp} {L bag l sd a0 a1 mp : Addr} {xs : List V} {rs : Bk} {ys : List V} {ms : Bk} {us0 us1 : List V} {rs0 rs1 : Bk} (S : K33 H L bag l sd a0 a1 mp xs rs ys ms us0 us1 rs0 rs1) (s : Same H H') : K33 H' L bag l sd a0 a1 mp xs rs ys ms us0 us1 rs0 rs1 :=
  ⟨S.B.same s, s _ _ S.hx, S.hR.same s, s _ _ S.hsd, s _ _ S.h0, S.R0.same s, s _ _ S.h1, S.R1.same s, s _ _ S.hm, S.hM.same s⟩
theorem K33.keepX {H H' : Hp} {L bag l sd a0 a1 mp c : Addr} {u : HO} {xs : List V} {rs : Bk} {ys : List V} {ms : Bk} {us0 us1 : List V} {rs0 rs1 : Bk} (S : K33 H L bag l sd a0 a1 mp xs rs ys ms us0 us1 rs0 rs1) (hc : H c = some u) (n : ∀ xs, u ≠ .tup xs) (k : Keep c H H') (m : c ≠ bag ∧ c ≠ L ∧ l ≠ c ∧ sd ≠ c ∧ a0 ≠ c ∧ a1 ≠ c ∧ mp ≠ c) : K33 H' L bag l sd a0 a1 mp xs rs ys ms us0 us1 rs0 rs1 := by
  obtain ⟨m1, m2, m3, m4, m5, m6, m7⟩ := m
  exact ⟨S.B.keep k m1 m2, k _ _ S.hx m3, S.hR.keep hc n k, k _ _ S.hsd m4, k _ _ S.h0 m5, S.R0.keep hc n k, k _ _ S.h1 m6, S.R1.keep hc n k, k _ _ S.hm m7, S.hM.keep hc n k⟩
theorem K33.dT {H : Hp} {L bag l sd a0 a1 mp c : Addr} {kv : List (List Key × V)} {xs : List V} {rs : Bk} {ys : List V} {ms : Bk} {us0 us1 : List V} {rs0 rs1 : Bk} (S : K33 H L bag l sd a0 a1 mp xs rs ys ms us0 us1 rs0 rs1) (hc : H c = some (.dT kv)) : c ≠ bag ∧ c ≠ L ∧ l ≠ c ∧ sd ≠ c ∧ a0 ≠ c ∧ a1 ≠ c ∧ mp ≠ c :=
  ⟨(S.B.nedT hc).1, (S.B.nedT hc).2, ne_of S.hx hc (fun z => nomatch z), ne_of S.hsd hc (fun z => nomatch z), ne_of S.h0 hc (fun z => nomatch z), ne_of S.h1 hc (fun z => nomatch z), ne_of S.hm hc (fun z => nomatch z)⟩
theorem K33.fresh {H : Hp} {L bag l sd a0 a1 mp c : Addr} {xs : List V} {rs : Bk} {ys : List V} {ms : Bk} {us0 us1 : List V} {rs0 rs1 : Bk} (S : K33 H L bag l sd a0 a1 mp xs rs ys ms us0 us1 rs0 rs1) (hc : H c = none) : c ≠ bag ∧ c ≠ L ∧ l ≠ c ∧ sd ≠ c ∧ a0 ≠ c ∧ a1 ≠ c ∧ mp ≠ c :=
  ⟨S.B.ne hc, S.B.neL hc, ne_of_none S.hx hc, ne_of_none S.hsd hc, ne_of_none S.h0 hc, ne_of_none S.h1 hc, ne_of_none S.hm hc⟩
structure E33 (ca : Nat → Addr) (H : Hp) (L bag l sd a0 a1 mp : Addr) (xs : List V) (rs : Bk) (ys : List V) (ms : Bk) (us0 us1 : List V) (rs0 rs1 : Bk) (p1 D1 p2 D2 cl : Addr) (es fs : Bk) (zs : List Addr) (qs : List (Int × Int)) (i : Nat) : Prop where
  S : K33 H L bag l sd a0 a1 mp xs rs ys ms us0 us1 rs0 rs1
  B1 : BookAt ca H p1 D1 es
  B2 : BookAt ca H p2 D2 fs
  w2 : BkW fs
  l2 : fs.length ≤ rs1.length + i
  hc : H cl = some (.lst (zs.map V.ref))
  hz : Paired (PlR H) zs qs
  lz : zs.length ≤ i
  nn : es ++ fs ≠ []
  C : Cl es rs0 fs qs i
theorem E33.same {ca : Nat → Addr} {H H' : Hp} {L bag l sd a0 a1 mp : Addr} {xs : List V} {rs : Bk} {ys : List V} {ms : Bk} {us0 us1 : List V} {rs0 rs1 : Bk} {p1 D1 p2 D2 cl : Addr} {es fs : Bk} {zs : List Addr} {qs : List (Int × Int)} {i : Nat} (E : E33 ca H L bag l sd a0 a1 mp xs rs ys ms us0 us1 rs0 rs1 p1 D1 p2 D2 cl es fs zs qs i) (s : Same H H') : E33 ca H' L bag l sd a0 a1 mp xs rs ys ms us0 us1 rs0 rs1 p1 D1 p2 D2 cl es fs zs qs i :=
  ⟨E.S.same s, E.B1.same s, E.B2.same s, E.w2, E.l2, s _ _ E.hc, Paired.mapP E.hz fun _ _ r => s _ _ r, E.lz, E.nn, E.C⟩
theorem E33.bag {ca : Nat → Addr} {H H' : Hp} {L bag l sd a0 a1 mp : Addr} {xs : List V} {rs : Bk} {ys : List V} {ms : Bk} {us0 us1 : List V} {rs0 rs1 : Bk} {p1 D1 p2 D2 cl : Addr} {es fs : Bk} {zs : List Addr} {qs : List (Int × Int)} {i : Nat} (E : E33 ca H L bag l sd a0 a1 mp xs rs ys ms us0 us1 rs0 rs1 p1 D1 p2 D2 cl es fs zs qs i) (d : D33 L bag l sd a0 a1 mp) (n : cl ≠ bag) (k : Keep bag H H') (B : Bag H' L bag) : E33 ca H' L bag l sd a0 a1 mp xs rs ys ms us0 us1 rs0 rs1 p1 D1 p2 D2 cl es fs zs qs i := by
  obtain ⟨xb, hb⟩ := E.S.B.lst
  exact ⟨E.S.bag d k B, E.B1.putL hb k, E.B2.putL hb k, E.w2, E.l2, k _ _ E.hc n, Paired.mapP E.hz fun _ _ r => r.keep hb (fun _ z => nomatch z) k, E.lz, E.nn, E.C⟩
theorem E33.skip {ca : Nat → Addr} {H : Hp} {L bag l sd a0 a1 mp : Addr} {xs : List V} {rs : Bk} {ys : List V} {ms : Bk} {us0 us1 : List V} {rs0 rs1 : Bk} {p1 D1 p2 D2 cl : Addr} {es fs : Bk} {zs : List Addr} {qs : List (Int × Int)} {i : Nat} {e : (Int × Int) × Ent} (E : E33 ca H L bag l sd a0 a1 mp xs rs ys ms us0 us1 rs0 rs1 p1 D1 p2 D2 cl es fs zs qs i) (w : rs0.Pairwise fun a b => a.1 ≠ b.1) (h : rs0[i]? = some e) : E33 ca H L bag l sd a0 a1 mp xs rs ys ms us0 us1 rs0 rs1 p1 D1 p2 D2 cl es fs zs qs (i + 1) :=
  ⟨E.S, E.B1, E.B2, E.w2, Nat.le_succ_of_le E.l2, E.hc, E.hz, Nat.le_succ_of_le E.lz, E.nn, E.C.skip w h⟩
theorem ok_law {f : Addr} {fd : FuncData} (F : Fun K "law" "law" s_law f fd) (T : Txt K mg ca) (O__law_bag : Own P w K mg base 1 "_law_bag" ["_law_script"] (sp_l_bag K ca)) (O__law_entries : Own P w K mg base 3 "_law_entries" ["_law_bag_here", "_law_most"] (sp_l_entries K ca)) (O__law_mixed : Own P w K mg base 2 "_law_mixed" ["_law_bag_here", "_law_items"] (sp_l_mixed K ca)) (O__law_book : Own P w K mg base 4 "_law_book" ["_law_entries_here"] (sp_l_book K ca)) (O__law_joined_right : Own P w K mg base 6 "_law_joined_right" ["_law_one", "_law_other", "_law_kept_here", "_law_spots"] (sp_l_joined_right K ca)) (O__law_draw : Own P w K mg base 1 "_law_draw" ["_law_bag_here", "_law_size"] (sp_l_draw K ca)) (O__law_kept : Own P w K mg base 5 "_law_kept" ["_law_book_here"] (sp_l_kept K ca)) (O__law_unlike : Own P w K mg base 2 "_law_unlike" ["_law_bag_here", "_law_entry"] (sp_l_unlike K ca)) (O__law_clash : Own P w K mg base 6 "_law_clash" ["_law_one", "_law_other"] (sp_l_clash K ca)) (O_Book___contains__ : OwnM P w K mg base 1 (ca 22) "__contains__" ["self", "x"] (sp_Book_contains K ca)) (O_Book___getitem__ : OwnM P w K mg base 3 (ca 22) "__getitem__" ["self", "at"] (sp_Book_getitem K ca)) (O_Book___setitem__ : OwnM P w K mg base 3 (ca 22) "__setitem__" ["self", "at", "worth"] (sp_Book_setitem K ca)) : FnOk P w K mg base (L2N.CX P w) 7 f fd ["_law_script"] (sp_law K ca) := by
  refine okN F sc_law (fun vs H Q E h => ?_) (fun cdv A outer s H vs Q E hr h => ?_)
  · obtain ⟨_, _, rfl, _⟩ := h
    rfl
  · obtain ⟨s0, ns, rfl, hs, k⟩ := h
    refine ⟨_, pss_cons (ps_set (i := 1) sc_law.nd rfl (Or.inl rfl) (pe_own O__law_bag (hr.mono (by decide)) rfl pas0 (pa_cons (pv 0) pa_nil))) (pss_cons (ps_set (i := 2) sc_law.nd rfl (Or.inl rfl) (pe_own O__law_entries (hr.mono (by decide)) rfl pas0 (pa_cons (pv 1) (pa_cons pe_int pa_nil)))) (pss_cons (ps_set (i := 3) sc_law.nd rfl (Or.inl rfl) (pe_lst (pa_cons (pe_lst pa_nil) (pa_cons (pe_lst pa_nil) pa_nil)))) (pss_cons (ps_for (passes_of rfl) rfl (pi_list (pe_own O__law_mixed (hr.mono (by decide)) rfl pas0 (pa_cons (pv 1) (pa_cons (pv 2) pa_nil)))) (pg_name (i := 4) sc_law.nd rfl (Or.inl rfl)) (pss_cons (ps_set (i := 5) sc_law.nd rfl (Or.inl rfl) (pe_own O__law_draw (hr.mono (by decide)) rfl pas0 (pa_cons (pv 1) (pa_cons pe_int pa_nil)))) (Evl.pss_cut (ps_if (pt_cmpR op_ne (pv 5) pe_int (nomark _)) (pss_one (ps_expr (pe_bm PySem.F.plainAttrs_list PySem.F.slot_list_append PySem.F.type_list_append mt_append (pe_ix ix_list (pv 3) pe_int (fun _ _ => rfl)) (pa_cons (pv 4) pa_nil)))) pss_nil) (pss_one (ps_if (pt_cmpR op_ne (pv 5) pe_int (nomark _)) (pss_one (ps_expr (pe_bm PySem.F.plainAttrs_list PySem.F.slot_list_append PySem.F.type_list_append mt_append (pe_ix ix_list (pv 3) pe_int (fun _ _ => rfl)) (pa_cons (pv 4) pa_nil)))) pss_nil))))) (pss_cons (ps_set (i := 6) sc_law.nd rfl (Or.inl rfl) (pe_own O__law_book (hr.mono (by decide)) rfl pas0 (pa_cons (pe_ix ix_list (pv 3) pe_int (fun _ _ => rfl)) pa_nil))) (pss_cons (ps_set (i := 7) sc_law.nd rfl (Or.inl rfl) (pe_own O__law_book (hr.mono (by decide)) rfl pas0 (pa_cons (pe_ix ix_list (pv 3) pe_int (fun _ _ => rfl)) pa_nil))) (pss_cons (ps_set (i := 8) sc_law.nd rfl (Or.inl rfl) (pe_lst pa_nil)) (Evl.pss_cut (ps_if (pt_cmpR op_eq (pe_own O__law_draw (hr.mono (by decide)) rfl pas0 (pa_cons (pv 1) (pa_cons pe_int pa_nil))) pe_int (nomark _)) (pss_one (ps_for (passes_of rfl) rfl (pi_list (pe_ix ix_list (pv 3) pe_int (fun _ _ => rfl))) (pg_tup rfl (pgs_cons (pg_name (i := 9) sc_law.nd rfl (Or.inl rfl)) (pgs_cons (pg_name (i := 10) sc_law.nd rfl (Or.inl rfl)) (pgs_cons (pg_name (i := 11) sc_law.nd rfl (Or.inl rfl)) pgs_nil)))) (pss_one (ps_if (PW.pt (pw_and (pt_cmpR (op_inOwn O_Book___contains__ (hr.mono (by decide)) pas0) (pe_tup (pa_cons (pv 9) (pa_cons (pv 10) pa_nil))) (pv 7) (by with_unfolding_all rfl)) (pw_and1 (pt_cmpR op_eq (pe_own O__law_draw (hr.mono (by decide)) rfl pas0 (pa_cons (pv 1) (pa_cons pe_int pa_nil))) pe_int (nomark _))))) (pss_cons (ps_asg (pe_own O__law_unlike (hr.mono (by decide)) rfl pas0 (pa_cons (pv 1) (pa_cons (pv 11) pa_nil))) (pg_sub (pv 7) (pe_tup (pa_cons (pv 9) (pa_cons (pv 10) pa_nil))) (set_own O_Book___setitem__ T.nq_Book (hr.mono (by decide)) pas0))) (pss_one (ps_if (pt_cmpR (op_neD (Room.units (hr.mono (Nat.zero_le _)))) (pe_ixOwn O_Book___getitem__ T.fg_Book (hr.mono (by decide)) pas0 (pv 7) (pe_tup (pa_cons (pv 9) (pa_cons (pv 10) pa_nil))) (fun _ _ => rfl)) (pv 11) (nomark _)) (pss_one (ps_expr (pe_bm PySem.F.plainAttrs_list PySem.F.slot_list_append PySem.F.type_list_append mt_append (pv 8) (pa_cons (pe_tup (pa_cons (pv 9) (pa_cons (pv 10) pa_nil))) pa_nil)))) pss_nil))) pss_nil)))) pss_nil) (pss_cons (ps_set (i := 12) sc_law.nd rfl (Or.inl rfl) (pe_lst (pa_cons (pe_own O__law_kept (hr.mono (by decide)) rfl pas0 (pa_cons (pv 6) pa_nil)) (pa_cons (pe_own O__law_kept (hr.mono (by decide)) rfl pas0 (pa_cons (pv 7) pa_nil)) pa_nil)))) (pss_cons (ps_if (pt_cmpR (op_neD (Room.units (hr.mono (Nat.zero_le _)))) (pv 8) (pe_lst pa_nil) (nomark _)) (pss_cons (ps_set (i := 13) sc_law.nd rfl (Or.inl rfl) (pe_tup (pa_cons (pe_ix ix_tup (pe_callB (cr_minPl rfl (Room.units (hr.mono (Nat.zero_le _)))) (by rfl) T.b_min (by decide +kernel) (pa_cons (pv 8) pa_nil)) pe_int (fun _ _ => rfl)) (pa_cons (pe_ix ix_tup (pe_callB (cr_minPl rfl (Room.units (hr.mono (Nat.zero_le _)))) (by rfl) T.b_min (by decide +kernel) (pa_cons (pv 8) pa_nil)) pe_int (fun _ _ => rfl)) (pa_cons pe_bl pa_nil))))) (pss_cons (ps_if (PW.pt (pw_or (pt_cmpR (op_neD (Room.units (hr.mono (Nat.zero_le _)))) (pe_own O__law_clash (hr.mono (by decide)) rfl pas0 (pa_cons (pv 6) (pa_cons (pv 7) pa_nil))) (pv 13) (nomark _)) (pw_or1 (pt_cmpR (op_neD (Room.units (hr.mono (Nat.zero_le _)))) (pe_own O__law_clash (hr.mono (by decide)) rfl pas0 (pa_cons (pv 7) (pa_cons (pv 6) pa_nil))) (pv 13) (nomark _))))) (pss_one (ps_ret pe_bl)) pss_nil) (pss_one (ps_ret (pe_cmpR (op_eqD (Room.units (hr.mono (Nat.zero_le _)))) (pe_lst (pa_cons (pe_own O__law_kept (hr.mono (by decide)) rfl pas0 (pa_cons (pv 6) pa_nil)) (pa_cons (pe_own O__law_kept (hr.mono (by decide)) rfl pas0 (pa_cons (pv 7) pa_nil)) pa_nil))) (pv 12) (nomark _)))))) pss_nil) (pss_one (ps_ret (pe_own O__law_joined_right (hr.mono (by decide)) rfl pas0 (pa_cons (pv 6) (pa_cons (pv 7) (pa_cons (pv 12) (pa_cons (pe_lc (own := [("_law_item", 4)]) (g := gName 4) (tt := tYes) rfl sc_law.nd (pi_list (pv 2)) (blkOk_by (N := ["_law_script", "_law_bag_here", "_law_entries_here", "_law_sides", "_law_item", "_law_choice", "_law_one", "_law_other", "_law_clashes", "_law_day", "_law_number", "_law_entry", "_law_kept_here", "_law_due"]) (sc := defScope s_law) (by decide +kernel)) (fun _ _ _ _ _ => pg_name (i := 4) sc_law.nd rfl (Or.inl rfl)) (fun _ _ _ _ _ => pts_nil) (fun _ _ _ _ _ => pe_tup (pa_cons (pe_ix (r := rIxT K) ix_tup (pv 4) pe_int (fun _ _ => rfl)) (pa_cons (pe_ix (r := rIxT K) ix_tup (pv 4) pe_int (fun _ _ => rfl)) pa_nil)))) pa_nil)))))))))))))))), ?_⟩
    fail "rd"
    refine ⟨s0, ns, rfl, hs, fun L bag H1 nb nL s1 B1 => ?_⟩
    fail "rd"
    refine ⟨L, B1, by decide, by decide, fun l xs rs H2 k2 B2 nl hx hR ha hw r0 r8 nr => ?_⟩
    have lb : l ≠ bag := B1.ne nl
    have xl : xs.length = rs.length := hR.length
    have rs10 : rs.length ≤ 10 := by omega
    fail "rd"
    intro a0 n_a0
    generalize g_H3 : upd _ a0 _ = H3
    obtain ⟨s_H3, e_a0⟩ := gen_new n_a0 g_H3
    clear g_H3
    fail "rd"
    intro a1 n_a1
    generalize g_H4 : upd _ a1 _ = H4
    obtain ⟨s_H4, e_a1⟩ := gen_new n_a1 g_H4
    clear g_H4
    fail "rd"
    intro sd n_sd
    generalize g_H5 : upd _ sd _ = H5
    obtain ⟨s_H5, e_sd⟩ := gen_new n_sd g_H5
    clear g_H5
    have s25 := (s_H3.trans s_H4).trans s_H5
    have B5 := B2.same s25
    have ea0 := s_H5 _ _ (s_H4 _ _ e_a0)
    have ea1 := s_H5 _ _ e_a1
    have n01 : a0 ≠ a1 := ne_of_none e_a0 n_a1
    have n0s : a0 ≠ sd := ne_of_none (s_H4 _ _ e_a0) n_sd
    have n1s : a1 ≠ sd := ne_of_none e_a1 n_sd
    have n0b : a0 ≠ bag := B2.ne n_a0
    have n1b : a1 ≠ bag := (B2.same s_H3).ne n_a1
    have nsb : sd ≠ bag := ((B2.same s_H3).same s_H4).ne n_sd
    have n0L : a0 ≠ L := B2.neL n_a0
    have n1L : a1 ≠ L := (B2.same s_H3).neL n_a1
    have nl0 : a0 ≠ l := (ne_of_none hx n_a0).symm
    have nl1 : a1 ≠ l := (ne_of_none (s_H3 _ _ hx) n_a1).symm
    have hx5 := s25 _ _ hx
    have hR5 := hR.same s25
    clear s1 k2 nl hx hR s_H3 s_H4 s_H5 s25 e_a0 e_a1 nb nL B1 B2
    fail "rd"
    refine ⟨bag, l, xs, rfl, L, B5, hx5, lb, by omega, fun ys mp H6 py nmp k6 B6 emp => ?_⟩
    obtain ⟨ms, hM, pm⟩ := paired_perm hR5 py
    obtain ⟨xb5, hxb5⟩ := B5.lst
    have dd : D33 L bag l sd a0 a1 mp := ⟨lb, n01, n0s, n1s, n0b, n1b, nsb, n0L, n1L, nl0, nl1, B5.ne nmp, ne_of_none ea0 nmp, ne_of_none ea1 nmp⟩
    have S6 : K33 H6 L bag l sd a0 a1 mp xs rs ys ms [] [] [] [] := ⟨B6, k6 _ _ hx5 lb, hR5.putL hxb5 k6, k6 _ _ e_sd nsb, k6 _ _ ea0 n0b, .nil, k6 _ _ ea1 n1b, .nil, emp, Rows.putL hM hxb5 k6⟩
    have pw : ms.Pairwise fun a b => a.1 ≠ b.1 := (pm.pairwise_iff (fun {a b} (h : a.1 ≠ b.1) => h.symm)).mpr (ha.imp fun l => l.ne)
    have wm : ∀ r ∈ ms, r ∈ rs := fun r m => pm.mem_iff.mp m
    have lm : ms.length = rs.length := pm.length_eq
    clear hx5 hR5 ea0 ea1 e_sd py k6 B6 B5 emp hM hxb5 nmp n01 n0s n1s n0b n1b nsb n0L n1L nl0 nl1
    fail "rd"
    refine ⟨⟨_, SqL.of S6.hm⟩, for_list (K := K) (D := ⟨_, _, fun _ _ => True, fun _ _ => True⟩) (a := mp) (xs := ys) (fun i σ' H' => ∃ (v4 v5 v6 v7 v8 v9 v10 v11 v12 v13 : Option V) (us0 us1 : List V) (rs0 rs1 : Bk), σ' = [some (.ref s0), some (.ref bag), some (.ref l), some (.ref sd), v4, v5, v6, v7, v8, v9, v10, v11, v12, v13] ∧ K33 H' L bag l sd a0 a1 mp xs rs ys ms us0 us1 rs0 rs1 ∧ rs0.Sublist (ms.take i) ∧ rs1.Sublist (ms.take i) ∧ (0 < i → rs0 ++ rs1 ≠ []))
      ⟨_, _, _, _, _, _, _, _, _, _, _, _, _, _, rfl, S6, List.nil_sublist _, List.nil_sublist _, fun z => absurd z (Nat.lt_irrefl _)⟩ (fun i σ' H' _ ⟨_, _, _, _, _, _, _, _, _, _, _, _, _, _, _, e, _⟩ => SqL.of e.hm) ?_ ?_⟩
    · rintro i x σ' H7 hi ⟨v4, v5, v6, v7, v8, v9, v10, v11, v12, v13, us0, us1, rs0, rs1, rfl, S7, t0, t1, ne⟩
      have lj : i < ms.length := by rw [← S7.hM.length]; exact (List.getElem?_eq_some_iff.mp hi).1
      have ge : ms[i]? = some ms[i] := List.getElem?_eq_getElem lj
      have tk : ms.take (i + 1) = ms.take i ++ [ms[i]] := by rw [List.take_add_one, ge]; rfl
      have hr7 : RowR H7 x ms[i] := paired_get S7.hM hi ge
      generalize ms[i] = r at tk hr7
      clear ge lj
      have t0' : (rs0 ++ [r]).Sublist (ms.take (i + 1)) := by rw [tk]; exact t0.append (List.Sublist.refl _)
      have t1' : (rs1 ++ [r]).Sublist (ms.take (i + 1)) := by rw [tk]; exact t1.append (List.Sublist.refl _)
      have u0 : rs0.Sublist (ms.take (i + 1)) := by rw [tk]; exact t0.trans (List.sublist_append_left _ _)
      have u1 : rs1.Sublist (ms.take (i + 1)) := by rw [tk]; exact t1.trans (List.sublist_append_left _ _)
      fail "rd"
      refine ⟨L, S7.B, by decide, by decide, fun c H8 c0 c1 k8 B8 => ?_⟩
      have S8 := S7.bag dd k8 B8
      obtain ⟨xb, hxb⟩ := S7.B.lst
      have hr8 := hr7.keep hxb (fun _ z => nomatch z) k8
      clear S7 hr7 k8 B8 hxb
      have len0 : rs0.length ≤ 10 := by
        have := t0.length_le
        rw [List.length_take] at this
        omega
      have len1 : rs1.length ≤ 10 := by
        have := t1.length_le
        rw [List.length_take] at this
        omega
      have lu0 := S8.R0.length
      have lu1 := S8.R1.length
      fail "rd"
      refine ⟨fun σ2 H2 => ∃ us0' rs0', σ2 = [some (.ref s0), some (.ref bag), some (.ref l), some (.ref sd), some x, some (.int c), v6, v7, v8, v9, v10, v11, v12, v13] ∧ K33 H2 L bag l sd a0 a1 mp xs rs ys ms us0' us1 rs0' rs1 ∧ RowR H2 x r ∧ rs0'.Sublist (ms.take (i + 1)) ∧ (c ≠ 1 → rs0' ≠ []), ?_, ?_⟩
      · fail "rd"
        refine iteIn (fun z => ?_) (fun z => ?_)
        · fail "rd"
          refine ⟨_, _, _, _, rfl, rfl, SqL.of S8.hsd, ix_c rfl, ?_⟩
          fail "rd"
          refine ⟨.inl ⟨rfl, _, SqL.of S8.h0⟩, ?_⟩
          fail "rd"
          refine ⟨a0, us0, x, rfl, rfl, S8.h0, Nat.lt_of_lt_of_le (show us0.length < 2000 by omega) (line_le (by decide)), ?_⟩
          exact ⟨us0 ++ [x], rs0 ++ [r], rfl, S8.add0 dd hr8, hr8.keep S8.h0 (fun _ z => nomatch z) keep_upd, t0', fun _ => by simp⟩
        · exact ⟨us0, rs0, rfl, S8, hr8, u0, fun n => absurd z n⟩
      · rintro σ2 H9 ⟨us0', rs0', rfl, S9, hr9, t9, z9⟩
        have lu1 := S9.R1.length
        clear S8 hr8 lu0
        fail "rd"
        refine iteIn (fun z => ?_) (fun z => ?_)
        · fail "rd"
          refine ⟨_, _, _, _, rfl, rfl, SqL.of S9.hsd, ix_c rfl, ?_⟩
          fail "rd"
          refine ⟨.inl ⟨rfl, _, SqL.of S9.h1⟩, ?_⟩
          fail "rd"
          refine ⟨a1, us1, x, rfl, rfl, S9.h1, Nat.lt_of_lt_of_le (show us1.length < 2000 by omega) (line_le (by decide)), ?_⟩
          exact ⟨_, _, _, _, _, _, _, _, _, _, us0', us1 ++ [x], rs0', rs1 ++ [r], rfl, S9.add1 dd hr9, t9, t1', fun _ => by simp⟩
        · exact ⟨_, _, _, _, _, _, _, _, _, _, us0', us1, rs0', rs1, rfl, S9, t9, u1, fun _ => by have := z9 (by omega); simp [this]⟩
    · rintro σ' H7 ⟨v4, v5, v6, v7, v8, v9, v10, v11, v12, v13, us0, us1, rs0, rs1, rfl, S7, t0, t1, ne⟩
      rw [S7.hM.length, List.take_length] at t0 t1
      have ne := ne (by
        rw [S7.hM.length, lm]
        exact List.length_pos_iff.mpr r0)
      have w0 : rs0.Pairwise fun a b => a.1 ≠ b.1 := pw.sublist t0
      have w1 : rs1.Pairwise fun a b => a.1 ≠ b.1 := pw.sublist t1
      have len0 : rs0.length ≤ 10 := Nat.le_trans t0.length_le (by omega)
      have len1 : rs1.length ≤ 10 := Nat.le_trans t1.length_le (by omega)
      have g0 : ∀ r ∈ rs0, Pl6 r.1 ∧ EntOk r.2 := fun r m => hw r (wm r (t0.subset m))
      have g1 : ∀ r ∈ rs1, Pl6 r.1 ∧ EntOk r.2 := fun r m => hw r (wm r (t1.subset m))
      have new8 : ∀ r ∈ rs0, r.1 ≠ (1000000, 8) := fun r m z => by
        have := nr r (wm r (t0.subset m))
        rw [z] at this
        have h2 : (1000000 : Int) ≤ 10 * rs.length := this.2.1
        omega
      have cross : ∀ e ∈ rs0, ∀ f ∈ rs1, e.1 = f.1 → e = f := fun e me f mf q => pw_fit pw e (t0.subset me) f (t1.subset mf) q
      obtain ⟨A1, m1⟩ := setAll_ok (pw_fit w0)
      obtain ⟨A2, m2⟩ := setAll_ok (pw_fit w1)
      clear pw wm t0 t1 nr
      fail "rd"
      refine ⟨_, _, _, _, rfl, rfl, SqL.of S7.hsd, ix_c rfl, ?_⟩
      refine ⟨a0, us0, rs0, rfl, S7.h0, S7.R0, g0, by omega, fun p1 D1 H8 np1 nD1 s8 hB1 hw1 hl1 => ?_⟩
      fail "rd"
      refine ⟨_, _, _, _, rfl, rfl, SqL.of (s8 _ _ S7.hsd), ix_c rfl, ?_⟩
      refine ⟨a1, us1, rs1, rfl, s8 _ _ S7.h1, S7.R1.same s8, g1, by omega, fun p2 D2 H9 np2 nD2 s9 hB2 hw2 hl2 => ?_⟩
      have nD : D1 ≠ D2 := by
        obtain ⟨kv, e⟩ := hB1.2.dT
        exact ne_of_none e nD2
      have S9 := (S7.same s8).same s9
      have hB1 := hB1.same s9
      clear S7 s8 s9 np1 nD1 np2 nD2
      generalize setAll rs0 = es at hB1 hw1 hl1 A1 m1
      generalize setAll rs1 = fs at hB2 hw2 hl2 A2 m2
      fail "rd"
      intro cl n_cl
      generalize g_H10 : upd _ cl _ = H10
      obtain ⟨s_H10, e_cl⟩ := gen_new n_cl g_H10
      clear g_H10
      have S10 := S9.same s_H10
      have hB1 := hB1.same s_H10
      have hB2 := hB2.same s_H10
      have nclb : cl ≠ bag := S9.B.ne n_cl
      have S9f := S9.fresh n_cl
      clear S9 s_H10
      have mcl := S9f
      have nn0 : es ++ fs ≠ [] := fun z => by
        obtain ⟨z1, z2⟩ := List.append_eq_nil_iff.mp z
        apply ne
        have y1 : rs0 = [] := List.eq_nil_iff_forall_not_mem.mpr fun e m => by
          have := (m1 e).mpr m
          rw [z1] at this
          cases this
        have y2 : rs1 = [] := List.eq_nil_iff_forall_not_mem.mpr fun e m => by
          have := (m2 e).mpr m
          rw [z2] at this
          cases this
        rw [y1, y2]
        rfl
      have E10 : E33 ca H10 L bag l sd a0 a1 mp xs rs ys ms us0 us1 rs0 rs1 p1 D1 p2 D2 cl es fs [] [] 0 := by
        refine ⟨S10, hB1, hB2, hw2, hl2, e_cl, .nil, Nat.le_refl _, nn0, ⟨fun e m => (by cases m), fun e m => ?_, fun q m => (by cases m)⟩⟩
        have m : e ∈ rs0 := m
        unfold clashE
        cases hg : getE e.1 fs with
        | none => rfl
        | some y =>
          have mf := (m2 _).mp ((getE_mem A2).mp hg)
          have := cross e m _ mf rfl
          have e2 : y = e.2 := by rw [this]
          simp [e2]
      clear S10 hB1 hB2 hw2 hl2 e_cl A2 m2 cross g1
      refine ⟨fun σ2 H2 => ∃ (v4 v5 v9 v10 v11 v12 v13 : Option V) (fs : Bk) (zs : List Addr) (qs : List (Int × Int)), σ2 = [some (.ref s0), some (.ref bag), some (.ref l), some (.ref sd), v4, v5, some (.ref p1), some (.ref p2), some (.ref cl), v9, v10, v11, v12, v13] ∧ E33 ca H2 L bag l sd a0 a1 mp xs rs ys ms us0 us1 rs0 rs1 p1 D1 p2 D2 cl es fs zs qs rs0.length, ?_, ?_⟩
      · fail "rd"
        refine ⟨L, E10.S.B, by decide, by decide, fun c H11 c0 c1 k11 B11 => ?_⟩
        have E11 := E10.bag dd nclb k11 B11
        clear E10 k11 B11
        fail "rd"
        refine iteI (fun z => ?_) (fun z => ?_)
        · fail "rd"
          refine ⟨_, _, _, _, rfl, rfl, SqL.of E11.S.hsd, ix_c rfl, ?_⟩
          refine ⟨a0, rfl, ⟨_, SqL.of E11.S.h0⟩, for_list (K := K) (D := ⟨_, _, fun _ _ => True, fun _ _ => True⟩) (a := a0) (xs := us0) (fun i σ' H' => ∃ (v4 v5 v9 v10 v11 v12 v13 : Option V) (fs : Bk) (zs : List Addr) (qs : List (Int × Int)), σ' = [some (.ref s0), some (.ref bag), some (.ref l), some (.ref sd), v4, v5, some (.ref p1), some (.ref p2), some (.ref cl), v9, v10, v11, v12, v13] ∧ E33 ca H' L bag l sd a0 a1 mp xs rs ys ms us0 us1 rs0 rs1 p1 D1 p2 D2 cl es fs zs qs i)
            ⟨_, _, _, _, _, _, _, _, _, _, rfl, E11⟩ (fun i σ' H' _ ⟨_, _, _, _, _, _, _, _, _, _, _, e⟩ => SqL.of e.S.h0) ?_ ?_⟩
          · rintro i x σ' H12 hi ⟨v4, v5, v9, v10, v11, v12, v13, fs, zs, qs, rfl, E12⟩
            clear E11
            have lj : i < rs0.length := by rw [← E12.S.R0.length]; exact (List.getElem?_eq_some_iff.mp hi).1
            have ge : rs0[i]? = some rs0[i] := List.getElem?_eq_getElem lj
            obtain ⟨t, u, rfl, ht, hu⟩ : RowR H12 x rs0[i] := paired_get E12.S.R0 hi ge
            obtain ⟨h6, ox⟩ := g0 _ (List.getElem_mem lj)
            generalize rs0[i] = r at ge ht hu h6 ox
            fail "rd"
            intro t1 n_t1
            generalize g_H13 : upd _ t1 _ = H13
            obtain ⟨s_H13, e_t1⟩ := gen_new n_t1 g_H13
            clear g_H13
            have E13 := E12.same s_H13
            have hu13 := s_H13 _ _ hu
            clear E12 hu ht s_H13
            have ⟨⟨dx2, hp2⟩, kv2, hD2, _⟩ := id E13.B2
            fail "rd"
            refine ⟨p2, dx2, _, rfl, hp2, p2, t1, D2, fs, r.1, rfl, E13.B2, e_t1, _, rfl, ?_⟩
            cases hg : getE r.1 fs with
            | none =>
              fail "rd"
              exact ⟨_, _, _, _, _, _, _, fs, zs, qs, rfl, E13.skip w0 ge⟩
            | some y0 =>
              fail "rd"
              refine ⟨L, E13.S.B, by decide, by decide, fun d H14 d0 d1 k14 B14 => ?_⟩
              have E14 := E13.bag dd nclb k14 B14
              obtain ⟨xb, hxb⟩ := E13.S.B.lst
              have hu14 := k14 _ _ hu13 (ne_of hu13 hxb fun z => nomatch z)
              clear E13 hu13 k14 B14 hxb e_t1 hp2 hD2
              fail "rd"
              refine iteI (fun z1 => ?_) (fun z1 => ?_)
              · fail "rd"
                refine ⟨bag, u, r.2, rfl, L, E14.S.B, hu14, ox, fun t2 y H15 k15 B15 ht2 oy => ?_⟩
                have E15 := E14.bag dd nclb k15 B15
                obtain ⟨xb, hxb⟩ := E14.S.B.lst
                have hu15 := k15 _ _ hu14 (ne_of hu14 hxb fun z => nomatch z)
                clear E14 hu14 k15 B15 hxb
                fail "rd"
                intro w2 n_w2
                generalize g_H16 : upd _ w2 _ = H16
                obtain ⟨s_H16, e_w2⟩ := gen_new n_w2 g_H16
                clear g_H16
                have E16 := E15.same s_H16
                have hu16 := s_H16 _ _ hu15
                have ht2 := s_H16 _ _ ht2
                clear E15 hu15 s_H16
                have ⟨⟨dx3, hp3⟩, kv3, hD3, _⟩ := id E16.B2
                refine ⟨p2, dx3, _, rfl, hp3, p2, w2, D2, _, .int r.1.1, .int r.1.2, .ref t2, true, rfl, E16.B2, e_w2, rfl, rfl, oy.v ht2, Nat.lt_of_le_of_lt E16.l2 (by omega), (fun z => by rw [whole_ok h6.1 h6.2.1, whole_ok h6.2.2.1 h6.2.2.2] at z; cases z), fun _ d' n' a' x' ed en ea hx' H17 k17 hB17 => ?_⟩
                cases ed
                cases en
                cases ea
                rw [ht2] at hx'
                cases hx'
                have A2 := E16.B2.2.asc
                have S17 := E16.S.keepX hD3 (fun _ z => nomatch z) k17 (E16.S.dT hD3)
                have hB1 := E16.B1.putD nD hD3 k17
                have hc17 := k17 _ _ E16.hc (ne_of E16.hc hD3 fun z => nomatch z)
                have hz17 : Paired (PlR H17) zs qs := Paired.mapP E16.hz fun _ _ r => r.keep hD3 (fun _ z => nomatch z) k17
                have hu17 := k17 _ _ hu16 (ne_of hu16 hD3 fun z => nomatch z)
                have C17 : ∀ qs', qs' = (if y = r.2 then qs else qs ++ [r.1]) → Cl es rs0 (insE r.1 y fs) qs' (i + 1) := fun qs' e => E16.C.set w0 ge A2 e
                have w17 : BkW (insE r.1 y fs) := bkW_ins A2 E16.w2 h6 oy
                have l17 : (insE r.1 y fs).length ≤ rs1.length + (i + 1) := Nat.le_trans len_insE (Nat.succ_le_succ E16.l2)
                have nn17 : es ++ insE r.1 y fs ≠ [] := fun z => by
                  have := (mem_insE A2 (r.1, y)).mpr (.inl rfl)
                  rw [(List.append_eq_nil_iff.mp z).2] at this
                  cases this
                have gg : getE r.1 (insE r.1 y fs) = some y := by rw [getE_ins A2, if_pos rfl]
                have lz := E16.lz
                have hB17 : BookAt ca H17 p2 D2 (insE r.1 y fs) := hB17
                have ⟨⟨dx4, hp4⟩, _⟩ := id hB17
                clear E16 hu16 ht2 k17 hD3 hp3 e_w2 A2
                fail "rd"
                intro w3 n_w3
                generalize g_H18 : upd _ w3 _ = H18
                obtain ⟨s_H18, e_w3⟩ := gen_new n_w3 g_H18
                clear g_H18
                refine ⟨p2, dx4, _, rfl, s_H18 _ _ hp4, p2, w3, D2, _, r.1, rfl, hB17.same s_H18, e_w3, (fun z => by rw [gg] at z; cases z), fun x' hx' b H19 s19 hb => ?_⟩
                rw [gg] at hx'
                cases hx'
                have s1719 := s_H18.trans s19
                fail "rd"
                by_cases z : y = r.2
                · refine Da.neB (n := 1) (m := 1) (oy.da hb) (ox.da (s1719 _ _ hu17)) (b := true) (by rw [dEnt_eqv oy ox]; exact decide_eq_true z) ?_
                  fail "rd"
                  exact ⟨_, _, _, _, _, _, _, insE r.1 y fs, zs, qs, rfl, ⟨S17.same s1719, hB1.same s1719, hB17.same s1719, w17, l17, s1719 _ _ hc17, Paired.mapP hz17 fun _ _ r => s1719 _ _ r, Nat.le_succ_of_le lz, nn17, C17 _ (by rw [if_pos z])⟩⟩
                · refine Da.neB (n := 1) (m := 1) (oy.da hb) (ox.da (s1719 _ _ hu17)) (b := false) (by rw [dEnt_eqv oy ox]; exact decide_eq_false z) ?_
                  fail "rd"
                  intro w4 n_w4
                  generalize g_H20 : upd _ w4 _ = H20
                  obtain ⟨s_H20, e_w4⟩ := gen_new n_w4 g_H20
                  clear g_H20
                  have s1720 := s1719.trans s_H20
                  have hc20 := s1720 _ _ hc17
                  have S20 := S17.same s1720
                  have hB20 := hB17.same s1720
                  have hB120 := hB1.same s1720
                  refine ⟨cl, _, _, rfl, rfl, hc20, Nat.lt_of_lt_of_le (show (zs.map V.ref).length < 2000 by rw [List.length_map]; omega) (line_le (by decide)), ?_⟩
                  refine ⟨_, _, _, _, _, _, _, insE r.1 y fs, zs ++ [w4], qs ++ [r.1], rfl, ⟨S20.keepX hc20 (fun _ z => nomatch z) keep_upd mcl, hB120.putL hc20 keep_upd, hB20.putL hc20 keep_upd, w17, l17, by rw [upd_same, List.map_append]; rfl, ?_, by rw [List.length_append]; exact Nat.succ_le_succ lz, nn17, C17 _ (by rw [if_neg z])⟩⟩
                  exact Paired.snoc (Paired.mapP hz17 fun _ _ r => PlR.keep (s1720 _ _ r) hc20 (fun _ z => nomatch z) keep_upd) (PlR.keep e_w4 hc20 (fun _ z => nomatch z) keep_upd)
              · fail "rd"
                exact ⟨_, _, _, _, _, _, _, fs, zs, qs, rfl, E14.skip w0 ge⟩
          · rintro σ' H12 ⟨v4, v5, v9, v10, v11, v12, v13, fs, zs, qs, rfl, E12⟩
            exact ⟨_, _, _, _, _, _, _, fs, zs, qs, rfl, by have e := E12.S.R0.length; rw [e] at E12; exact E12⟩
        · refine ⟨_, _, _, _, _, _, _, fs, [], [], rfl, ⟨E11.S, E11.B1, E11.B2, E11.w2, Nat.le_trans E11.l2 (Nat.add_le_add_left (Nat.zero_le _) _), E11.hc, E11.hz, Nat.zero_le _, E11.nn, ⟨fun e m => ?_, fun e m => ?_, fun q m => (by cases m)⟩⟩⟩
          · have := E11.C.b e (List.mem_of_mem_take m)
            rw [this]
            simp
          · rw [List.drop_length] at m
            cases m
      · rintro σ2 H11 ⟨v4, v5, v9, v10, v11, v12, v13, fs, zs, qs, rfl, E11⟩
        fail "rd"
        have l2' : fs.length ≤ 20 := Nat.le_trans E11.l2 (by omega)
        refine ⟨p1, D1, es, rfl, E11.B1, hw1, by omega, fun k0 ky0 H12 nk0 s12 ek0 K0 => ?_⟩
        have E12 := E11.same s12
        fail "rd"
        refine ⟨p2, D2, fs, rfl, E12.B2, E12.w2, by omega, fun k1 ky1 H13 nk1 s13 ek1 K1 => ?_⟩
        have E13 := E12.same s13
        fail "rd"
        intro kh n_kh
        generalize g_H14 : upd _ kh _ = H14
        obtain ⟨s_H14, e_kh⟩ := gen_new n_kh g_H14
        clear g_H14
        have E14 := E13.same s_H14
        have ek0 := s_H14 _ _ (s13 _ _ ek0)
        have ek1 := s_H14 _ _ ek1
        have K0 := (K0.same s13).same s_H14
        have K1 := K1.same s_H14
        clear E11 E12 E13 s12 s13 s_H14 nk0 nk1
        have ok1 : ∀ e ∈ es, EntOk e.2 := fun e m => (hw1 e m).2
        have ok2 : ∀ e ∈ fs, EntOk e.2 := fun e m => (E14.w2 e m).2
        fail "rd"
        intro nil n_nil
        generalize g_H15 : upd _ nil _ = H15
        obtain ⟨s_H15, e_nil⟩ := gen_new n_nil g_H15
        clear g_H15
        have E15 := E14.same s_H15
        have ekh := s_H15 _ _ e_kh
        have ek0 := s_H15 _ _ ek0
        have ek1 := s_H15 _ _ ek1
        have K0 := K0.same s_H15
        have K1 := K1.same s_H15
        clear E14 s_H15 e_kh
        refine neNil E15.hc e_nil (plDa E15.hz) (by decide) ?_
        cases qs with
        | nil =>
          have hcn := E15.C.none m1
          have hz0 : zs = [] := List.eq_nil_of_length_eq_zero E15.hz.length
          subst hz0
          fail "rd"
          refine ⟨⟨_, SqL.of E15.S.hx⟩, fun O nO => ?_⟩
          refine lc_list (K := K) (a := l) (xs := xs) (fun j H' => Same H15 H' ∧ ∃ (sp : List V), H' O = some (.lst sp) ∧ sp.length = j ∧ Paired (fun x q => ∃ t, x = .ref t ∧ PlR H' t q) sp ((rs.take j).map (·.1))) ⟨same_upd nO, [], upd_same, rfl, .nil⟩ (fun j H' _ s => SqL.of (s.1 _ _ E15.S.hx)) ?_ ?_
          · rintro j x H16 hj ⟨s16, sp, hO, la, hp⟩
            have lj : j < rs.length := by rw [← xl]; exact (List.getElem?_eq_some_iff.mp hj).1
            have ge : rs[j]? = some rs[j] := List.getElem?_eq_getElem lj
            obtain ⟨t, u, rfl, ht, hu⟩ : RowR H16 x rs[j] := RowR.same (paired_get E15.S.hR hj ge) s16
            have hts : (rs.take (j + 1)).map (·.1) = (rs.take j).map (·.1) ++ [rs[j].1] := by rw [List.take_add_one, ge, List.map_append]; rfl
            rw [hts]
            generalize rs[j] = r at ht hu
            fail "rd"
            intro w5 n_w5
            generalize g_H17 : upd _ w5 _ = H17
            obtain ⟨s_H17, e_w5⟩ := gen_new n_w5 g_H17
            clear g_H17
            have hO17 := s_H17 _ _ hO
            refine ⟨_, hO17, Nat.lt_of_lt_of_le (show sp.length < 2000 by omega) (line_le (by decide)), same_put nO (s16.trans s_H17), sp ++ [V.ref w5], upd_same, by rw [List.length_append, la]; rfl, ?_⟩
            exact Paired.snoc (Paired.mapP hp fun _ _ ⟨t, e, r⟩ => ⟨t, e, PlR.keep (s_H17 _ _ r) hO17 (fun _ z => nomatch z) keep_upd⟩) ⟨w5, rfl, PlR.keep e_w5 hO17 (fun _ z => nomatch z) keep_upd⟩
          · rintro H16 ⟨s16, sp, hO, la, hp⟩
            have E16 := E15.same s16
            refine ⟨p1, D1, p2, D2, kh, k0, k1, O, es, fs, ky0, ky1, sp, _, rfl, E16.B1, E16.B2, nD, hw1, E16.w2, by omega, by omega, hcn, E16.nn, fun e m => new8 e ((m1 e).mp m), s16 _ _ ekh, s16 _ _ ek0, K0.same s16, s16 _ _ ek1, K1.same s16, hO, by omega, hp, fun H' => ?_⟩
            exact k H'
        | cons q qs =>
          obtain ⟨hc1, hc2⟩ := E15.C.some m1 A1 E15.B2.2.asc
          have hze : (zs.map V.ref).isEmpty = false := by
            have := E15.hz.length
            cases zs with
            | nil => simp at this
            | cons z zs => rfl
          rw [hze]
          fail "rd"
          refine ⟨cl, zs, q, qs, rfl, SqL.of E15.hc, E15.hz, fun y hy => ?_⟩
          fail "rd"
          refine ⟨cl, zs, q, qs, rfl, SqL.of E15.hc, E15.hz, fun y2 hy2 => ?_⟩
          fail "rd"
          intro du n_du
          generalize g_H16 : upd _ du _ = H16
          obtain ⟨s_H16, e_du⟩ := gen_new n_du g_H16
          clear g_H16
          have E16 := E15.same s_H16
          generalize minP q qs = mq at hc1 hc2 e_du hy hy2
          fail "rd"
          refine ⟨p1, D1, p2, D2, es, fs, mq, rfl, E16.B1, E16.B2, hw1, E16.w2, by omega, by omega, hc1, fun t H17 s17 et => ?_⟩
          have E17 := E16.same s17
          have e_du := s17 _ _ e_du
          fail "rd"
          refine Da.ne (n := 1) (m := 1) (.tup (.cons .int (.cons .int (.cons .bl .nil))) (SqT.of et)) (.tup (.cons .int (.cons .int (.cons .bl .nil))) (SqT.of e_du)) ?_
          clear et
          fail "rd"
          refine ⟨p2, D2, p1, D1, fs, es, mq, rfl, E17.B2, E17.B1, E17.w2, hw1, by omega, by omega, hc2, fun t H18 s18 et => ?_⟩
          have E18 := E17.same s18
          have e_du := s18 _ _ e_du
          fail "rd"
          refine Da.ne (n := 1) (m := 1) (.tup (.cons .int (.cons .int (.cons .bl .nil))) (SqT.of et)) (.tup (.cons .int (.cons .int (.cons .bl .nil))) (SqT.of e_du)) ?_
          have s1518 := (s_H16.trans s17).trans s18
          fail "rd"
          refine ⟨p1, D1, es, rfl, E18.B1, hw1, by omega, fun k3 ky3 H19 nk3 s19 ek3 K3 => ?_⟩
          have E19 := E18.same s19
          fail "rd"
          refine ⟨p2, D2, fs, rfl, E19.B2, E19.w2, by omega, fun k4 ky4 H20 nk4 s20 ek4 K4 => ?_⟩
          fail "rd"
          intro kn n_kn
          generalize g_H21 : upd _ kn _ = H21
          obtain ⟨s_H21, e_kn⟩ := gen_new n_kn g_H21
          clear g_H21
          have s1521 := s1518.trans ((s19.trans s20).trans s_H21)
          fail "rd"
          refine Da.eq (n := 4) (m := 4) (.lst (.cons (.lst (keptDa (K3.same (s20.trans s_H21)) ok1) (SqL.of (s_H21 _ _ (s20 _ _ ek3)))) (.cons (.lst (keptDa (K4.same s_H21) ok2) (SqL.of (s_H21 _ _ ek4))) .nil)) (SqL.of e_kn)) (.lst (.cons (.lst (keptDa (K0.same s1521) ok1) (SqL.of (s1521 _ _ ek0))) (.cons (.lst (keptDa (K1.same s1521) ok2) (SqL.of (s1521 _ _ ek1))) .nil)) (SqL.of (s1521 _ _ ekh))) ?_
          exact k H21

end
theorem all_mk {l : PySem.W.OpenLaw} {w : World} {K : PySem.W.Frag} {h : Heap} {mg : Str → Option Value} {fa : Addr} (X : K.In h) (G : h.Ns mainGlobals mg) (hfa : mg "law" = some (.ref fa))
    {C0 C7 C8 C22 : Addr}
    {tkc__LONGEST : Tok}
    {tkc__MOST : Tok}
    {xnm7 xq7 : Str} {xN7 : Addr} {xbs7 : List Value} {xsn7 : List Str} {xsub7 : List Value} {xab7 : Bool} {xcol7 : Option Bool} {xdd7 : Option Addr} {xm07 xm17 xm27 xm37 xm57 : Option Value}
    {xnm8 xq8 : Str} {xN8 : Addr} {xbs8 : List Value} {xsn8 : List Str} {xsub8 : List Value} {xab8 : Bool} {xcol8 : Option Bool} {xdd8 : Option Addr} {xm08 xm18 xm28 xm38 xm58 : Option Value}
    {f0 : Addr} {od0 an0 : Option Addr} {sl0 : Array (Option Value)} {oc0 kV0 dc0 pm0 cd0 ct0 : Value}
    {f1 : Addr} {od1 an1 : Option Addr} {sl1 : Array (Option Value)} {oc1 kV1 dc1 pm1 cd1 ct1 : Value}
    {f2 : Addr} {od2 an2 : Option Addr} {sl2 : Array (Option Value)} {oc2 kV2 dc2 pm2 cd2 ct2 : Value}
    {f3 : Addr} {od3 an3 : Option Addr} {sl3 : Array (Option Value)} {oc3 kV3 dc3 pm3 cd3 ct3 : Value}
    {f4 : Addr} {od4 an4 : Option Addr} {sl4 : Array (Option Value)} {oc4 kV4 dc4 pm4 cd4 ct4 : Value}
    {f5 : Addr} {od5 an5 : Option Addr} {sl5 : Array (Option Value)} {oc5 kV5 dc5 pm5 cd5 ct5 : Value}
    {f6 : Addr} {od6 an6 : Option Addr} {sl6 : Array (Option Value)} {oc6 kV6 dc6 pm6 cd6 ct6 : Value}
    {f7 : Addr} {od7 an7 : Option Addr} {sl7 : Array (Option Value)} {oc7 kV7 dc7 pm7 cd7 ct7 : Value}
    {f8 : Addr} {od8 an8 : Option Addr} {sl8 : Array (Option Value)} {oc8 kV8 dc8 pm8 cd8 ct8 : Value}
    {f9 : Addr} {od9 an9 : Option Addr} {sl9 : Array (Option Value)} {oc9 kV9 dc9 pm9 cd9 ct9 : Value}
    {f10 : Addr} {od10 an10 : Option Addr} {sl10 : Array (Option Value)} {oc10 kV10 dc10 pm10 cd10 ct10 : Value}
    {f11 : Addr} {od11 an11 : Option Addr} {sl11 : Array (Option Value)} {oc11 kV11 dc11 pm11 cd11 ct11 : Value}
    {f12 : Addr} {od12 an12 : Option Addr} {sl12 : Array (Option Value)} {oc12 kV12 dc12 pm12 cd12 ct12 : Value}
    {f13 : Addr} {od13 an13 : Option Addr} {sl13 : Array (Option Value)} {oc13 kV13 dc13 pm13 cd13 ct13 : Value}
    {f14 : Addr} {od14 an14 : Option Addr} {sl14 : Array (Option Value)} {oc14 kV14 dc14 pm14 cd14 ct14 : Value}
    {f15 : Addr} {od15 an15 : Option Addr} {sl15 : Array (Option Value)} {oc15 kV15 dc15 pm15 cd15 ct15 : Value}
    {f16 : Addr} {od16 an16 : Option Addr} {sl16 : Array (Option Value)} {oc16 kV16 dc16 pm16 cd16 ct16 : Value}
    {f17 : Addr} {od17 an17 : Option Addr} {sl17 : Array (Option Value)} {oc17 kV17 dc17 pm17 cd17 ct17 : Value}
    {f18 : Addr} {od18 an18 : Option Addr} {sl18 : Array (Option Value)} {oc18 kV18 dc18 pm18 cd18 ct18 : Value}
    {f19 : Addr} {od19 an19 : Option Addr} {sl19 : Array (Option Value)} {oc19 kV19 dc19 pm19 cd19 ct19 : Value}
    {f20 : Addr} {od20 an20 : Option Addr} {sl20 : Array (Option Value)} {oc20 kV20 dc20 pm20 cd20 ct20 : Value}
    {f21 : Addr} {od21 an21 : Option Addr} {sl21 : Array (Option Value)} {oc21 kV21 dc21 pm21 cd21 ct21 : Value}
    {f22 : Addr} {od22 an22 : Option Addr} {sl22 : Array (Option Value)} {oc22 kV22 dc22 pm22 cd22 ct22 : Value}
    {f23 : Addr} {od23 an23 : Option Addr} {sl23 : Array (Option Value)} {oc23 kV23 dc23 pm23 cd23 ct23 : Value}
    {f24 : Addr} {od24 an24 : Option Addr} {sl24 : Array (Option Value)} {oc24 kV24 dc24 pm24 cd24 ct24 : Value}
    {f25 : Addr} {od25 an25 : Option Addr} {sl25 : Array (Option Value)} {oc25 kV25 dc25 pm25 cd25 ct25 : Value}
    {f26 : Addr} {od26 an26 : Option Addr} {sl26 : Array (Option Value)} {oc26 kV26 dc26 pm26 cd26 ct26 : Value}
    {f27 : Addr} {od27 an27 : Option Addr} {sl27 : Array (Option Value)} {oc27 kV27 dc27 pm27 cd27 ct27 : Value}
    {f28 : Addr} {od28 an28 : Option Addr} {sl28 : Array (Option Value)} {oc28 kV28 dc28 pm28 cd28 ct28 : Value}
    {f29 : Addr} {od29 an29 : Option Addr} {sl29 : Array (Option Value)} {oc29 kV29 dc29 pm29 cd29 ct29 : Value}
    {f30 : Addr} {od30 an30 : Option Addr} {sl30 : Array (Option Value)} {oc30 kV30 dc30 pm30 cd30 ct30 : Value}
    {f31 : Addr} {od31 an31 : Option Addr} {sl31 : Array (Option Value)} {oc31 kV31 dc31 pm31 cd31 ct31 : Value}
    (aC0 : PySem.W.nsIn K mainGlobals "CostError" = some (some (.ref C0)))
    (aC7 : PySem.W.nsIn K mainGlobals "BadEntry" = some (some (.ref C7)))
    (aC8 : PySem.W.nsIn K mainGlobals "NoEntry" = some (some (.ref C8)))
    (aC22 : PySem.W.nsIn K mainGlobals "Book" = some (some (.ref C22)))
    (pg22 : PySem.W.plainGet K C22 Str.empty = true)
    (hd22 : PySem.W.hasDictIn K C22 = true)
    (po22 : PySem.W.plainOver K C22 = true)
    (sa22 : PySem.W.findIn K (.ref C22) "__setattr__" = some (some (.builtin "object.__setattr__")))
    (mk22 : PySem.W.makesIn K C22 = true)
    (kc22 : PySem.W.keepIn K (.ref C22) = true)
    (z_abs : PySem.W.nsIn K mainGlobals "abs" = some none)
    (z_all : PySem.W.nsIn K mainGlobals "all" = some none)
    (z_bool : PySem.W.nsIn K mainGlobals "bool" = some none)
    (z_int : PySem.W.nsIn K mainGlobals "int" = some none)
    (z_isinstance : PySem.W.nsIn K mainGlobals "isinstance" = some none)
    (z_len : PySem.W.nsIn K mainGlobals "len" = some none)
    (z_list : PySem.W.nsIn K mainGlobals "list" = some none)
    (z_min : PySem.W.nsIn K mainGlobals "min" = some none)
    (z_range : PySem.W.nsIn K mainGlobals "range" = some none)
    (z_sorted : PySem.W.nsIn K mainGlobals "sorted" = some none)
    (z_str : PySem.W.nsIn K mainGlobals "str" = some none)
    (z_tuple : PySem.W.nsIn K mainGlobals "tuple" = some none)
    (zc__LONGEST : PySem.W.nsIn K mainGlobals "_LONGEST" = some (some (.int 12 tkc__LONGEST)))
    (zc__MOST : PySem.W.nsIn K mainGlobals "_MOST" = some (some (.int 1000000 tkc__MOST)))
    (fsb_BadEntry : PySem.W.subIn K (.ref C7) (.type "BaseException") = some true)
    (fxi_BadEntry : PySem.W.isClsIn K C7 = true)
    (fty_BadEntry : PySem.W.typeIn K (.ref C7) = some (.type "type"))
    (fxs_BadEntry : PySem.W.subIn K (.ref C7) (.ref C7) = some true)
    (fy1_BadEntry : PySem.W.findIn K (.ref C7) "__getattribute__" = some (some (.builtin "BaseException.__getattribute__")))
    (fy2_BadEntry : PySem.W.findIn K (.ref C7) "__getattr__" = some none)
    (fy3_BadEntry : PySem.W.hasDictIn K C7 = true)
    (fy4_BadEntry : PySem.W.findIn K (.ref C7) "__class__" = some (some (.builtin "object.__class__")))
    (fo5 : PySem.W.specialIn K (.builtin "object.__class__") "__get__" = some (some (.builtin "getset_descriptor.__get__")))
    (fo6 : PySem.W.takesIn K (.builtin "object.__class__") = some true)
    (fy7_BadEntry : PySem.W.mroIn K C7 (.type "object") = some true)
    (xl_BadEntry : K.lookup C7 = some (excClassObj xnm7 xq7 C7 xN7 xbs7 [.ref C0, .type "ValueError", .type "Exception", .type "BaseException", .type "object"] true xsn7 xsub7 xab7 xcol7 xdd7 xm07 xm17 xm27 xm37 xm57 "ValueError.__new__"))
    (fxr_BadEntry : PySem.HandSPX.refsVE [.ref C0, .type "ValueError", .type "Exception", .type "BaseException", .type "object"] = true)
    (sa_BadEntry : PySem.W.findIn K (.ref C7) "__setattr__" = some (some (.builtin "object.__setattr__")))
    (kpr_BadEntry : PySem.W.keepIn K (.ref C7) = true)
    (fnf_BadEntry_day : PySem.W.findIn K (.ref C7) "day" = some none)
    (fnf_BadEntry_number : PySem.W.findIn K (.ref C7) "number" = some none)
    (xl_NoEntry : K.lookup C8 = some (excClassObj xnm8 xq8 C8 xN8 xbs8 [.ref C0, .type "ValueError", .type "Exception", .type "BaseException", .type "object"] true xsn8 xsub8 xab8 xcol8 xdd8 xm08 xm18 xm28 xm38 xm58 "ValueError.__new__"))
    (fxr_NoEntry : PySem.HandSPX.refsVE [.ref C0, .type "ValueError", .type "Exception", .type "BaseException", .type "object"] = true)
    (sa_NoEntry : PySem.W.findIn K (.ref C8) "__setattr__" = some (some (.builtin "object.__setattr__")))
    (kpr_NoEntry : PySem.W.keepIn K (.ref C8) = true)
    (fsb_NoEntry : PySem.W.subIn K (.ref C8) (.type "BaseException") = some true)
    (fty_NoEntry : PySem.W.typeIn K (.ref C8) = some (.type "type"))
    (fnf_NoEntry_day : PySem.W.findIn K (.ref C8) "day" = some none)
    (fnf_NoEntry_number : PySem.W.findIn K (.ref C8) "number" = some none)
    (fna_Book__entries : PySem.W.findIn K (.ref C22) "_entries" = some none)
    (fnq_Book : PySem.W.noSeq K C22 = true)
    (fki_BadEntry_CostError : PySem.W.kitOne K (.ref C7) (.ref C0) = some true)
    (a0 : PySem.W.nsIn K mainGlobals "_law_bag" = some (some (.ref f0)))
    (l0 : K.lookup f0 = some ⟨oc0, od0, .func (PySem.W.fnOf "_law_bag" "_law_bag" (defArgs s_l_bag) (defBody s_l_bag) (defScope s_l_bag) .none kV0 dc0 pm0 an0 cd0 ct0), sl0⟩)
    (c0 : PySem.W.codeIn K cd0 "_law_bag" = true)
    (k0 : PySem.W.keepIn K (.ref f0) = true)
    (a1 : PySem.W.nsIn K mainGlobals "_law_draw" = some (some (.ref f1)))
    (l1 : K.lookup f1 = some ⟨oc1, od1, .func (PySem.W.fnOf "_law_draw" "_law_draw" (defArgs s_l_draw) (defBody s_l_draw) (defScope s_l_draw) .none kV1 dc1 pm1 an1 cd1 ct1), sl1⟩)
    (c1 : PySem.W.codeIn K cd1 "_law_draw" = true)
    (k1 : PySem.W.keepIn K (.ref f1) = true)
    (a2 : PySem.W.nsIn K mainGlobals "_law_names" = some (some (.ref f2)))
    (l2 : K.lookup f2 = some ⟨oc2, od2, .func (PySem.W.fnOf "_law_names" "_law_names" (defArgs s_l_names) (defBody s_l_names) (defScope s_l_names) .none kV2 dc2 pm2 an2 cd2 ct2), sl2⟩)
    (c2 : PySem.W.codeIn K cd2 "_law_names" = true)
    (k2 : PySem.W.keepIn K (.ref f2) = true)
    (a3 : PySem.W.nsIn K mainGlobals "_law_next" = some (some (.ref f3)))
    (l3 : K.lookup f3 = some ⟨oc3, od3, .func (PySem.W.fnOf "_law_next" "_law_next" (defArgs s_l_next) (defBody s_l_next) (defScope s_l_next) .none kV3 dc3 pm3 an3 cd3 ct3), sl3⟩)
    (c3 : PySem.W.codeIn K cd3 "_law_next" = true)
    (k3 : PySem.W.keepIn K (.ref f3) = true)
    (a4 : PySem.W.nsIn K mainGlobals "_law_pick" = some (some (.ref f4)))
    (l4 : K.lookup f4 = some ⟨oc4, od4, .func (PySem.W.fnOf "_law_pick" "_law_pick" (defArgs s_l_pick) (defBody s_l_pick) (defScope s_l_pick) .none kV4 dc4 pm4 an4 cd4 ct4), sl4⟩)
    (c4 : PySem.W.codeIn K cd4 "_law_pick" = true)
    (k4 : PySem.W.keepIn K (.ref f4) = true)
    (a5 : PySem.W.nsIn K mainGlobals "_law_entries" = some (some (.ref f5)))
    (l5 : K.lookup f5 = some ⟨oc5, od5, .func (PySem.W.fnOf "_law_entries" "_law_entries" (defArgs s_l_entries) (defBody s_l_entries) (defScope s_l_entries) .none kV5 dc5 pm5 an5 cd5 ct5), sl5⟩)
    (c5 : PySem.W.codeIn K cd5 "_law_entries" = true)
    (k5 : PySem.W.keepIn K (.ref f5) = true)
    (a6 : PySem.W.nsIn K mainGlobals "_law_mixed" = some (some (.ref f6)))
    (l6 : K.lookup f6 = some ⟨oc6, od6, .func (PySem.W.fnOf "_law_mixed" "_law_mixed" (defArgs s_l_mixed) (defBody s_l_mixed) (defScope s_l_mixed) .none kV6 dc6 pm6 an6 cd6 ct6), sl6⟩)
    (c6 : PySem.W.codeIn K cd6 "_law_mixed" = true)
    (k6 : PySem.W.keepIn K (.ref f6) = true)
    (a7 : PySem.W.findIn K (.ref C22) "__init__" = some (some (.ref f7)))
    (i7 : PySem.W.isFn K (.ref f7) = true)
    (l7 : K.lookup f7 = some ⟨oc7, od7, .func (PySem.W.fnOf "__init__" "Book.__init__" (defArgs s_Book_init) (defBody s_Book_init) (defScope s_Book_init) .none kV7 dc7 pm7 an7 cd7 ct7), sl7⟩)
    (c7 : PySem.W.codeIn K cd7 "Book.__init__" = true)
    (k7 : PySem.W.keepIn K (.ref f7) = true)
    (a8 : PySem.W.nsIn K mainGlobals "is_whole" = some (some (.ref f8)))
    (l8 : K.lookup f8 = some ⟨oc8, od8, .func (PySem.W.fnOf "is_whole" "is_whole" (defArgs s_is_whole) (defBody s_is_whole) (defScope s_is_whole) .none kV8 dc8 pm8 an8 cd8 ct8), sl8⟩)
    (c8 : PySem.W.codeIn K cd8 "is_whole" = true)
    (k8 : PySem.W.keepIn K (.ref f8) = true)
    (a9 : PySem.W.nsIn K mainGlobals "is_name" = some (some (.ref f9)))
    (l9 : K.lookup f9 = some ⟨oc9, od9, .func (PySem.W.fnOf "is_name" "is_name" (defArgs s_is_name) (defBody s_is_name) (defScope s_is_name) .none kV9 dc9 pm9 an9 cd9 ct9), sl9⟩)
    (c9 : PySem.W.codeIn K cd9 "is_name" = true)
    (k9 : PySem.W.keepIn K (.ref f9) = true)
    (a10 : PySem.W.nsIn K mainGlobals "is_entry" = some (some (.ref f10)))
    (l10 : K.lookup f10 = some ⟨oc10, od10, .func (PySem.W.fnOf "is_entry" "is_entry" (defArgs s_is_entry) (defBody s_is_entry) (defScope s_is_entry) .none kV10 dc10 pm10 an10 cd10 ct10), sl10⟩)
    (c10 : PySem.W.codeIn K cd10 "is_entry" = true)
    (k10 : PySem.W.keepIn K (.ref f10) = true)
    (a11 : PySem.W.findIn K (.ref C7) "__init__" = some (some (.ref f11)))
    (i11 : PySem.W.isFn K (.ref f11) = true)
    (ti11 : PySem.W.typeIn K (.ref f11) = some (.type "function"))
    (l11 : K.lookup f11 = some ⟨oc11, od11, .func (PySem.W.fnOf "__init__" "BadEntry.__init__" (defArgs s_BadEntry_init) (defBody s_BadEntry_init) (defScope s_BadEntry_init) .none kV11 dc11 pm11 an11 cd11 ct11), sl11⟩)
    (c11 : PySem.W.codeIn K cd11 "BadEntry.__init__" = true)
    (k11 : PySem.W.keepIn K (.ref f11) = true)
    (a12 : PySem.W.findIn K (.ref C22) "__setitem__" = some (some (.ref f12)))
    (i12 : PySem.W.isFn K (.ref f12) = true)
    (l12 : K.lookup f12 = some ⟨oc12, od12, .func (PySem.W.fnOf "__setitem__" "Book.__setitem__" (defArgs s_Book_setitem) (defBody s_Book_setitem) (defScope s_Book_setitem) .none kV12 dc12 pm12 an12 cd12 ct12), sl12⟩)
    (c12 : PySem.W.codeIn K cd12 "Book.__setitem__" = true)
    (k12 : PySem.W.keepIn K (.ref f12) = true)
    (a13 : PySem.W.nsIn K mainGlobals "_law_book" = some (some (.ref f13)))
    (l13 : K.lookup f13 = some ⟨oc13, od13, .func (PySem.W.fnOf "_law_book" "_law_book" (defArgs s_l_book) (defBody s_l_book) (defScope s_l_book) .none kV13 dc13 pm13 an13 cd13 ct13), sl13⟩)
    (c13 : PySem.W.codeIn K cd13 "_law_book" = true)
    (k13 : PySem.W.keepIn K (.ref f13) = true)
    (a14 : PySem.W.findIn K (.ref C22) "places" = some (some (.ref f14)))
    (i14 : PySem.W.isFn K (.ref f14) = true)
    (l14 : K.lookup f14 = some ⟨oc14, od14, .func (PySem.W.fnOf "places" "Book.places" (defArgs s_Book_places) (defBody s_Book_places) (defScope s_Book_places) .none kV14 dc14 pm14 an14 cd14 ct14), sl14⟩)
    (c14 : PySem.W.codeIn K cd14 "Book.places" = true)
    (k14 : PySem.W.keepIn K (.ref f14) = true)
    (a15 : PySem.W.findIn K (.ref C8) "__init__" = some (some (.ref f15)))
    (i15 : PySem.W.isFn K (.ref f15) = true)
    (ti15 : PySem.W.typeIn K (.ref f15) = some (.type "function"))
    (l15 : K.lookup f15 = some ⟨oc15, od15, .func (PySem.W.fnOf "__init__" "NoEntry.__init__" (defArgs s_NoEntry_init) (defBody s_NoEntry_init) (defScope s_NoEntry_init) .none kV15 dc15 pm15 an15 cd15 ct15), sl15⟩)
    (c15 : PySem.W.codeIn K cd15 "NoEntry.__init__" = true)
    (k15 : PySem.W.keepIn K (.ref f15) = true)
    (a16 : PySem.W.findIn K (.ref C22) "__getitem__" = some (some (.ref f16)))
    (i16 : PySem.W.isFn K (.ref f16) = true)
    (l16 : K.lookup f16 = some ⟨oc16, od16, .func (PySem.W.fnOf "__getitem__" "Book.__getitem__" (defArgs s_Book_getitem) (defBody s_Book_getitem) (defScope s_Book_getitem) .none kV16 dc16 pm16 an16 cd16 ct16), sl16⟩)
    (c16 : PySem.W.codeIn K cd16 "Book.__getitem__" = true)
    (k16 : PySem.W.keepIn K (.ref f16) = true)
    (a17 : PySem.W.nsIn K mainGlobals "_law_kept" = some (some (.ref f17)))
    (l17 : K.lookup f17 = some ⟨oc17, od17, .func (PySem.W.fnOf "_law_kept" "_law_kept" (defArgs s_l_kept) (defBody s_l_kept) (defScope s_l_kept) .none kV17 dc17 pm17 an17 cd17 ct17), sl17⟩)
    (c17 : PySem.W.codeIn K cd17 "_law_kept" = true)
    (k17 : PySem.W.keepIn K (.ref f17) = true)
    (a18 : PySem.W.nsIn K mainGlobals "_law_named" = some (some (.ref f18)))
    (l18 : K.lookup f18 = some ⟨oc18, od18, .func (PySem.W.fnOf "_law_named" "_law_named" (defArgs s_l_named) (defBody s_l_named) (defScope s_l_named) .none kV18 dc18 pm18 an18 cd18 ct18), sl18⟩)
    (c18 : PySem.W.codeIn K cd18 "_law_named" = true)
    (k18 : PySem.W.keepIn K (.ref f18) = true)
    (a19 : PySem.W.findIn K (.ref C22) "__len__" = some (some (.ref f19)))
    (i19 : PySem.W.isFn K (.ref f19) = true)
    (l19 : K.lookup f19 = some ⟨oc19, od19, .func (PySem.W.fnOf "__len__" "Book.__len__" (defArgs s_Book_len) (defBody s_Book_len) (defScope s_Book_len) .none kV19 dc19 pm19 an19 cd19 ct19), sl19⟩)
    (c19 : PySem.W.codeIn K cd19 "Book.__len__" = true)
    (k19 : PySem.W.keepIn K (.ref f19) = true)
    (a20 : PySem.W.findIn K (.ref C22) "__contains__" = some (some (.ref f20)))
    (i20 : PySem.W.isFn K (.ref f20) = true)
    (l20 : K.lookup f20 = some ⟨oc20, od20, .func (PySem.W.fnOf "__contains__" "Book.__contains__" (defArgs s_Book_contains) (defBody s_Book_contains) (defScope s_Book_contains) .none kV20 dc20 pm20 an20 cd20 ct20), sl20⟩)
    (c20 : PySem.W.codeIn K cd20 "Book.__contains__" = true)
    (k20 : PySem.W.keepIn K (.ref f20) = true)
    (a21 : PySem.W.findIn K (.ref C22) "_names_of" = some (some (.ref f21)))
    (i21 : PySem.W.isFn K (.ref f21) = true)
    (l21 : K.lookup f21 = some ⟨oc21, od21, .func (PySem.W.fnOf "_names_of" "Book._names_of" (defArgs s_Book__names_of) (defBody s_Book__names_of) (defScope s_Book__names_of) .none kV21 dc21 pm21 an21 cd21 ct21), sl21⟩)
    (c21 : PySem.W.codeIn K cd21 "Book._names_of" = true)
    (k21 : PySem.W.keepIn K (.ref f21) = true)
    (a22 : PySem.W.findIn K (.ref C22) "lots" = some (some (.ref f22)))
    (i22 : PySem.W.isFn K (.ref f22) = true)
    (l22 : K.lookup f22 = some ⟨oc22, od22, .func (PySem.W.fnOf "lots" "Book.lots" (defArgs s_Book_lots) (defBody s_Book_lots) (defScope s_Book_lots) .none kV22 dc22 pm22 an22 cd22 ct22), sl22⟩)
    (c22 : PySem.W.codeIn K cd22 "Book.lots" = true)
    (k22 : PySem.W.keepIn K (.ref f22) = true)
    (a23 : PySem.W.findIn K (.ref C22) "sales" = some (some (.ref f23)))
    (i23 : PySem.W.isFn K (.ref f23) = true)
    (l23 : K.lookup f23 = some ⟨oc23, od23, .func (PySem.W.fnOf "sales" "Book.sales" (defArgs s_Book_sales) (defBody s_Book_sales) (defScope s_Book_sales) .none kV23 dc23 pm23 an23 cd23 ct23), sl23⟩)
    (c23 : PySem.W.codeIn K cd23 "Book.sales" = true)
    (k23 : PySem.W.keepIn K (.ref f23) = true)
    (a24 : PySem.W.findIn K (.ref C22) "late_costs" = some (some (.ref f24)))
    (i24 : PySem.W.isFn K (.ref f24) = true)
    (l24 : K.lookup f24 = some ⟨oc24, od24, .func (PySem.W.fnOf "late_costs" "Book.late_costs" (defArgs s_Book_late_costs) (defBody s_Book_late_costs) (defScope s_Book_late_costs) .none kV24 dc24 pm24 an24 cd24 ct24), sl24⟩)
    (c24 : PySem.W.codeIn K cd24 "Book.late_costs" = true)
    (k24 : PySem.W.keepIn K (.ref f24) = true)
    (a25 : PySem.W.nsIn K mainGlobals "_law_lists_right" = some (some (.ref f25)))
    (l25 : K.lookup f25 = some ⟨oc25, od25, .func (PySem.W.fnOf "_law_lists_right" "_law_lists_right" (defArgs s_l_lists_right) (defBody s_l_lists_right) (defScope s_l_lists_right) .none kV25 dc25 pm25 an25 cd25 ct25), sl25⟩)
    (c25 : PySem.W.codeIn K cd25 "_law_lists_right" = true)
    (k25 : PySem.W.keepIn K (.ref f25) = true)
    (a26 : PySem.W.findIn K (.ref C22) "joined" = some (some (.ref f26)))
    (i26 : PySem.W.isFn K (.ref f26) = true)
    (l26 : K.lookup f26 = some ⟨oc26, od26, .func (PySem.W.fnOf "joined" "Book.joined" (defArgs s_Book_joined) (defBody s_Book_joined) (defScope s_Book_joined) .none kV26 dc26 pm26 an26 cd26 ct26), sl26⟩)
    (c26 : PySem.W.codeIn K cd26 "Book.joined" = true)
    (k26 : PySem.W.keepIn K (.ref f26) = true)
    (a27 : PySem.W.findIn K (.ref C22) "remove" = some (some (.ref f27)))
    (i27 : PySem.W.isFn K (.ref f27) = true)
    (l27 : K.lookup f27 = some ⟨oc27, od27, .func (PySem.W.fnOf "remove" "Book.remove" (defArgs s_Book_remove) (defBody s_Book_remove) (defScope s_Book_remove) .none kV27 dc27 pm27 an27 cd27 ct27), sl27⟩)
    (c27 : PySem.W.codeIn K cd27 "Book.remove" = true)
    (k27 : PySem.W.keepIn K (.ref f27) = true)
    (a28 : PySem.W.nsIn K mainGlobals "_law_joined_right" = some (some (.ref f28)))
    (l28 : K.lookup f28 = some ⟨oc28, od28, .func (PySem.W.fnOf "_law_joined_right" "_law_joined_right" (defArgs s_l_joined_right) (defBody s_l_joined_right) (defScope s_l_joined_right) .none kV28 dc28 pm28 an28 cd28 ct28), sl28⟩)
    (c28 : PySem.W.codeIn K cd28 "_law_joined_right" = true)
    (k28 : PySem.W.keepIn K (.ref f28) = true)
    (a29 : PySem.W.nsIn K mainGlobals "_law_unlike" = some (some (.ref f29)))
    (l29 : K.lookup f29 = some ⟨oc29, od29, .func (PySem.W.fnOf "_law_unlike" "_law_unlike" (defArgs s_l_unlike) (defBody s_l_unlike) (defScope s_l_unlike) .none kV29 dc29 pm29 an29 cd29 ct29), sl29⟩)
    (c29 : PySem.W.codeIn K cd29 "_law_unlike" = true)
    (k29 : PySem.W.keepIn K (.ref f29) = true)
    (a30 : PySem.W.nsIn K mainGlobals "_law_clash" = some (some (.ref f30)))
    (l30 : K.lookup f30 = some ⟨oc30, od30, .func (PySem.W.fnOf "_law_clash" "_law_clash" (defArgs s_l_clash) (defBody s_l_clash) (defScope s_l_clash) .none kV30 dc30 pm30 an30 cd30 ct30), sl30⟩)
    (c30 : PySem.W.codeIn K cd30 "_law_clash" = true)
    (k30 : PySem.W.keepIn K (.ref f30) = true)
    (a31 : PySem.W.nsIn K mainGlobals "law" = some (some (.ref f31)))
    (l31 : K.lookup f31 = some ⟨oc31, od31, .func (PySem.W.fnOf "law" "law" (defArgs s_law) (defBody s_law) (defScope s_law) .none kV31 dc31 pm31 an31 cd31 ct31), sl31⟩)
    (c31 : PySem.W.codeIn K cd31 "law" = true)
    (k31 : PySem.W.keepIn K (.ref f31) = true)
    (fn16 : PySem.W.fnIn K f16 = true)
    : ∃ fd : FuncData, (∀ (s : Shared) (v : Value), BindsTo s fd ⟨[v], []⟩ [("_law_script", v)]) ∧ ∀ base : Heap, K.In base → base.Ns mainGlobals mg → FnOk l.prog w K mg base (L2N.CX l.prog w) 7 fa fd ["_law_script"] (sp_law K fun _ => 0) := by
  have e := hfa.symm.trans (PySem.W.mg_of X G a31)
  cases e
  have T : Txt K mg (fun n => if n = 0 then C0 else if n = 7 then C7 else if n = 8 then C8 else if n = 22 then C22 else 0) := ⟨PySem.W.mg_none_of X G z_abs, PySem.W.mg_none_of X G z_all, PySem.W.mg_none_of X G z_bool, PySem.W.mg_none_of X G z_int, PySem.W.mg_none_of X G z_isinstance, PySem.W.mg_none_of X G z_len, PySem.W.mg_none_of X G z_list, PySem.W.mg_none_of X G z_min, PySem.W.mg_none_of X G z_range, PySem.W.mg_none_of X G z_sorted, PySem.W.mg_none_of X G z_str, PySem.W.mg_none_of X G z_tuple, ⟨_, PySem.W.mg_of X G zc__LONGEST⟩, ⟨_, PySem.W.mg_of X G zc__MOST⟩, PySem.W.mg_of X G aC0, PySem.W.mg_of X G aC7, exm1 fsb_BadEntry fxi_BadEntry fty_BadEntry fxs_BadEntry, ⟨fy1_BadEntry, fy2_BadEntry, fsb_BadEntry, fy3_BadEntry, fy4_BadEntry, fo5, fo6, fy7_BadEntry⟩, ⟨⟨_, _, _, _, _, _, _, _, _, _, _, _, _, _, _, xl_BadEntry, fxr_BadEntry⟩, sa_BadEntry, fsb_BadEntry, fty_BadEntry, kpr_BadEntry⟩, ⟨fy1_BadEntry, fy2_BadEntry, fsb_BadEntry, fy3_BadEntry⟩, fnf_BadEntry_day, fnf_BadEntry_number, ⟨⟨_, _, _, _, _, _, _, _, _, _, _, _, _, _, _, xl_NoEntry, fxr_NoEntry⟩, sa_NoEntry, fsb_NoEntry, fty_NoEntry, kpr_NoEntry⟩, fnf_NoEntry_day, fnf_NoEntry_number, ⟨pg22, hd22, po22, sa22⟩, fna_Book__entries, fnq_Book, fun f h => fn_get a16 fn16 h, fki_BadEntry_CostError⟩
  have F0 := fun_mk (st := s_l_bag) l0 c0 k0
  have b0 := F0.binds (ps := ["_law_script"]) fun _ _ _ _ _ _ us hl => match us, hl with | [_], _ => rfl
  have F1 := fun_mk (st := s_l_draw) l1 c1 k1
  have b1 := F1.binds (ps := ["_law_bag_here", "_law_size"]) fun _ _ _ _ _ _ us hl => match us, hl with | [_, _], _ => rfl
  have F2 := fun_mk (st := s_l_names) l2 c2 k2
  have b2 := F2.binds (ps := ["_law_bag_here", "_law_count", "_law_words"]) fun _ _ _ _ _ _ us hl => match us, hl with | [_, _, _], _ => rfl
  have F3 := fun_mk (st := s_l_next) l3 c3 k3
  have b3 := F3.binds (ps := ["_law_bag_here", "_law_entries_here"]) fun _ _ _ _ _ _ us hl => match us, hl with | [_, _], _ => rfl
  have F4 := fun_mk (st := s_l_pick) l4 c4 k4
  have b4 := F4.binds (ps := ["_law_bag_here", "_law_items"]) fun _ _ _ _ _ _ us hl => match us, hl with | [_, _], _ => rfl
  have F5 := fun_mk (st := s_l_entries) l5 c5 k5
  have b5 := F5.binds (ps := ["_law_bag_here", "_law_most"]) fun _ _ _ _ _ _ us hl => match us, hl with | [_, _], _ => rfl
  have F6 := fun_mk (st := s_l_mixed) l6 c6 k6
  have b6 := F6.binds (ps := ["_law_bag_here", "_law_items"]) fun _ _ _ _ _ _ us hl => match us, hl with | [_, _], _ => rfl
  have F7 := fun_mk (st := s_Book_init) l7 c7 k7
  have b7 := F7.binds (ps := ["self"]) fun _ _ _ _ _ _ us hl => match us, hl with | [_], _ => rfl
  have F8 := fun_mk (st := s_is_whole) l8 c8 k8
  have b8 := F8.binds (ps := ["number", "least"]) fun _ _ _ _ _ _ us hl => match us, hl with | [_, _], _ => rfl
  have F9 := fun_mk (st := s_is_name) l9 c9 k9
  have b9 := F9.binds (ps := ["name"]) fun _ _ _ _ _ _ us hl => match us, hl with | [_], _ => rfl
  have F10 := fun_mk (st := s_is_entry) l10 c10 k10
  have b10 := F10.binds (ps := ["entry"]) fun _ _ _ _ _ _ us hl => match us, hl with | [_], _ => rfl
  have F11 := fun_mk (st := s_BadEntry_init) l11 c11 k11
  have b11 := F11.binds (ps := ["self", "day", "number"]) fun _ _ _ _ _ _ us hl => match us, hl with | [_, _, _], _ => rfl
  have F12 := fun_mk (st := s_Book_setitem) l12 c12 k12
  have b12 := F12.binds (ps := ["self", "at", "worth"]) fun _ _ _ _ _ _ us hl => match us, hl with | [_, _, _], _ => rfl
  have F13 := fun_mk (st := s_l_book) l13 c13 k13
  have b13 := F13.binds (ps := ["_law_entries_here"]) fun _ _ _ _ _ _ us hl => match us, hl with | [_], _ => rfl
  have F14 := fun_mk (st := s_Book_places) l14 c14 k14
  have b14 := F14.binds (ps := ["self"]) fun _ _ _ _ _ _ us hl => match us, hl with | [_], _ => rfl
  have F15 := fun_mk (st := s_NoEntry_init) l15 c15 k15
  have b15 := F15.binds (ps := ["self", "day", "number"]) fun _ _ _ _ _ _ us hl => match us, hl with | [_, _, _], _ => rfl
  have F16 := fun_mk (st := s_Book_getitem) l16 c16 k16
  have b16 := F16.binds (ps := ["self", "at"]) fun _ _ _ _ _ _ us hl => match us, hl with | [_, _], _ => rfl
  have F17 := fun_mk (st := s_l_kept) l17 c17 k17
  have b17 := F17.binds (ps := ["_law_book_here"]) fun _ _ _ _ _ _ us hl => match us, hl with | [_], _ => rfl
  have F18 := fun_mk (st := s_l_named) l18 c18 k18
  have b18 := F18.binds (ps := ["_law_kept_here", "_law_kind"]) fun _ _ _ _ _ _ us hl => match us, hl with | [_, _], _ => rfl
  have F19 := fun_mk (st := s_Book_len) l19 c19 k19
  have b19 := F19.binds (ps := ["self"]) fun _ _ _ _ _ _ us hl => match us, hl with | [_], _ => rfl
  have F20 := fun_mk (st := s_Book_contains) l20 c20 k20
  have b20 := F20.binds (ps := ["self", "x"]) fun _ _ _ _ _ _ us hl => match us, hl with | [_, _], _ => rfl
  have F21 := fun_mk (st := s_Book__names_of) l21 c21 k21
  have b21 := F21.binds (ps := ["self", "kind"]) fun _ _ _ _ _ _ us hl => match us, hl with | [_, _], _ => rfl
  have F22 := fun_mk (st := s_Book_lots) l22 c22 k22
  have b22 := F22.binds (ps := ["self"]) fun _ _ _ _ _ _ us hl => match us, hl with | [_], _ => rfl
  have F23 := fun_mk (st := s_Book_sales) l23 c23 k23
  have b23 := F23.binds (ps := ["self"]) fun _ _ _ _ _ _ us hl => match us, hl with | [_], _ => rfl
  have F24 := fun_mk (st := s_Book_late_costs) l24 c24 k24
  have b24 := F24.binds (ps := ["self"]) fun _ _ _ _ _ _ us hl => match us, hl with | [_], _ => rfl
  have F25 := fun_mk (st := s_l_lists_right) l25 c25 k25
  have b25 := F25.binds (ps := ["_law_book_here", "_law_kept_here", "_law_spots"]) fun _ _ _ _ _ _ us hl => match us, hl with | [_, _, _], _ => rfl
  have F26 := fun_mk (st := s_Book_joined) l26 c26 k26
  have b26 := F26.binds (ps := ["self", "other"]) fun _ _ _ _ _ _ us hl => match us, hl with | [_, _], _ => rfl
  have F27 := fun_mk (st := s_Book_remove) l27 c27 k27
  have b27 := F27.binds (ps := ["self", "day", "number"]) fun _ _ _ _ _ _ us hl => match us, hl with | [_, _, _], _ => rfl
  have F28 := fun_mk (st := s_l_joined_right) l28 c28 k28
  have b28 := F28.binds (ps := ["_law_one", "_law_other", "_law_kept_here", "_law_spots"]) fun _ _ _ _ _ _ us hl => match us, hl with | [_, _, _, _], _ => rfl
  have F29 := fun_mk (st := s_l_unlike) l29 c29 k29
  have b29 := F29.binds (ps := ["_law_bag_here", "_law_entry"]) fun _ _ _ _ _ _ us hl => match us, hl with | [_, _], _ => rfl
  have F30 := fun_mk (st := s_l_clash) l30 c30 k30
  have b30 := F30.binds (ps := ["_law_one", "_law_other"]) fun _ _ _ _ _ _ us hl => match us, hl with | [_, _], _ => rfl
  have F31 := fun_mk (st := s_law) l31 c31 k31
  have b31 := F31.binds (ps := ["_law_script"]) fun _ _ _ _ _ _ us hl => match us, hl with | [_], _ => rfl
  refine ⟨PySem.W.fnOf "law" "law" (defArgs s_law) (defBody s_law) (defScope s_law) .none kV31 dc31 pm31 an31 cd31 ct31, fun s v => .of_eq rfl, fun base _ _ => ?_⟩
  have O0 : Own l.prog w K mg base 1 "_law_bag" ["_law_script"] (sp_l_bag K (fun n => if n = 0 then C0 else if n = 7 then C7 else if n = 8 then C8 else if n = 22 then C22 else 0)) := ⟨⟨f0, _, ok_l_bag F0 T , PySem.W.mg_of X G a0, k0, b0⟩⟩
  have O1 : Own l.prog w K mg base 1 "_law_draw" ["_law_bag_here", "_law_size"] (sp_l_draw K (fun n => if n = 0 then C0 else if n = 7 then C7 else if n = 8 then C8 else if n = 22 then C22 else 0)) := ⟨⟨f1, _, ok_l_draw F1 T , PySem.W.mg_of X G a1, k1, b1⟩⟩
  have O2 : Own l.prog w K mg base 2 "_law_names" ["_law_bag_here", "_law_count", "_law_words"] (sp_l_names K (fun n => if n = 0 then C0 else if n = 7 then C7 else if n = 8 then C8 else if n = 22 then C22 else 0)) := ⟨⟨f2, _, ok_l_names F2 T O1, PySem.W.mg_of X G a2, k2, b2⟩⟩
  have O3 : Own l.prog w K mg base 2 "_law_next" ["_law_bag_here", "_law_entries_here"] (sp_l_next K (fun n => if n = 0 then C0 else if n = 7 then C7 else if n = 8 then C8 else if n = 22 then C22 else 0)) := ⟨⟨f3, _, ok_l_next F3 T O1, PySem.W.mg_of X G a3, k3, b3⟩⟩
  have O4 : Own l.prog w K mg base 2 "_law_pick" ["_law_bag_here", "_law_items"] (sp_l_pick K (fun n => if n = 0 then C0 else if n = 7 then C7 else if n = 8 then C8 else if n = 22 then C22 else 0)) := ⟨⟨f4, _, ok_l_pick F4 T O1, PySem.W.mg_of X G a4, k4, b4⟩⟩
  have O5 : Own l.prog w K mg base 3 "_law_entries" ["_law_bag_here", "_law_most"] (sp_l_entries K (fun n => if n = 0 then C0 else if n = 7 then C7 else if n = 8 then C8 else if n = 22 then C22 else 0)) := ⟨⟨f5, _, ok_l_entries F5 T O2 O1 O3 O4, PySem.W.mg_of X G a5, k5, b5⟩⟩
  have O6 : Own l.prog w K mg base 2 "_law_mixed" ["_law_bag_here", "_law_items"] (sp_l_mixed K (fun n => if n = 0 then C0 else if n = 7 then C7 else if n = 8 then C8 else if n = 22 then C22 else 0)) := ⟨⟨f6, _, ok_l_mixed F6 T O1, PySem.W.mg_of X G a6, k6, b6⟩⟩
  have O7_0 : OwnI l.prog w K mg base 1 "Book" C22 ["self"] [] (sp_Book_init K (fun n => if n = 0 then C0 else if n = 7 then C7 else if n = 8 then C8 else if n = 22 then C22 else 0)) := ⟨⟨f7, _, _, ok_Book_init F7 T , ⟨mk22, a7, i7, kc22⟩, PySem.W.mg_of X G aC22, b7, .nil⟩⟩
  have O8 : Own l.prog w K mg base 1 "is_whole" ["number", "least"] (sp_is_whole K (fun n => if n = 0 then C0 else if n = 7 then C7 else if n = 8 then C8 else if n = 22 then C22 else 0)) := ⟨⟨f8, _, ok_is_whole F8 T , PySem.W.mg_of X G a8, k8, b8⟩⟩
  have O9 : Own l.prog w K mg base 1 "is_name" ["name"] (sp_is_name K (fun n => if n = 0 then C0 else if n = 7 then C7 else if n = 8 then C8 else if n = 22 then C22 else 0)) := ⟨⟨f9, _, ok_is_name F9 T , PySem.W.mg_of X G a9, k9, b9⟩⟩
  have O10 : Own l.prog w K mg base 2 "is_entry" ["entry"] (sp_is_entry K (fun n => if n = 0 then C0 else if n = 7 then C7 else if n = 8 then C8 else if n = 22 then C22 else 0)) := ⟨⟨f10, _, ok_is_entry F10 T O9 O8, PySem.W.mg_of X G a10, k10, b10⟩⟩
  have O11 : OwnE l.prog w K mg base "BadEntry" C7 ["day", "number"] := ⟨T.ox_BadEntry, ⟨f11, _, _, ok_BadEntry_init F11 T , a11, ti11, PySem.W.mg_of X G aC7, b11⟩⟩
  have O12 : OwnM l.prog w K mg base 3 C22 "__setitem__" ["self", "at", "worth"] (sp_Book_setitem K (fun n => if n = 0 then C0 else if n = 7 then C7 else if n = 8 then C8 else if n = 22 then C22 else 0)) := ⟨⟨pg22, hd22, po22, sa22⟩, ⟨f12, _, ok_Book_setitem F12 T O8 O10 O11, ⟨a12, i12, k12⟩, b12⟩⟩
  have O13 : Own l.prog w K mg base 4 "_law_book" ["_law_entries_here"] (sp_l_book K (fun n => if n = 0 then C0 else if n = 7 then C7 else if n = 8 then C8 else if n = 22 then C22 else 0)) := ⟨⟨f13, _, ok_l_book F13 T O7_0 O12, PySem.W.mg_of X G a13, k13, b13⟩⟩
  have O14 : OwnM l.prog w K mg base 1 C22 "places" ["self"] (sp_Book_places K (fun n => if n = 0 then C0 else if n = 7 then C7 else if n = 8 then C8 else if n = 22 then C22 else 0)) := ⟨⟨pg22, hd22, po22, sa22⟩, ⟨f14, _, ok_Book_places F14 T , ⟨a14, i14, k14⟩, b14⟩⟩
  have O15 : OwnE l.prog w K mg base "NoEntry" C8 ["day", "number"] := ⟨T.ox_NoEntry, ⟨f15, _, _, ok_NoEntry_init F15 T , a15, ti15, PySem.W.mg_of X G aC8, b15⟩⟩
  have O16 : OwnM l.prog w K mg base 3 C22 "__getitem__" ["self", "at"] (sp_Book_getitem K (fun n => if n = 0 then C0 else if n = 7 then C7 else if n = 8 then C8 else if n = 22 then C22 else 0)) := ⟨⟨pg22, hd22, po22, sa22⟩, ⟨f16, _, ok_Book_getitem F16 T O15, ⟨a16, i16, k16⟩, b16⟩⟩
  have O17 : Own l.prog w K mg base 5 "_law_kept" ["_law_book_here"] (sp_l_kept K (fun n => if n = 0 then C0 else if n = 7 then C7 else if n = 8 then C8 else if n = 22 then C22 else 0)) := ⟨⟨f17, _, ok_l_kept F17 T O14 O16, PySem.W.mg_of X G a17, k17, b17⟩⟩
  have O18 : Own l.prog w K mg base 1 "_law_named" ["_law_kept_here", "_law_kind"] (sp_l_named K (fun n => if n = 0 then C0 else if n = 7 then C7 else if n = 8 then C8 else if n = 22 then C22 else 0)) := ⟨⟨f18, _, ok_l_named F18 T , PySem.W.mg_of X G a18, k18, b18⟩⟩
  have O19 : OwnM l.prog w K mg base 1 C22 "__len__" ["self"] (sp_Book_len K (fun n => if n = 0 then C0 else if n = 7 then C7 else if n = 8 then C8 else if n = 22 then C22 else 0)) := ⟨⟨pg22, hd22, po22, sa22⟩, ⟨f19, _, ok_Book_len F19 T , ⟨a19, i19, k19⟩, b19⟩⟩
  have O20 : OwnM l.prog w K mg base 1 C22 "__contains__" ["self", "x"] (sp_Book_contains K (fun n => if n = 0 then C0 else if n = 7 then C7 else if n = 8 then C8 else if n = 22 then C22 else 0)) := ⟨⟨pg22, hd22, po22, sa22⟩, ⟨f20, _, ok_Book_contains F20 T , ⟨a20, i20, k20⟩, b20⟩⟩
  have O21 : OwnM l.prog w K mg base 2 C22 "_names_of" ["self", "kind"] (sp_Book__names_of K (fun n => if n = 0 then C0 else if n = 7 then C7 else if n = 8 then C8 else if n = 22 then C22 else 0)) := ⟨⟨pg22, hd22, po22, sa22⟩, ⟨f21, _, ok_Book__names_of F21 T O14, ⟨a21, i21, k21⟩, b21⟩⟩
  have O22 : OwnM l.prog w K mg base 3 C22 "lots" ["self"] (sp_Book_lots K (fun n => if n = 0 then C0 else if n = 7 then C7 else if n = 8 then C8 else if n = 22 then C22 else 0)) := ⟨⟨pg22, hd22, po22, sa22⟩, ⟨f22, _, ok_Book_lots F22 T O21, ⟨a22, i22, k22⟩, b22⟩⟩
  have O23 : OwnM l.prog w K mg base 3 C22 "sales" ["self"] (sp_Book_sales K (fun n => if n = 0 then C0 else if n = 7 then C7 else if n = 8 then C8 else if n = 22 then C22 else 0)) := ⟨⟨pg22, hd22, po22, sa22⟩, ⟨f23, _, ok_Book_sales F23 T O21, ⟨a23, i23, k23⟩, b23⟩⟩
  have O24 : OwnM l.prog w K mg base 3 C22 "late_costs" ["self"] (sp_Book_late_costs K (fun n => if n = 0 then C0 else if n = 7 then C7 else if n = 8 then C8 else if n = 22 then C22 else 0)) := ⟨⟨pg22, hd22, po22, sa22⟩, ⟨f24, _, ok_Book_late_costs F24 T O21, ⟨a24, i24, k24⟩, b24⟩⟩
  have O25 : Own l.prog w K mg base 4 "_law_lists_right" ["_law_book_here", "_law_kept_here", "_law_spots"] (sp_l_lists_right K (fun n => if n = 0 then C0 else if n = 7 then C7 else if n = 8 then C8 else if n = 22 then C22 else 0)) := ⟨⟨f25, _, ok_l_lists_right F25 T O18 O19 O20 O22 O23 O24, PySem.W.mg_of X G a25, k25, b25⟩⟩
  have O26 : OwnM l.prog w K mg base 5 C22 "joined" ["self", "other"] (sp_Book_joined K (fun n => if n = 0 then C0 else if n = 7 then C7 else if n = 8 then C8 else if n = 22 then C22 else 0)) := ⟨⟨pg22, hd22, po22, sa22⟩, ⟨f26, _, ok_Book_joined F26 T O7_0 O11 O14 O20 O16 O12, ⟨a26, i26, k26⟩, b26⟩⟩
  have O27 : OwnM l.prog w K mg base 3 C22 "remove" ["self", "day", "number"] (sp_Book_remove K (fun n => if n = 0 then C0 else if n = 7 then C7 else if n = 8 then C8 else if n = 22 then C22 else 0)) := ⟨⟨pg22, hd22, po22, sa22⟩, ⟨f27, _, ok_Book_remove F27 T O15, ⟨a27, i27, k27⟩, b27⟩⟩
  have O28 : Own l.prog w K mg base 6 "_law_joined_right" ["_law_one", "_law_other", "_law_kept_here", "_law_spots"] (sp_l_joined_right K (fun n => if n = 0 then C0 else if n = 7 then C7 else if n = 8 then C8 else if n = 22 then C22 else 0)) := ⟨⟨f28, _, ok_l_joined_right F28 T O17 O25 O7_0 O19 O12 O26 O27, PySem.W.mg_of X G a28, k28, b28⟩⟩
  have O29 : Own l.prog w K mg base 2 "_law_unlike" ["_law_bag_here", "_law_entry"] (sp_l_unlike K (fun n => if n = 0 then C0 else if n = 7 then C7 else if n = 8 then C8 else if n = 22 then C22 else 0)) := ⟨⟨f29, _, ok_l_unlike F29 T O1, PySem.W.mg_of X G a29, k29, b29⟩⟩
  have O30 : Own l.prog w K mg base 6 "_law_clash" ["_law_one", "_law_other"] (sp_l_clash K (fun n => if n = 0 then C0 else if n = 7 then C7 else if n = 8 then C8 else if n = 22 then C22 else 0)) := ⟨⟨f30, _, ok_l_clash F30 T O26, PySem.W.mg_of X G a30, k30, b30⟩⟩
  have z : FnOk l.prog w K mg base (L2N.CX l.prog w) 7 _ _ ["_law_script"] (sp_law K (fun n => if n = 0 then C0 else if n = 7 then C7 else if n = 8 then C8 else if n = 22 then C22 else 0)) := ok_law F31 T O0 O5 O6 O13 O28 O1 O17 O29 O30 O20 O16 O12
  exact z
end Lo
open PySem PySem.W PyProof.Rows in
set_option maxRecDepth 100000 in
set_option maxHeartbeats 0 in
theorem PySem.Challenge.cw_lotcosts_k33_books_joined_holds : PySem.Challenge.rw_lotcosts_k33_books_joined.Holds := by
  w_on; o_law; k_head; (case hw => w_witness2)
  k_fill
  refine Lo.walk (l := PySem.Challenge.rw_lotcosts_k33_books_joined) 7 ⟨rfl, by decide, by decide⟩ rfl rfl (fun w h Y => PySem.W.kIn_of Y) ?F
  case F =>
    intro w mg fa h KX G hmg
    refine' Lo.all_mk KX G hmg ?aC0 ?aC7 ?aC8 ?aC22 ?pg22 ?hd22 ?po22 ?sa22 ?mk22 ?kc22 ?z_abs ?z_all ?z_bool ?z_int ?z_isinstance ?z_len ?z_list ?z_min ?z_range ?z_sorted ?z_str ?z_tuple ?zc__LONGEST ?zc__MOST ?fsb_BadEntry ?fxi_BadEntry ?fty_BadEntry ?fxs_BadEntry ?fy1_BadEntry ?fy2_BadEntry ?fy3_BadEntry ?fy4_BadEntry ?fo5 ?fo6 ?fy7_BadEntry ?xl_BadEntry ?fxr_BadEntry ?sa_BadEntry ?kpr_BadEntry ?fnf_BadEntry_day ?fnf_BadEntry_number ?xl_NoEntry ?fxr_NoEntry ?sa_NoEntry ?kpr_NoEntry ?fsb_NoEntry ?fty_NoEntry ?fnf_NoEntry_day ?fnf_NoEntry_number ?fna_Book__entries ?fnq_Book ?fki_BadEntry_CostError ?a0 ?l0 ?c0 ?k0 ?a1 ?l1 ?c1 ?k1 ?a2 ?l2 ?c2 ?k2 ?a3 ?l3 ?c3 ?k3 ?a4 ?l4 ?c4 ?k4 ?a5 ?l5 ?c5 ?k5 ?a6 ?l6 ?c6 ?k6 ?a7 ?i7 ?l7 ?c7 ?k7 ?a8 ?l8 ?c8 ?k8 ?a9 ?l9 ?c9 ?k9 ?a10 ?l10 ?c10 ?k10 ?a11 ?i11 ?ti11 ?l11 ?c11 ?k11 ?a12 ?i12 ?l12 ?c12 ?k12 ?a13 ?l13 ?c13 ?k13 ?a14 ?i14 ?l14 ?c14 ?k14 ?a15 ?i15 ?ti15 ?l15 ?c15 ?k15 ?a16 ?i16 ?l16 ?c16 ?k16 ?a17 ?l17 ?c17 ?k17 ?a18 ?l18 ?c18 ?k18 ?a19 ?i19 ?l19 ?c19 ?k19 ?a20 ?i20 ?l20 ?c20 ?k20 ?a21 ?i21 ?l21 ?c21 ?k21 ?a22 ?i22 ?l22 ?c22 ?k22 ?a23 ?i23 ?l23 ?c23 ?k23 ?a24 ?i24 ?l24 ?c24 ?k24 ?a25 ?l25 ?c25 ?k25 ?a26 ?i26 ?l26 ?c26 ?k26 ?a27 ?i27 ?l27 ?c27 ?k27 ?a28 ?l28 ?c28 ?k28 ?a29 ?l29 ?c29 ?k29 ?a30 ?l30 ?c30 ?k30 ?a31 ?l31 ?c31 ?k31 ?fn16
    (case aC0 => k_is)
    (case aC7 => k_is)
    (case aC8 => k_is)
    (case aC22 => k_is)
    (case pg22 => k_is)
    (case hd22 => k_is)
    (case po22 => k_is)
    (case sa22 => k_is)
    (case mk22 => k_is)
    (case kc22 => k_is)
    (case z_abs => k_is)
    (case z_all => k_is)
    (case z_bool => k_is)
    (case z_int => k_is)
    (case z_isinstance => k_is)
    (case z_len => k_is)
    (case z_list => k_is)
    (case z_min => k_is)
    (case z_range => k_is)
    (case z_sorted => k_is)
    (case z_str => k_is)
    (case z_tuple => k_is)
    (case zc__LONGEST => k_is)
    (case zc__MOST => k_is)
    (case fsb_BadEntry => k_is)
    (case fxi_BadEntry => k_is)
    (case fty_BadEntry => k_is)
    (case fxs_BadEntry => first | rfl | k_is)
    (case fy1_BadEntry => k_is)
    (case fy2_BadEntry => k_is)
    (case fy3_BadEntry => k_is)
    (case fy4_BadEntry => k_is)
    (case fo5 => k_is)
    (case fo6 => k_is)
    (case fy7_BadEntry => k_is)
    (case xl_BadEntry => k_is)
    (case fxr_BadEntry => rfl)
    (case sa_BadEntry => k_is)
    (case kpr_BadEntry => k_is)
    (case fnf_BadEntry_day => k_is)
    (case fnf_BadEntry_number => k_is)
    (case xl_NoEntry => k_is)
    (case fxr_NoEntry => rfl)
    (case sa_NoEntry => k_is)
    (case kpr_NoEntry => k_is)
    (case fsb_NoEntry => k_is)
    (case fty_NoEntry => k_is)
    (case fnf_NoEntry_day => k_is)
    (case fnf_NoEntry_number => k_is)
    (case fna_Book__entries => k_is)
    (case fnq_Book => k_is)
    (case fki_BadEntry_CostError => kit_is)
    (case a0 => k_is)
    (case l0 => k_is)
    (case c0 => k_is)
    (case k0 => k_is)
    (case a1 => k_is)
    (case l1 => k_is)
    (case c1 => k_is)
    (case k1 => k_is)
    (case a2 => k_is)
    (case l2 => k_is)
    (case c2 => k_is)
    (case k2 => k_is)
    (case a3 => k_is)
    (case l3 => k_is)
    (case c3 => k_is)
    (case k3 => k_is)
    (case a4 => k_is)
    (case l4 => k_is)
    (case c4 => k_is)
    (case k4 => k_is)
    (case a5 => k_is)
    (case l5 => k_is)
    (case c5 => k_is)
    (case k5 => k_is)
    (case a6 => k_is)
    (case l6 => k_is)
    (case c6 => k_is)
    (case k6 => k_is)
    (case a7 => k_is)
    (case i7 => k_is)
    (case l7 => k_is)
    (case c7 => k_is)
    (case k7 => k_is)
    (case a8 => k_is)
    (case l8 => k_is)
    (case c8 => k_is)
    (case k8 => k_is)
    (case a9 => k_is)
    (case l9 => k_is)
    (case c9 => k_is)
    (case k9 => k_is)
    (case a10 => k_is)
    (case l10 => k_is)
    (case c10 => k_is)
    (case k10 => k_is)
    (case a11 => k_is)
    (case i11 => k_is)
    (case ti11 => k_is)
    (case l11 => k_is)
    (case c11 => k_is)
    (case k11 => k_is)
    (case a12 => k_is)
    (case i12 => k_is)
    (case l12 => k_is)
    (case c12 => k_is)
    (case k12 => k_is)
    (case a13 => k_is)
    (case l13 => k_is)
    (case c13 => k_is)
    (case k13 => k_is)
    (case a14 => k_is)
    (case i14 => k_is)
    (case l14 => k_is)
    (case c14 => k_is)
    (case k14 => k_is)
    (case a15 => k_is)
    (case i15 => k_is)
    (case ti15 => k_is)
    (case l15 => k_is)
    (case c15 => k_is)
    (case k15 => k_is)
    (case a16 => k_is)
    (case i16 => k_is)
    (case l16 => k_is)
    (case c16 => k_is)
    (case k16 => k_is)
    (case a17 => k_is)
    (case l17 => k_is)
    (case c17 => k_is)
    (case k17 => k_is)
    (case a18 => k_is)
    (case l18 => k_is)
    (case c18 => k_is)
    (case k18 => k_is)
    (case a19 => k_is)
    (case i19 => k_is)
    (case l19 => k_is)
    (case c19 => k_is)
    (case k19 => k_is)
    (case a20 => k_is)
    (case i20 => k_is)
    (case l20 => k_is)
    (case c20 => k_is)
    (case k20 => k_is)
    (case a21 => k_is)
    (case i21 => k_is)
    (case l21 => k_is)
    (case c21 => k_is)
    (case k21 => k_is)
    (case a22 => k_is)
    (case i22 => k_is)
    (case l22 => k_is)
    (case c22 => k_is)
    (case k22 => k_is)
    (case a23 => k_is)
    (case i23 => k_is)
    (case l23 => k_is)
    (case c23 => k_is)
    (case k23 => k_is)
    (case a24 => k_is)
    (case i24 => k_is)
    (case l24 => k_is)
    (case c24 => k_is)
    (case k24 => k_is)
    (case a25 => k_is)
    (case l25 => k_is)
    (case c25 => k_is)
    (case k25 => k_is)
    (case a26 => k_is)
    (case i26 => k_is)
    (case l26 => k_is)
    (case c26 => k_is)
    (case k26 => k_is)
    (case a27 => k_is)
    (case i27 => k_is)
    (case l27 => k_is)
    (case c27 => k_is)
    (case k27 => k_is)
    (case a28 => k_is)
    (case l28 => k_is)
    (case c28 => k_is)
    (case k28 => k_is)
    (case a29 => k_is)
    (case l29 => k_is)
    (case c29 => k_is)
    (case k29 => k_is)
    (case a30 => k_is)
    (case l30 => k_is)
    (case c30 => k_is)
    (case k30 => k_is)
    (case a31 => k_is)
    (case l31 => k_is)
    (case c31 => k_is)
    (case k31 => k_is)
    (case fn16 => k_is)
#print axioms PySem.Challenge.cw_lotcosts_k33_books_joined_holds
