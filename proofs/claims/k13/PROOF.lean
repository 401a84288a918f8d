import PyProof.Rows.All
import Wide.All
import OpenK.AllK
import Wide.FinOn
import HandS.ForMost
import HandS.ForExc
import HandS.Flow
import HandS.Wide
import HandS.Gcd
import HandS.IsInst
import HandS.EndBits
import HandS.Defaults
import HandS.Style
import HandS.TryMany
import HandS.ExcIs
import HandS.Small
import HandS.ClsMeth
import HandS.Evl
import KE.RegKIsAll
import PySem.Challenge.RW_lotcosts_k13_division_by_zero
set_option Elab.async false
set_option linter.all false
set_option maxRecDepth 100000
set_option maxHeartbeats 4000000
namespace Lo
open PySem PySem.Spec PyProof.Rows L2

/-! ### heaps -/
theorem sget {H H' : Hp} {a : Addr} {o : HO} (s : Same H H') (h : H a = some o) : H' a = some o := s a o h
/-- all but what stands at b is as it was -/
def Keep (b : Addr) (H H' : Hp) : Prop := ∀ a o, H a = some o → a ≠ b → H' a = some o
theorem Keep.of {b : Addr} {H H' : Hp} (s : Same H H') : Keep b H H' := fun a o h _ => s a o h
theorem Keep.trans {b : Addr} {H H1 H2 : Hp} (s : Keep b H H1) (t : Keep b H1 H2) : Keep b H H2 := fun a o h n => t a o (s a o h n) n
theorem kget {b : Addr} {H H' : Hp} {a : Addr} {o : HO} (s : Keep b H H') (n : a ≠ b) (h : H a = some o) : H' a = some o := s a o h n
theorem same_upd {H : Hp} {p : Addr} {o : HO} (h : H p = none) : Same H (upd H p o) := fun a u e => by rw [upd_ne (ne_of_none e h)]; exact e
theorem keep_upd {H : Hp} {p : Addr} {o : HO} : Keep p H (upd H p o) := fun a u e n => by rw [upd_ne n]; exact e
theorem same_put {H H' : Hp} {p : Addr} {o : HO} (n : H p = none) (s : Same H H') : Same H (upd H' p o) := fun a u e => by rw [upd_ne (ne_of_none e n)]; exact s a u e
theorem gen_new {H G : Hp} {p : Addr} {o : HO} (n : H p = none) (g : upd H p o = G) : Same H G ∧ G p = some o := by
  subst g
  exact ⟨same_upd n, upd_same⟩
theorem gen_put {H G : Hp} {p : Addr} {o : HO} (g : upd H p o = G) : Keep p H G ∧ G p = some o := by
  subst g
  exact ⟨keep_upd, upd_same⟩
theorem SqL.same {K : PySem.W.Frag} {H H' : Hp} {a : Addr} {xs : List V} (s : Same H H') (h : SqL K H a xs) : SqL K H' a xs := s.seq h

/-! ### a word between an expression and what follows -/
def tMid (t : TE) : TE := fun σ H Q => ∃ M : V → Hp → Prop, t σ H M ∧ ∀ v H', M v H' → Q v H'
theorem pe_mid {X : Cx} {e : Expr} {t : TE} (h : PE X e t) : PE X e (tMid t) := ⟨fun pins s σ H Q I ⟨M, hm, hq⟩ => thn (h.run pins s σ H M I hm) fun u s1 ⟨v, H1, I1, r, m⟩ => ⟨v, H1, I1, r, hq v H1 m⟩⟩
def tMidT (t : TT) : TT := fun σ H Q => ∃ M : Bool → Hp → Prop, t σ H M ∧ ∀ v H', M v H' → Q v H'
theorem pt_mid {X : Cx} {e : Expr} {t : TT} (h : PT X e t) : PT X e (tMidT t) := ⟨fun pins s σ H Q I ⟨M, hm, hq⟩ => thn (h.run pins s σ H M I hm) fun b s1 ⟨H1, I1, m⟩ => ⟨H1, I1, hq b H1 m⟩⟩
/-! ### own defs, as their callers see them -/
structure Own (P : Program) (w : World) (K : PySem.W.Frag) (mg : Str → Option Value) (base : Heap) (k : Nat) (x : Str) (ps : List Str) (sp : Sp) : Prop where
  ex : ∃ f fd, FnOk P w K mg base (L2.CX P w) k f fd ps sp ∧ mg x = some (.ref f) ∧ PySem.W.keepIn K (.ref f) = true ∧ Binds K fd ps []
structure OwnM (P : Program) (w : World) (K : PySem.W.Frag) (mg : Str → Option Value) (base : Heap) (k : Nat) (C : Addr) (m : Str) (ps : List Str) (sp : Sp) : Prop where
  cl : Cls K C
  ex : ∃ f fd, FnOk P w K mg base (L2.CX P w) k f fd ps sp ∧ Meth K C m f ∧ Binds K fd ps []
structure OwnI (P : Program) (w : World) (K : PySem.W.Frag) (mg : Str → Option Value) (base : Heap) (k : Nat) (x : Str) (C : Addr) (ps : List Str) (dvs : List V) (sp : Sp) : Prop where
  ex : ∃ f fd ds, FnOk P w K mg base (L2.CX P w) k f fd ps sp ∧ Mk K C f ∧ mg x = some (.ref C) ∧ Binds K fd ps ds ∧ Vals dvs ds

section
variable {X : Cx} {k : Nat} {C : Addr} {ps : List Str} {sp : Sp} {E : L2.St → XK} {x m : Str} {p pos apos : Pos} {e o : Expr} {es : List Expr} {ta : TE} {t : TA} {dvs : List V}

theorem pas0 {X : Cx} : ∀ σ, PassesAt (L2.CX X.prog X.w) X σ ((fun _ => E0) σ) := fun σ pins H s e s' I h => by
  obtain ⟨_, _, _, _, _, _, _, _, _, _, _, _, z⟩ := h
  exact z.elim
theorem pasE {X : Cx} {E : XK} (tk : Takes X (fun cls d _ H => E cls d H)) : ∀ σ, PassesAt (L2.CX X.prog X.w) X σ ((fun _ => E) σ) := fun σ => passAt (W := fun cls d _ H => E cls d H) tk σ
theorem pe_own (O : Own X.prog X.w X.K X.mg X.base k x ps sp) (hr : Room k X.A) (hg : Gl X x) (hx : ∀ σ, PassesAt (L2.CX X.prog X.w) X σ (E σ)) (ha : PA X (e :: es) t)
    (hdb : (x == ("__debug__" : Str)) = false := by decide) (he : starEach (e :: es) X.env = (false, eval e X.env) :: starEach es X.env := by rfl) (hpl : (backTo pos (starEach es X.env)).any (·.1) = false := by rfl) :
    PE X (.Call (.Name x p) (e :: es) [] pos) (tCallS sp E t) := by
  obtain ⟨f, fd, F, hm, hk, hb⟩ := O.ex
  exact pe_callS F hr hg hm hk hb hx ha hdb he hpl

def tMethS (C : Addr) (m : Str) (sp : Sp) (E : L2.St → XK) (ta : TE) (t : TA) : TE := fun σ H Q => ta σ H fun x H1 => ∃ a dx fs, x = .ref a ∧ H1 a = some (.ins C dx fs) ∧ fs.lookup m = none ∧
  t σ H1 fun vs H2 => sp (x :: vs) H2 Q (E σ)
theorem pe_ownm {pl : Sem Bool} (O : OwnM X.prog X.w X.K X.mg X.base k C m ps sp) (he : PE X o ta) (hr : Room k X.A) (hx : ∀ σ, PassesAt (L2.CX X.prog X.w) X σ (E σ)) (ha : PA X (e :: es) t)
    (hst : starEach (e :: es) X.env = (false, eval e X.env) :: starEach es X.env := by rfl) (hpl : (backTo pos (starEach es X.env)).any (·.1) = false := by rfl)
    (ht : eval (.Call (.Attribute o m apos) (e :: es) [] pos) X.env = (do
      let ov ← eval o X.env
      standAt apos.atName
      let (f, first) ← holding [ov] (getMethod ov m pl)
      callWith pos f first (backTo pos (starEach (e :: es) X.env)) (backToKw pos (keywordEach [] X.env))) := by rfl) :
    PE X (.Call (.Attribute o m apos) (e :: es) [] pos) (tMethS C m sp E ta t) := by
  obtain ⟨f, fd, F, hm, hb⟩ := O.ex
  refine ⟨fun pins s σ H Q I h => ?_⟩
  refine PySem.W.methodCall_KW (pl := pl) (thn (he.run pins s σ H _ I h) fun u s1 ⟨x, H1, I1, rx, a, dx, fs, ex, ea, l, q⟩ => ?_) ht
  subst ex
  obtain rfl : u = Value.ref a := rx
  refine getmeth_ok I1 ea O.cl hm l ?_
  refine PySem.W.callWith_K (first := [.ref a]) (h₀ := X.base) I.ok.mod.kin hm.kp (thn (ha.run pos pins s1 σ H1 _ I1 q) fun us s2 ⟨vs, H2, I2, r, q2⟩ => ⟨I2.kIn, ?_⟩) hst hpl
  exact run_fnS (us := .ref a :: us) (vs := .ref a :: vs) F hr hb (hx σ) I2 (.cons rfl r) q2
theorem pe_ownm0 {pl : Sem Bool} (O : OwnM X.prog X.w X.K X.mg X.base k C m ps sp) (he : PE X o ta) (hr : Room k X.A) (hx : ∀ σ, PassesAt (L2.CX X.prog X.w) X σ (E σ))
    (ht : eval (.Call (.Attribute o m apos) [] [] pos) X.env = (do
      let ov ← eval o X.env
      standAt apos.atName
      let (f, first) ← holding [ov] (getMethod ov m pl)
      callWith pos f first (backTo pos (starEach [] X.env)) (backToKw pos (keywordEach [] X.env))) := by rfl) :
    PE X (.Call (.Attribute o m apos) [] [] pos) (tMethS C m sp E ta tNil) := by
  obtain ⟨f, fd, F, hm, hb⟩ := O.ex
  refine ⟨fun pins s σ H Q I h => ?_⟩
  refine PySem.W.methodCall_KW (pl := pl) (thn (he.run pins s σ H _ I h) fun u s1 ⟨x, H1, I1, rx, a, dx, fs, ex, ea, l, q⟩ => ?_) ht
  subst ex
  obtain rfl : u = Value.ref a := rx
  refine getmeth_ok I1 ea O.cl hm l ?_
  exact PySem.W.callWith_K0 (first := [.ref a]) I1.kIn hm.kp (run_fnS (us := [.ref a]) (vs := [.ref a]) F hr hb (hx σ) I1 (.cons rfl .nil) q)

def tMakeS (C : Addr) (sp : Sp) (dvs : List V) (E : L2.St → XK) (t : TA) : TE := fun σ H Q => t σ H fun vs H1 => ∀ x dx, H1 x = none → H1 dx = none → dx ≠ x →
  sp (.ref x :: (vs ++ dvs)) (upd (upd H1 dx (.own x)) x (.ins C dx [])) (fun v H2 => v = .non ∧ Q (.ref x) H2) (E σ)
theorem run_makeS {f : Addr} {fd : FuncData} {ds : List Value} {pins : List (Addr × Obj)} {σ : L2.St} {H : Hp} {s : Shared} {Q : VK} {us : List Value} {vs : List V} (M : Mk X.K C f) (F : FnOk X.prog X.w X.K X.mg X.base (L2.CX X.prog X.w) k f fd ps sp)
    (hr : Room (k + 1) X.A) (hb : Binds X.K fd ps ds) (hd : Vals dvs ds) (hx : PassesAt (L2.CX X.prog X.w) X σ (E σ)) (I : Inv X pins σ H s) (r : Vals vs us)
    (h : ∀ x dx, H x = none → H dx = none → dx ≠ x → sp (.ref x :: (vs ++ dvs)) (upd (upd H dx (.own x)) x (.ins C dx [])) (fun v H2 => v = .non ∧ Q (.ref x) H2) (E σ)) :
    wpAny (model X.prog X.w) X.A (call (.ref C) us) (EP X pins σ Q) X.xe s := by
  have hq := h (s.heap.objs.size + 1) s.heap.objs.size (I.hok.fresh (Nat.le_succ _)) (I.hok.fresh (Nat.le_refl _)) (Nat.ne_of_lt (Nat.lt_succ_self _))
  have I2 := Inv.made (C := C) I
  have r2 : Vals (V.ref (s.heap.objs.size + 1) :: (vs ++ dvs)) (Value.ref (s.heap.objs.size + 1) :: (us ++ ds)) := .cons rfl (r.append hd)
  have hl : (Value.ref (s.heap.objs.size + 1) :: us ++ ds).length = ps.length := by
    have e := r2.length
    rw [F.len _ _ _ _ hq] at e
    exact e.symm
  refine wpAny_call (make_map (f := f) I.kIn M.makes M.init (beq_iff_eq.mp M.fn) (codeAny_mono (F.run _ X.stack _ _ ⟨Value.ref (s.heap.objs.size + 1) :: us, []⟩ (Value.ref (s.heap.objs.size + 1) :: (us ++ ds)) _ _ (E σ) (hr.make C us [])
    (I2.env0.make C us []) (hb _ (Value.ref (s.heap.objs.size + 1) :: us) I2.kIn hl) r2 hq) fun r s' hq' => ?_))
  cases r with
  | error e => exact hx pins _ _ e s' I2 hq'
  | ok fl =>
    cases fl with
    | ret u =>
      obtain ⟨v, H', I3, rv, ev, q3⟩ := I2.after hq'
      subst ev
      exact ⟨rv, ⟨V.ref (s.heap.objs.size + 1), H', I3, rfl, q3⟩⟩
    | next => exact False.elim hq'
    | brk => exact False.elim hq'
    | cont => exact False.elim hq'
theorem pe_owni (O : OwnI X.prog X.w X.K X.mg X.base k x C ps dvs sp) (hr : Room (k + 1) X.A) (hg : Gl X x) (hx : ∀ σ, PassesAt (L2.CX X.prog X.w) X σ (E σ)) (ha : PA X (e :: es) t)
    (hdb : (x == ("__debug__" : Str)) = false := by decide) (he : starEach (e :: es) X.env = (false, eval e X.env) :: starEach es X.env := by rfl) (hpl : (backTo pos (starEach es X.env)).any (·.1) = false := by rfl) :
    PE X (.Call (.Name x p) (e :: es) [] pos) (tMakeS C sp dvs E t) := by
  obtain ⟨f, fd, ds, F, M, hm, hb, hd⟩ := O.ex
  refine ⟨fun pins s σ H Q I h => ?_⟩
  refine wpAny_Call_Name_kw (ld_glob I hg hm ?_ hdb)
  refine PySem.W.callWith_K (h₀ := X.base) I.ok.mod.kin M.kp (thn (ha.run pos pins s σ H _ I h) fun us s1 ⟨vs, H1, I1, r, q⟩ => ⟨I1.kIn, ?_⟩) he hpl
  exact run_makeS M F hr hb hd (hx σ) I1 r q
end

def rLenSeq (K : PySem.W.Frag) : List V → Hp → VK → Prop := fun xs H Q => ∃ p ys, xs = [V.ref p] ∧ (SqL K H p ys ∨ SqT K H p ys) ∧ Q (.int ys.length) H
/-! ### operators on ints, further -/
section
variable {X : Cx}
theorem op_mulI : OpR X (binaryOp .Mult) (rI IntMulOk fun i j => .int (i * j)) := opI fun _ _ _ _ _ _ _ hc q => mul_int q hc
def CDivA (_ j : Int) : Prop := j ≠ 0 ∧ j.natAbs.log2 < 9000
theorem op_fdivA : OpR X (binaryOp .FloorDiv) (rI CDivA fun i j => .int (i.fdiv j)) := opI fun i j _ _ _ _ _ hc q => floordiv_int hc.1 q (.inl (PyProof.noPylong_of_log2 hc.2))
end
theorem mok_l {i j : Int} (h : i.natAbs < 2 ^ 64) : IntMulOk i j := by
  have e : (2 : Nat) ^ 64 = 18446744073709551616 := by decide
  rw [e] at h
  exact CMul.ok (.inl ⟨by omega, by omega⟩)
theorem mok_r {i j : Int} (h : j.natAbs < 2 ^ 64) : IntMulOk i j := by
  have e : (2 : Nat) ^ 64 = 18446744073709551616 := by decide
  rw [e] at h
  exact CMul.ok (.inr ⟨by omega, by omega⟩)
theorem mok_w {i j : Int} {a b : Nat} (ha : i.natAbs < 2 ^ a) (hb : j.natAbs < 2 ^ b) (h0 : 0 < a := by decide) (h1 : 0 < b := by decide) (h : a + b ≤ 1000000 := by decide) : IntMulOk i j := CMulW.ok (wide_mul ha hb h0 h1 h)
theorem une {H : Hp} {a p : Addr} {o u : HO} (n : a ≠ p) (h : H a = some o) : upd H p u a = some o := by rw [upd_ne n]; exact h
theorem sqL_of {K : PySem.W.Frag} {H : Hp} {a : Addr} {xs : List V} (h : H a = some (.lst xs)) : SqL K H a xs := SqL.of h
theorem ix_c {xs : List V} {z : Int} {v : V} (h : xs[z.toNat]? = some v) (h0 : 0 ≤ z := by decide) : atI xs z = some v := at_of (Int.toNat_of_nonneg h0).symm h

/-! ### tests whose outcome is open -/
theorem iteI {i j : Int} {A B : Prop} (h1 : i = j → A) (h2 : i ≠ j → B) : if decide (V.int i = V.int j) = true then A else B := by
  by_cases e : i = j
  · rw [decide_eq_true (congrArg V.int e)]
    exact iteT (h1 e)
  · rw [decide_eq_false fun z => e (V.int.inj z)]
    exact iteF (h2 e)
theorem iteIn {i j : Int} {A B : Prop} (h1 : i ≠ j → A) (h2 : i = j → B) : if (!decide (V.int i = V.int j)) = true then A else B := by
  by_cases e : i = j
  · rw [decide_eq_true (congrArg V.int e)]
    exact iteF (h2 e)
  · rw [decide_eq_false fun z => e (V.int.inj z)]
    exact iteT (h1 e)
theorem iteD {p : Prop} [Decidable p] {A B : Prop} (h1 : p → A) (h2 : ¬ p → B) : if decide p = true then A else B := by
  by_cases e : p
  · rw [decide_eq_true e]
    exact iteT (h1 e)
  · rw [decide_eq_false e]
    exact iteF (h2 e)
theorem iteDn {p : Prop} [Decidable p] {A B : Prop} (h1 : ¬ p → A) (h2 : p → B) : if (!decide p) = true then A else B := by
  by_cases e : p
  · rw [decide_eq_true e]
    exact iteF (h2 e)
  · rw [decide_eq_false e]
    exact iteT (h1 e)
theorem iteZ {y : Int} {A B : Prop} (h1 : y ≠ 0 → A) (h2 : y = 0 → B) : if (y != 0) = true then A else B := by
  by_cases e : y = 0
  · subst e
    exact iteF (h2 rfl)
  · rw [bne_iff_ne.mpr e]
    exact iteT (h1 e)
theorem iteDT {p : Prop} [Decidable p] {A B : Prop} (h : p) (a : A) : if decide p = true then A else B := iteD (fun _ => a) fun n => absurd h n
theorem iteDF {p : Prop} [Decidable p] {A B : Prop} (h : ¬ p) (a : B) : if decide p = true then A else B := iteD (fun n => absurd n h) fun _ => a
theorem iteDnT {p : Prop} [Decidable p] {A B : Prop} (h : p) (a : B) : if (!decide p) = true then A else B := iteDn (fun n => absurd h n) fun _ => a
theorem line_le {n : Nat} (h : n ≤ 16777216) : n ≤ sizeLine := by
  rw [sizeLine_eq]
  exact h

/-! ### the law's bag: what is drawn from it is any number below the size -/
/-- a bag stands at b, its script at L -/
def Bag (H : Hp) (L b : Addr) : Prop := ∃ (ns : List Int) (i : Nat) (big mix cnt : Int), H b = some (.lst [.ref L, .int i, .int big, .int mix, .int cnt]) ∧ H L = some (.lst (ns.map V.int)) ∧ L ≠ b
theorem Bag.same {H H' : Hp} {L b : Addr} (s : Same H H') (h : Bag H L b) : Bag H' L b := by
  obtain ⟨ns, i, big, mix, cnt, h1, h2, h3⟩ := h
  exact ⟨ns, i, big, mix, cnt, s _ _ h1, s _ _ h2, h3⟩
theorem Bag.some {H : Hp} {L b : Addr} (h : Bag H L b) : H b ≠ none := by
  obtain ⟨ns, i, big, mix, cnt, h1, h2, h3⟩ := h
  rw [h1]
  exact fun z => nomatch z
theorem Bag.someL {H : Hp} {L b : Addr} (h : Bag H L b) : H L ≠ none := by
  obtain ⟨ns, i, big, mix, cnt, h1, h2, h3⟩ := h
  rw [h2]
  exact fun z => nomatch z
/-- what was made behind the bag stands apart from it -/
theorem Bag.ne {H : Hp} {L b p : Addr} (h : Bag H L b) (n : H p = none) : p ≠ b := fun e => h.some (e ▸ n)
theorem Bag.neL {H : Hp} {L b p : Addr} (h : Bag H L b) (n : H p = none) : p ≠ L := fun e => h.someL (e ▸ n)
/-- another object was changed -/
theorem Bag.keep {H H' : Hp} {L b p : Addr} (h : Bag H L b) (k : Keep p H H') (n : p ≠ b) (n2 : p ≠ L) : Bag H' L b := by
  obtain ⟨ns, i, big, mix, cnt, h1, h2, h3⟩ := h
  exact ⟨ns, i, big, mix, cnt, k _ _ h1 n.symm, k _ _ h2 n2.symm, h3⟩
theorem Bag.mk {H : Hp} {L b : Addr} {ns : List Int} {i : Nat} {big mix cnt : Int} (hb : H b = Option.some (.lst [.ref L, .int i, .int big, .int mix, .int cnt])) (hL : H L = Option.some (.lst (ns.map V.int))) (n : L ≠ b) : Bag H L b :=
  ⟨ns, i, big, mix, cnt, hb, hL, n⟩

/-! ### fields by name -/
theorem lk0 {a : Str} {v : V} {r : List (Str × V)} : ((a, v) :: r).lookup a = some v := by simp [List.lookup]
theorem lk1 {a b : Str} {u : V} {o : Option V} {r : List (Str × V)} (h : (b == a) = false) (k : r.lookup b = o) : ((a, u) :: r).lookup b = o := by
  simp only [List.lookup, h]
  exact k
theorem lkn {b : Str} : ([] : List (Str × V)).lookup b = none := rfl
theorem putF_nil {f : Str} {v : V} : putF f v [] = [(f, v)] := rfl
theorem putF_ne {f g : Str} {u v : V} {r : List (Str × V)} (h : ¬ g = f) : putF f v ((g, u) :: r) = (g, u) :: putF f v r := if_neg h
theorem putF_eq {f : Str} {u v : V} {r : List (Str × V)} : putF f v ((f, u) :: r) = (f, v) :: r := if_pos rfl
theorem same_made {H H2 : Hp} {x dx C : Addr} (nx : H x = none) (nd : H dx = none) (ne : dx ≠ x) (k : Keep x (upd (upd H dx (.own x)) x (.ins C dx [])) H2) : Same H H2 := fun a o e => by
  have n1 := ne_of_none e nx
  have n2 := ne_of_none e nd
  exact k a o (by rw [upd_ne n1, upd_ne n2]; exact e) n1

/-! ### an own exception class, made without arguments -/
theorem pmk_own0 {X : Cx} {C : Addr} {bmB : List Value} {B newId initId : String} {x : Str} {p pos : Pos} (F : ExcBaseFacts B newId initId bmB) (q : PySem.W.excIn X.K C bmB newId = true) (gC : X.mg x = some (.ref C))
    (kC : PySem.W.keepIn X.K (.ref C) = true) (r : Raises X (.ref C)) (hg : Gl X x) (hdb : (x == ("__debug__" : Str)) = false := by decide) : PMk X (.Call (.Name x p) [] [] pos) (fun _ H Q => Q (.ref C) none H) := by
  intro pins s σ H Q I h
  refine wpAny_Call_Name_kw (ld_glob I hg gC ?_ hdb)
  refine PySem.W.callWith_K0 I.kIn kC ?_
  obtain ⟨bm, N, nm, qn, bs, hdct, sn, sub, ab, col, dd, k0, k1, k2, k3, k5, mN, hC, hN, hni, T⟩ := exc_obj I.kIn q
  refine wpAny_call_exc_subT F T hC hN hni (fun h' e hm => ?_) (Nat.zero_le _)
  exact mk_of I hm r h (I.hok.gone hm.new)

theorem erase_perm {α : Type} : ∀ {l : List α} {i : Nat} (h : i < l.length), (l[i] :: l.eraseIdx i).Perm l
  | a :: l, 0, _ => .refl _
  | a :: l, i + 1, h => by
    have ih := erase_perm (l := l) (i := i) (by simpa using h)
    simp only [List.getElem_cons_succ, List.eraseIdx_cons_succ]
    exact (List.Perm.swap _ _ _).trans (.cons _ ih)
/-! ### numbers in lowest terms -/
/-- a / b in lowest terms -/
def nrmC (a b : Int) : Int := if b < 0 then -((Nat.gcd a.natAbs b.natAbs : Nat) : Int) else ((Nat.gcd a.natAbs b.natAbs : Nat) : Int)
def nrm (a b : Int) : Int × Int := (a.fdiv (nrmC a b), b.fdiv (nrmC a b))
theorem nrmC_ne {a b : Int} (h : b ≠ 0) : nrmC a b ≠ 0 := by
  have g : 0 < Nat.gcd a.natAbs b.natAbs := Nat.gcd_pos_of_pos_right _ (by omega)
  unfold nrmC
  split <;> omega
theorem nrmC_abs {a b : Int} : (nrmC a b).natAbs = Nat.gcd a.natAbs b.natAbs := by
  unfold nrmC
  split <;> omega
theorem nrmC_log {a b : Int} (h : b ≠ 0) (hb : b.natAbs.log2 < 9000) : (nrmC a b).natAbs.log2 < 9000 := by
  rw [nrmC_abs]
  have g : Nat.gcd a.natAbs b.natAbs ≤ b.natAbs := Nat.gcd_le_right _ (by omega)
  have hb2 : b.natAbs < 2 ^ 9000 := (Nat.log2_lt (by omega)).mp hb
  exact (Nat.log2_lt (by have := Nat.gcd_pos_of_pos_right a.natAbs (show 0 < b.natAbs by omega); omega)).mpr (Nat.lt_of_le_of_lt g hb2)
theorem nrmC_dvd_a {a b : Int} : nrmC a b ∣ a := by
  have h : ((Nat.gcd a.natAbs b.natAbs : Nat) : Int) ∣ a := Int.ofNat_dvd_left.mpr (Nat.gcd_dvd_left _ _)
  unfold nrmC
  split
  · exact Int.neg_dvd.mpr h
  · exact h
theorem nrmC_dvd_b {a b : Int} : nrmC a b ∣ b := by
  have h : ((Nat.gcd a.natAbs b.natAbs : Nat) : Int) ∣ b := Int.ofNat_dvd_left.mpr (Nat.gcd_dvd_right _ _)
  unfold nrmC
  split
  · exact Int.neg_dvd.mpr h
  · exact h
theorem fdiv_mul {a c : Int} (h : c ∣ a) : a.fdiv c * c = a := Int.fdiv_mul_cancel h
theorem nrm_a {a b : Int} : (nrm a b).1 * nrmC a b = a := fdiv_mul nrmC_dvd_a
theorem nrm_b {a b : Int} : (nrm a b).2 * nrmC a b = b := fdiv_mul nrmC_dvd_b
/-- in lowest terms -/
structure Red (t b : Int) : Prop where
  pos : 0 < b
  cop : Nat.gcd t.natAbs b.natAbs = 1
theorem nrm_red {a b : Int} (h : b ≠ 0) : Red (nrm a b).1 (nrm a b).2 := by
  have e1 := nrm_a (a := a) (b := b)
  have e2 := nrm_b (a := a) (b := b)
  have hc := nrmC_ne (a := a) h
  refine ⟨?_, ?_⟩
  · have s : (0 < b ∧ 0 < nrmC a b) ∨ (b < 0 ∧ nrmC a b < 0) := by
      have g : 0 < Nat.gcd a.natAbs b.natAbs := Nat.gcd_pos_of_pos_right _ (by omega)
      unfold nrmC
      split <;> omega
    rcases s with ⟨s1, s2⟩ | ⟨s1, s2⟩
    · exact Int.pos_of_mul_pos_left (by rw [e2]; exact s1) s2
    · refine Int.pos_of_mul_pos_left (b := -nrmC a b) ?_ (by omega)
      rw [Int.mul_neg, e2]
      omega
  · have g : 0 < Nat.gcd a.natAbs b.natAbs := Nat.gcd_pos_of_pos_right _ (by omega)
    have f1 : (nrm a b).1.natAbs * Nat.gcd a.natAbs b.natAbs = a.natAbs := by
      have := congrArg Int.natAbs e1
      rw [Int.natAbs_mul, nrmC_abs] at this
      exact this
    have f2 : (nrm a b).2.natAbs * Nat.gcd a.natAbs b.natAbs = b.natAbs := by
      have := congrArg Int.natAbs e2
      rw [Int.natAbs_mul, nrmC_abs] at this
      exact this
    have f3 : Nat.gcd ((nrm a b).1.natAbs * Nat.gcd a.natAbs b.natAbs) ((nrm a b).2.natAbs * Nat.gcd a.natAbs b.natAbs) = Nat.gcd a.natAbs b.natAbs := by rw [f1, f2]
    rw [Nat.gcd_mul_right] at f3
    exact Nat.eq_of_mul_eq_mul_right g (by rw [f3, Nat.one_mul])
theorem nrm_cross {a b : Int} : (nrm a b).1 * b = a * (nrm a b).2 := by
  have e1 := nrm_a (a := a) (b := b)
  have e2 := nrm_b (a := a) (b := b)
  have h : (nrm a b).1 * ((nrm a b).2 * nrmC a b) = (nrm a b).1 * nrmC a b * (nrm a b).2 := by
    rw [Int.mul_assoc, Int.mul_comm (nrmC a b)]
  rw [e1, e2] at h
  exact h
theorem Red.uniq {t b t' b' : Int} (h : Red t b) (h' : Red t' b') (e : t * b' = t' * b) : t = t' ∧ b = b' := by
  have hb := h.pos
  have hb' := h'.pos
  have f : t.natAbs * b'.natAbs = t'.natAbs * b.natAbs := by
    have := congrArg Int.natAbs e
    rw [Int.natAbs_mul, Int.natAbs_mul] at this
    exact this
  have c : Nat.Coprime b.natAbs t.natAbs := (Nat.gcd_comm _ _).trans h.cop
  have c' : Nat.Coprime b'.natAbs t'.natAbs := (Nat.gcd_comm _ _).trans h'.cop
  have d1 : b.natAbs ∣ b'.natAbs := c.dvd_of_dvd_mul_left ⟨t'.natAbs, by rw [f, Nat.mul_comm]⟩
  have d2 : b'.natAbs ∣ b.natAbs := c'.dvd_of_dvd_mul_left ⟨t.natAbs, by rw [← f, Nat.mul_comm]⟩
  have eb : b = b' := by
    have := Nat.dvd_antisymm d1 d2
    omega
  subst eb
  exact ⟨Int.eq_of_mul_eq_mul_right (by omega) e, rfl⟩
/-- which fraction stands for the number doesn't matter -/
theorem nrm_same {a b c d : Int} (hb : b ≠ 0) (hd : d ≠ 0) (e : a * d = c * b) : nrm a b = nrm c d := by
  have h1 := nrm_cross (a := a) (b := b)
  have h2 := nrm_cross (a := c) (b := d)
  have k : (nrm a b).1 * (nrm c d).2 = (nrm c d).1 * (nrm a b).2 := by
    refine Int.eq_of_mul_eq_mul_right (a := b * d) (Int.mul_ne_zero hb hd) ?_
    calc (nrm a b).1 * (nrm c d).2 * (b * d) = ((nrm a b).1 * b) * (d * (nrm c d).2) := by ac_rfl
      _ = (a * (nrm a b).2) * (d * (nrm c d).2) := by rw [h1]
      _ = (a * d) * ((nrm a b).2 * (nrm c d).2) := by ac_rfl
      _ = (c * b) * ((nrm a b).2 * (nrm c d).2) := by rw [e]
      _ = (c * (nrm c d).2) * ((nrm a b).2 * b) := by ac_rfl
      _ = ((nrm c d).1 * d) * ((nrm a b).2 * b) := by rw [h2]
      _ = (nrm c d).1 * (nrm a b).2 * (b * d) := by ac_rfl
  obtain ⟨e1, e2⟩ := (nrm_red hb).uniq (nrm_red hd) k
  exact Prod.ext e1 e2
theorem nrm_id {t b : Int} (h : Red t b) : nrm t b = (t, b) := by
  have hb := h.pos
  obtain ⟨e1, e2⟩ := (nrm_red (a := t) (b := b) (by omega)).uniq h nrm_cross
  exact Prod.ext e1 e2
theorem red_one {t : Int} : Red t 1 := ⟨by decide, by simp⟩
theorem nrm_one {t : Int} : nrm t 1 = (t, 1) := nrm_id red_one

theorem nrm_zero {a b : Int} (h : b ≠ 0) : (nrm a b).1 = 0 ↔ a = 0 := by
  have e := nrm_a (a := a) (b := b)
  have c := nrmC_ne (a := a) h
  constructor
  · intro z
    rw [z, Int.zero_mul] at e
    exact e.symm
  · intro z
    rw [z] at e
    rcases Int.mul_eq_zero.mp e with u | u
    · rw [z]
      exact u
    · rw [z] at c
      exact absurd u c
theorem nrm_ne {a b : Int} (h : b ≠ 0) : (nrm a b).2 ≠ 0 := by
  have := (nrm_red (a := a) h).pos
  omega
/-- a quotient of numbers in lowest terms -/
theorem nrm_over {a b c d : Int} (hb : b ≠ 0) (hd : d ≠ 0) (hc : c ≠ 0) : nrm ((nrm a b).1 * (nrm c d).2) ((nrm a b).2 * (nrm c d).1) = nrm (a * d) (b * c) := by
  have h1 := nrm_cross (a := a) (b := b)
  have h2 := nrm_cross (a := c) (b := d)
  have n1 := nrm_ne (a := a) hb
  have n2 : (nrm c d).1 ≠ 0 := fun z => hc ((nrm_zero hd).mp z)
  refine nrm_same (Int.mul_ne_zero n1 n2) (Int.mul_ne_zero hb hc) ?_
  calc (nrm a b).1 * (nrm c d).2 * (b * c) = ((nrm a b).1 * b) * (c * (nrm c d).2) := by ac_rfl
    _ = (a * (nrm a b).2) * ((nrm c d).1 * d) := by rw [h1, h2]
    _ = a * d * ((nrm a b).2 * (nrm c d).1) := by ac_rfl

/-! ### Ratios -/
/-- the ratio t / b stands at p -/
def RatAt (ca : Nat → Addr) (H : Hp) (p : Addr) (t b : Int) : Prop := Red t b ∧ ∃ dx, H p = some (.ins (ca 2) dx [("top", .int t), ("bottom", .int b)])
theorem RatAt.same {ca : Nat → Addr} {H H' : Hp} {p : Addr} {t b : Int} (h : RatAt ca H p t b) (s : Same H H') : RatAt ca H' p t b := ⟨h.1, let ⟨dx, e⟩ := h.2; ⟨dx, s _ _ e⟩⟩
/-- a number: an int, or a ratio -/
def NumV (ca : Nat → Addr) (H : Hp) (x : V) (t b : Int) : Prop := (x = .int t ∧ b = 1) ∨ ∃ p, x = .ref p ∧ RatAt ca H p t b
theorem NumV.same {ca : Nat → Addr} {H H' : Hp} {x : V} {t b : Int} (h : NumV ca H x t b) (s : Same H H') : NumV ca H' x t b :=
  h.imp id fun ⟨p, e, r⟩ => ⟨p, e, r.same s⟩
theorem NumV.red {ca : Nat → Addr} {H : Hp} {x : V} {t b : Int} (h : NumV ca H x t b) : Red t b := by
  rcases h with ⟨_, rfl⟩ | ⟨p, _, r⟩
  · exact red_one
  · exact r.1
theorem kit_self {K : PySem.W.Frag} {v : Value} : PySem.W.kitOne K v v = some true := if_pos (beq_iff_eq.mpr rfl)
theorem put_rat {x y : V} : putF "bottom" y (putF "top" x []) = ([("top", x), ("bottom", y)] : List (Str × V)) := by
  rw [putF_nil, putF_ne (by decide +kernel), putF_nil]
theorem lt164 {z : Int} (h0 : -(10 ^ 49 + 2) < z) (h : z < 10 ^ 49 + 2) : z.natAbs < 2 ^ 164 := by
  have e : (2 : Nat) ^ 164 = 23384026197294446691258957323460528314494920687616 := by decide
  have e2 : (10 : Int) ^ 49 = 10000000000000000000000000000000000000000000000000 := by decide
  rw [e]
  rw [e2] at h0 h
  omega
theorem lg164 {z : Int} (h : z.natAbs < 2 ^ 164) : z.natAbs.log2 < 9000 := Nat.lt_trans (PySem.Flt.log2_lt_of (by decide) h) (by decide)
theorem RatAt.mk {ca : Nat → Addr} {H : Hp} {p dx : Addr} {t b : Int} (h : Red t b) (e : H p = some (.ins (ca 2) dx [("top", .int (nrm t b).1), ("bottom", .int (nrm t b).2)])) : RatAt ca H p t b := by
  rw [nrm_id h] at e
  exact ⟨h, dx, e⟩
theorem RatAt.of {ca : Nat → Addr} {H : Hp} {p dx : Addr} {t b : Int} (h : b ≠ 0) (e : H p = some (.ins (ca 2) dx [("top", .int (nrm t b).1), ("bottom", .int (nrm t b).2)])) : RatAt ca H p (nrm t b).1 (nrm t b).2 := ⟨nrm_red h, dx, e⟩
theorem nrm_le1 {a b : Int} (h : b ≠ 0) : (nrm a b).1.natAbs ≤ a.natAbs := by
  have e := congrArg Int.natAbs (nrm_a (a := a) (b := b))
  rw [Int.natAbs_mul] at e
  have c : 0 < (nrmC a b).natAbs := by have := nrmC_ne (a := a) h; omega
  rw [← e]
  exact Nat.le_mul_of_pos_right _ c
theorem nrm_le2 {a b : Int} (h : b ≠ 0) : (nrm a b).2.natAbs ≤ b.natAbs := by
  have e := congrArg Int.natAbs (nrm_b (a := a) (b := b))
  rw [Int.natAbs_mul] at e
  have c : 0 < (nrmC a b).natAbs := by have := nrmC_ne (a := a) h; omega
  rw [← e]
  exact Nat.le_mul_of_pos_right _ c
/-- a pair of ints in lowest terms, none of them large -/
structure TupR (H : Hp) (p : Addr) (t b : Int) : Prop where
  red : Red t b
  st : t.natAbs < 2 ^ 170
  sb : b.natAbs < 2 ^ 170
  at_ : H p = some (.tup [.int t, .int b])
theorem tup_ne {H : Hp} {L b p : Addr} {xs : List V} (B : Bag H L b) (e : H p = some (.tup xs)) : p ≠ b := by
  obtain ⟨ns, i, big, mix, cnt, h1, _⟩ := B
  exact ne_of e h1 fun z => nomatch z
theorem TupR.keep {H H' : Hp} {L b p : Addr} {t u : Int} (h : TupR H p t u) (B : Bag H L b) (k : Keep b H H') : TupR H' p t u := ⟨h.red, h.st, h.sb, k _ _ h.at_ (tup_ne B h.at_)⟩
theorem TupR.same {H H' : Hp} {p : Addr} {t u : Int} (h : TupR H p t u) (s : Same H H') : TupR H' p t u := ⟨h.red, h.st, h.sb, s _ _ h.at_⟩
theorem TupR.of {H : Hp} {p : Addr} {a b : Int} (hb : b ≠ 0) (sa : a.natAbs < 2 ^ 164) (sb : b.natAbs < 2 ^ 164) (e : H p = some (.tup [.int (nrm a b).1, .int (nrm a b).2])) : TupR H p (nrm a b).1 (nrm a b).2 :=
  ⟨nrm_red hb, Nat.lt_of_le_of_lt (nrm_le1 hb) (Nat.lt_trans sa (by decide)), Nat.lt_of_le_of_lt (nrm_le2 hb) (Nat.lt_trans sb (by decide)), e⟩
theorem lg170 {z : Int} (h : z.natAbs < 2 ^ 170) : z.natAbs.log2 < 9000 := Nat.lt_trans (PySem.Flt.log2_lt_of (by decide) h) (by decide)
theorem m170 {x y : Int} (h : x.natAbs < 2 ^ 170) (h2 : y.natAbs < 2 ^ 170) : IntMulOk x y := mok_w h h2
theorem eqv2 {a b c d : Int} : PyData.eqv (.tuple [.int a, .int b]) (.tuple [.int c, .int d]) = decide (a = c ∧ b = d) := by
  by_cases h1 : a = c <;> by_cases h2 : b = d <;> simp [PyData.eqv, PyData.eqvAll, h1, h2]
/-- two pairs of ints, compared -/
theorem eqT {K : PySem.W.Frag} {H : Hp} {p q : Addr} {a b c d : Int} {Q : VK} (hp : H p = some (.tup [.int a, .int b])) (hq : H q = some (.tup [.int c, .int d])) (k : Q (.bl (decide (a = c ∧ b = d))) H) : rEqD K (.ref p) (.ref q) H Q := by
  refine ⟨.tuple [.int a, .int b], .tuple [.int c, .int d], .tup (SqT.of hp) (.cons (.int _) (.cons (.int _) .nil)), .tup (SqT.of hq) (.cons (.int _) (.cons (.int _) .nil)), rfl, rfl, ?_⟩
  rw [eqv2]
  exact k
theorem neT {K : PySem.W.Frag} {H : Hp} {p q : Addr} {a b c d : Int} {Q : VK} (hp : H p = some (.tup [.int a, .int b])) (hq : H q = some (.tup [.int c, .int d])) (k : Q (.bl (!decide (a = c ∧ b = d))) H) : rNeD K (.ref p) (.ref q) H Q := by
  refine ⟨.tuple [.int a, .int b], .tuple [.int c, .int d], .tup (SqT.of hp) (.cons (.int _) (.cons (.int _) .nil)), .tup (SqT.of hq) (.cons (.int _) (.cons (.int _) .nil)), rfl, rfl, ?_⟩
  rw [eqv2]
  exact k
theorem iteNv {x y : V} {A B : Prop} (h : x = y) (b : B) : if (!decide (x = y)) = true then A else B := by
  rw [decide_eq_true h]
  exact iteF b
def dueN (w a0 a1 b0 b1 : Int) : Int × Int := if w = 0 then (a0, b0) else if w = 1 then (a0 * b1, a1 * b0) else if w = 2 then (a0, a1 * b0) else (a0 * b1, b0)
theorem due_ne {w a0 a1 b0 b1 : Int} (h1 : a1 ≠ 0) (h3 : b1 ≠ 0) (h2 : b0 ≠ 0) : (dueN w a0 a1 b0 b1).2 ≠ 0 := by
  unfold dueN
  split
  · exact h2
  · split
    · exact Int.mul_ne_zero h1 h2
    · split
      · exact Int.mul_ne_zero h1 h2
      · exact h2
theorem due_log {w a0 a1 b0 b1 : Int} (s1 : a1.natAbs < 2 ^ 170) (s2 : b0.natAbs < 2 ^ 170) (_ : b1.natAbs < 2 ^ 170) : (dueN w a0 a1 b0 b1).2.natAbs.log2 < 9000 := by
  have m3 : (a1 * b0).natAbs.log2 < 9000 := Nat.lt_trans (PySem.Flt.log2_lt_of (by decide) (wide_lt s1 s2)) (by decide)
  unfold dueN
  split
  · exact lg170 s2
  · split
    · exact m3
    · split
      · exact m3
      · exact lg170 s2
/-! ### an own error that is caught -/
theorem exm1 {K : PySem.W.Frag} {C : Addr} (h1 : PySem.W.subIn K (.ref C) (.type "BaseException") = some true) (h2 : PySem.W.isClsIn K C = true) (h3 : PySem.W.typeIn K (.ref C) = some (.type "type")) (h4 : PySem.W.subIn K (.ref C) (.ref C) = some true) :
    PySem.W.exmOne K (.ref C) (.ref C) = some true := by
  have h2' : (PySem.W.clsIn K C).isSome = true := h2
  unfold PySem.W.exmOne PySem.W.kitCls
  rw [if_pos (by rw [h1]; rfl)]
  simp only [h2', h3, h4]
  rfl
def tGuard (p : Prop) (t : TS) : TS := fun D σ H => p ∧ t D σ H
theorem pss_err {X : Cx} {st : List Stmt} {t : TS} {cls : Value} {d : Option Addr} {oe : Obj} {C : Addr} (hz : Zc cls d oe) (h : Zc (.ref C) none oe → PSs X st t) : PSs X st (tGuard (cls = .ref C ∧ d = none) t) :=
  ⟨fun pins s σ H D I q => (h (q.1.1 ▸ q.1.2 ▸ hz)).run pins s σ H D I q.2⟩
/-! ### the law's own promise, and the end -/
def sp_law (K : PySem.W.Frag) (_ : Nat → Addr) : Sp := fun vs H Q _ => ∃ (a : Addr) (ns : List Int), vs = [.ref a] ∧ SqL K H a (ns.map V.int) ∧ ∀ H' : Hp, Q (.bl true) H'
theorem walk {l : PySem.W.OpenLaw} {q : Program} {loose : List Str} {XP : (Str → Option Value) → Heap → Prop} {YP : World → Heap → Prop} {d : DefRec} {K : Params → PySem.W.Frag} (k : Nat) (hk : Room k callerA) (hn : l.most = some 63) (hdf : d.params.defaults = [])
    (hY : ∀ (w : World) (h : Heap), YP w h → (K w.params).In h)
    (F : ∀ (w : World) (mg : Str → Option Value) (fa : Addr) (h : Heap), (K w.params).In h → h.Ns mainGlobals mg → mg d.name = some (.ref fa) →
      ∃ fd : FuncData, (∀ (s : Shared) (u : Value), BindsTo s fd ⟨[u], []⟩ [("_law_script", u)]) ∧ ∀ base : Heap, (K w.params).In base → base.Ns mainGlobals mg → FnOk l.prog w (K w.params) mg base (L2.CX l.prog w) k fa fd ["_law_script"] (sp_law (K w.params) fun _ => 0)) :
    PySem.W.WalkO q loose XP YP l.row.toRowW d [] (fun f vs => PySem.call f vs) :=
  L2.walk_of (n := 63) (k := k) (x := "_law_script") (CX := fun w => L2.CX l.prog w) (sp := fun w => sp_law (K w.params) fun _ => 0) hn (by decide) hdf hk hY F (fun _ _ a ns _ _ hS => ⟨a, ns, rfl, hS, fun _ => rfl⟩)
    fun _ _ _ _ _ h => by
      obtain ⟨_, _, _, _, _, _, _, _, _, _, _, _, z⟩ := h
      exact z
theorem binds_all {K : PySem.W.Frag} {fd : FuncData} {ps : List Str} {ds : List Value} (v : Vals [] ds) (b : L2.Binds K fd ps ds) : L2.Binds K fd ps [] := by
  cases v
  exact b
end Lo
set_option Elab.async false
set_option linter.all false
set_option maxRecDepth 100000
set_option maxHeartbeats 4000000
local macro_rules | `(tactic| fail "lo_ne") => `(tactic| first
  | assumption
  | exact Ne.symm (by assumption))
local macro_rules | `(tactic| fail "lo_hq") => `(tactic| ((with_reducible show @Eq (Option L2.HO) _ _); first
  | (with_reducible exact L2.upd_same)
  | (with_reducible assumption)
  | exact Lo.sget (by with_reducible assumption) (by fail "lo_hq")
  | exact Lo.kget (by with_reducible assumption) (by fail "lo_ne") (by fail "lo_hq")
  | exact Lo.une (by fail "lo_ne") (by fail "lo_hq")
  | assumption))
local macro_rules | `(tactic| fail "lo_hp") => `(tactic| first
  | ((with_reducible show L2.SqT _ _ _ _); first | exact L2.SqT.of (by fail "lo_hq") | assumption)
  | ((with_reducible show L2.SqL _ _ _ _); first | exact L2.SqL.of (by fail "lo_hq") | assumption | exact L2.Same.seq (by assumption) (by fail "lo_hp")))
local macro_rules | `(tactic| fail "lo_mok") => `(tactic| first
  | exact Lo.mok_r (by decide)
  | exact Lo.mok_l (by decide)
  | exact Lo.mok_r (by omega)
  | exact Lo.mok_l (by omega)
  | assumption)
local macro_rules | `(tactic| fail "lo_cond") => `(tactic| first
  | (show PySem.IntMulOk _ _; fail "lo_mok")
  | (show (0 : Int) < _; first | decide | omega | assumption)
  | (show L2.CPow _ _; exact ⟨by decide, by decide, by first | decide | omega⟩)
  | (show Lo.CDivA _ _; exact ⟨by first | assumption | omega, by assumption⟩)
  | (show L2.CDivW _ _; exact ⟨by first | decide | omega, by first | decide | assumption⟩))
local macro_rules | `(tactic| fail "lo_lk") => `(tactic| ((with_reducible show @Eq (Option L2.V) _ _); first
  | exact Lo.lk0
  | exact Lo.lkn
  | exact Lo.lk1 (by decide +kernel) (by fail "lo_lk")))
/- one step of a reading that has one way only -/
local macro_rules | `(tactic| fail "lo_rd1") => `(tactic| first
  | (refine ⟨_, rfl, ?_⟩)
  | (refine ⟨_, _, rfl, rfl, (by fail "lo_cond"), ?_⟩)
  | (refine ⟨_, _, rfl, rfl, ?_⟩)
  | (refine ⟨_, _, _, _, rfl, rfl, (by fail "lo_hp"), Lo.ix_c (by rfl), ?_⟩)
  | (refine ⟨_, _, _, _, rfl, rfl, (by fail "lo_hq"), (by rfl), ?_⟩)
  | (refine ⟨_, _, _, _, _, rfl, (by fail "lo_hq"), (by fail "lo_cl"), (by fail "lo_na"), (by fail "lo_lk"), ?_⟩)
  | (refine ⟨_, _, _, _, rfl, (by fail "lo_hq"), (by fail "lo_cl"), (by fail "lo_na"), Nat.le_of_ble_eq_true rfl, ?_⟩)
  | (refine ⟨_, _, _, rfl, (by fail "lo_hq"), (by fail "lo_lk"), ?_⟩)
  | ((with_reducible show L2.rEqD _ (L2.V.ref _) (L2.V.ref _) _ _); refine Lo.eqT (by fail "lo_hq") (by fail "lo_hq") ?_)
  | ((with_reducible show L2.rNeD _ (L2.V.ref _) (L2.V.ref _) _ _); refine Lo.neT (by fail "lo_hq") (by fail "lo_hq") ?_)
  | (refine ⟨Or.inl ⟨rfl, _, (by fail "lo_hp")⟩, ?_⟩)
  | (refine Or.inl ⟨_, rfl, ?_⟩)
  | (refine Or.inr ⟨_, rfl, ?_⟩)
  | (refine ⟨rfl, ?_⟩)
  | (refine ⟨_, _, rfl, Or.inl (by fail "lo_hp"), ?_⟩)
  | (refine ⟨_, _, rfl, (by fail "lo_hp"), rfl, ?_⟩)
  | (refine ⟨_, _, rfl, ?_⟩)
  | (refine ⟨⟨_, (by fail "lo_hp")⟩, ?_⟩)
  | (refine ⟨Lo.line_le (Nat.le_of_ble_eq_true rfl), ?_⟩))
/- as many such steps as there are -/
local macro_rules | `(tactic| fail "rd") => `(tactic| repeat fail "lo_rd1")

namespace Lo
open PySem PySem.Spec PyProof.Rows L2
def top (i : Nat) : Stmt := PySem.Challenge.pw_lotcosts_k13_division_by_zero.main.body.getD i (.Pass ⟨0, 0, 0, 0⟩)
structure Txt (K : PySem.W.Frag) (mg : Str → Option Value) (ca : Nat → Addr) : Prop where
  b_ValueError : mg "ValueError" = none
  b_abs : mg "abs" = none
  b_int : mg "int" = none
  b_isinstance : mg "isinstance" = none
  b_len : mg "len" = none
  b_list : mg "list" = none
  b_range : mg "range" = none
  gcd : mg "gcd" = some (.builtin "math.gcd")
  g_CostError : mg "CostError" = some (.ref (ca 0))
  g_NoRatio : mg "NoRatio" = some (.ref (ca 1))
  kp_NoRatio : PySem.W.keepIn K (.ref (ca 1)) = true
  ex_NoRatio : PySem.W.excIn K (ca 1) [.type "ValueError", .type "Exception", .type "BaseException", .type "object"] "ValueError.__new__" = true
  sb_NoRatio : PySem.W.subIn K (.ref (ca 1)) (.type "BaseException") = some true
  ty_NoRatio : PySem.W.typeIn K (.ref (ca 1)) = some (.type "type")
  te_NoRatio : PySem.W.exmOne K (.ref (ca 1)) (.ref (ca 1)) = some true
  ec_NoRatio : L2.ExcC K (ca 1)
  g_Ratio : mg "Ratio" = some (.ref (ca 2))
  cl_Ratio : Cls K (ca 2)
  na_Ratio_top : NoAttr K (ca 2) "top"
  na_Ratio_bottom : NoAttr K (ca 2) "bottom"
  ic_Ratio : PySem.W.findIn K (.ref (ca 2)) "__class__" = some (some (.builtin "object.__class__"))
  in_Ratio : PySem.W.specialIn K (.builtin "object.__class__") "__get__" = some (some (.builtin "getset_descriptor.__get__"))
  it_Ratio : PySem.W.takesIn K (.builtin "object.__class__") = some true
  im_Ratio : PySem.W.mroIn K (ca 2) (.type "object") = some true
  ki_NoRatio_CostError : PySem.W.kitOne K (.ref (ca 1)) (.ref (ca 0)) = some true
  ki_NoRatio_ValueError : PySem.W.kitOne K (.ref (ca 1)) (.type "ValueError") = some true
  ki_int_Ratio : PySem.W.kitOne K (.type "int") (.ref (ca 2)) = some false
local macro_rules | `(tactic| fail "lo_cl") => `(tactic| ((with_reducible show L2.Cls _ _); first
  | exact (show Txt _ _ _ by assumption).cl_Ratio))
local macro_rules | `(tactic| fail "lo_na") => `(tactic| ((with_reducible show L2.NoAttr _ _ _); first
  | exact (show Txt _ _ _ by assumption).na_Ratio_top
  | exact (show Txt _ _ _ by assumption).na_Ratio_bottom))
section
variable {P : Program} {w : World} {K : PySem.W.Frag} {mg : Str → Option Value} {base : Heap} {ca : Nat → Addr}
abbrev s_l_bag : Stmt := top 9
theorem sc_l_bag : FnScope ["_law_script"] ["_law_script"] (defScope s_l_bag) := ⟨rfl, rfl, rfl, by decide +kernel, rfl, by decide +kernel, by decide +kernel⟩
def sp_l_bag (K : PySem.W.Frag) (_ : Nat → Addr) : Sp := fun vs H Q _ => ∃ (a : Addr) (ns : List Int), vs = [.ref a] ∧ SqL K H a (ns.map V.int) ∧ ∀ (L b : Addr) (H' : Hp), H b = none → H L = none → Same H H' → Bag H' L b → Q (.ref b) H'
theorem ok_l_bag {f : Addr} {fd : FuncData} (F : Fun K "_law_bag" "_law_bag" s_l_bag f fd) (T : Txt K mg ca)  : FnOk P w K mg base (L2.CX P w) 1 f fd ["_law_script"] (sp_l_bag K ca) := by
  refine F.okX sc_l_bag (fun vs H Q E h => ?_) (fun cdv A outer s H vs Q E hr h => ?_)
  · obtain ⟨_, _, rfl, _⟩ := h
    rfl
  · obtain ⟨a, ns, rfl, hs, k⟩ := h
    refine ⟨_, pss_one (ps_ret (pe_lst (pa_cons (pe_callTy call_list_of (by rfl) T.b_list (by decide +kernel) (pa_cons (pv 0) pa_nil)) (pa_cons pe_int (pa_cons pe_int (pa_cons pe_int (pa_cons pe_int pa_nil))))))), ?_⟩
    fail "rd"
    intro L n_L
    generalize g_H1 : upd _ L _ = H1
    obtain ⟨s_H1, e_L⟩ := gen_new n_L g_H1
    clear g_H1
    fail "rd"
    intro b n_b
    generalize g_H2 : upd _ b _ = H2
    obtain ⟨s_H2, e_b⟩ := gen_new n_b g_H2
    clear g_H2
    exact k L b H2 (s_H1.free n_b) n_L (s_H1.trans s_H2) (Bag.mk (i := 0) e_b (s_H2 _ _ e_L) (ne_of_none e_L n_b))

abbrev s_l_draw : Stmt := top 10
theorem sc_l_draw : FnScope ["_law_bag_here", "_law_size", "_law_cell", "_law_digit", "_law_mixed_here"] ["_law_bag_here", "_law_size"] (defScope s_l_draw) := ⟨rfl, rfl, rfl, by decide +kernel, rfl, by decide +kernel, by decide +kernel⟩
def sp_l_draw (_ : PySem.W.Frag) (_ : Nat → Addr) : Sp := fun vs H Q _ => ∃ (b : Addr) (n : Int), vs = [.ref b, .int n] ∧ ∃ L : Addr, Bag H L b ∧ 0 < n ∧ n.natAbs.log2 < 9000 ∧ ∀ (d : Int) (H' : Hp), 0 ≤ d → d < n → Keep b H H' → Bag H' L b → Q (.int d) H'
theorem ok_l_draw {f : Addr} {fd : FuncData} (F : Fun K "_law_draw" "_law_draw" s_l_draw f fd) (T : Txt K mg ca)  : FnOk P w K mg base (L2.CX P w) 1 f fd ["_law_bag_here", "_law_size"] (sp_l_draw K ca) := by
  refine F.okX sc_l_draw (fun vs H Q E h => ?_) (fun cdv A outer s H vs Q E hr h => ?_)
  · obtain ⟨_, _, rfl, _⟩ := h
    rfl
  · obtain ⟨b, n, rfl, L, hB, h0, hn, k⟩ := h
    refine ⟨_, pss_cons (ps_asg (pe_op op_add (pe_ix ix_list (pv 0) pe_int (fun _ _ => rfl)) pe_int) (pg_sub (pv 0) pe_int set_list)) (Evl.pss_cut (ps_if (PW.pt (pw_and (pt_cmpR op_eq (pe_ix ix_list (pv 0) pe_int (fun _ _ => rfl)) pe_int (nomark _)) (pw_and1 (pt_cmpR op_lt (pe_ix ix_list (pv 0) pe_int (fun _ _ => rfl)) (pe_callB call_len_seq (by rfl) T.b_len (by decide +kernel) (pa_cons (pe_ix ix_list (pv 0) pe_int (fun _ _ => rfl)) pa_nil)) (nomark _))))) (pss_cons (ps_set (i := 2) sc_l_draw.nd rfl (Or.inl rfl) (pe_ix ix_list (pe_ix ix_list (pv 0) pe_int (fun _ _ => rfl)) (pe_ix ix_list (pv 0) pe_int (fun _ _ => rfl)) (fun _ _ => rfl))) (pss_cons (ps_asg (pe_op op_add (pe_ix ix_list (pv 0) pe_int (fun _ _ => rfl)) pe_int) (pg_sub (pv 0) pe_int set_list)) (pss_cons (ps_asg (pe_op op_mulI (pe_op op_add (pe_op op_mulI pe_int (pe_callB call_abs (by rfl) T.b_abs (by decide +kernel) (pa_cons (pv 2) pa_nil))) (pe_callTy call_int1 (by rfl) T.b_int (by decide +kernel) (pa_cons (pe_cmpR op_lt (pv 2) pe_int (nomark _)) pa_nil))) (pe_callTy call_int1 (by rfl) T.b_int (by decide +kernel) (pa_cons (pe_cmpR op_ge (pe_callB call_abs (by rfl) T.b_abs (by decide +kernel) (pa_cons (pv 2) pa_nil)) (pe_op op_pow pe_int pe_int) (nomark _)) pa_nil))) (pg_sub (pv 0) pe_int set_list)) (pss_one (ps_asg (pe_op op_mod (pe_callTy call_int1 (by rfl) T.b_int (by decide +kernel) (pa_cons (pe_op op_add (pe_op op_add (pe_op op_mulI (pe_ix ix_list (pv 0) pe_int (fun _ _ => rfl)) pe_int) (pe_op op_mulI (pv 2) pe_int)) pe_int) pa_nil)) pe_int) (pg_sub (pv 0) pe_int set_list)))))) pss_nil) (pss_cons (ps_set (i := 3) sc_l_draw.nd rfl (Or.inl rfl) (pe_op op_mod (pe_callTy call_int1 (by rfl) T.b_int (by decide +kernel) (pa_cons (pe_ix ix_list (pv 0) pe_int (fun _ _ => rfl)) pa_nil)) (pv 1))) (pss_cons (ps_if (pt_cmpR op_gt (pe_ix ix_list (pv 0) pe_int (fun _ _ => rfl)) pe_int (nomark _)) (pss_cons (ps_asg (pe_op op_fdivW (pe_ix ix_list (pv 0) pe_int (fun _ _ => rfl)) (pv 1)) (pg_sub (pv 0) pe_int set_list)) (pss_one (ps_ret (pv 3)))) pss_nil) (pss_cons (ps_set (i := 4) sc_l_draw.nd rfl (Or.inl rfl) (pe_op op_mod (pe_callTy call_int1 (by rfl) T.b_int (by decide +kernel) (pa_cons (pe_op op_add (pe_ix ix_list (pv 0) pe_int (fun _ _ => rfl)) (pe_op op_mulI (pe_ix ix_list (pv 0) pe_int (fun _ _ => rfl)) pe_int)) pa_nil)) pe_int)) (pss_cons (ps_set (i := 4) sc_l_draw.nd rfl (Or.inl rfl) (pe_op op_mod (pe_callTy call_int1 (by rfl) T.b_int (by decide +kernel) (pa_cons (pe_op op_add (pe_op op_add (pe_op op_pow (pv 4) pe_int) (pe_op op_mulI (pe_ix ix_list (pv 0) pe_int (fun _ _ => rfl)) pe_int)) pe_int) pa_nil)) pe_int)) (pss_one (ps_ret (pe_op op_mod (pe_op op_fdivW (pe_op op_mod (pe_callTy call_int1 (by rfl) T.b_int (by decide +kernel) (pa_cons (pe_op op_pow (pv 4) pe_int) pa_nil)) pe_int) pe_int) (pv 1))))))))), ?_⟩
    obtain ⟨ns, i, big, mix, cnt, hb, hL, hne⟩ := hB
    iterate 5 fail "lo_rd1"
    generalize g_H1 : upd _ b _ = H1
    obtain ⟨k_H1, e_H1⟩ := gen_put g_H1
    clear g_H1
    refine ⟨fun σ' H' => ∃ (v : Option V) (i : Nat) (big mix cnt : Int), σ' = [some (.ref b), some (.int n), v, none, none] ∧ Keep b H H' ∧ H' b = some (.lst [.ref L, .int i, .int big, .int mix, .int cnt]), ?_, ?_⟩
    · fail "rd"
      refine iteI (fun z1 => ?_) (fun z1 => ?_)
      · fail "rd"
        refine iteD (fun z2 => ?_) (fun z2 => ?_)
        · fail "rd"
          have hi : i < ns.length := by
            have z3 : (i : Int) < ((ns.map V.int).length : Nat) := z2
            rw [List.length_map] at z3
            omega
          refine ⟨_, _, _, _, rfl, rfl, (by fail "lo_hp"), atI_nat (v := .int ns[i]) (by simp [hi]), ?_⟩
          fail "rd"
          exact ⟨_, i + 1, _, _, _, rfl, ((k_H1.trans keep_upd).trans keep_upd).trans keep_upd, upd_same⟩
        · exact ⟨_, _, _, _, _, rfl, k_H1, e_H1⟩
      · exact ⟨_, _, _, _, _, rfl, k_H1, e_H1⟩
    · rintro σ' H' ⟨v, i, big, mix, cnt, rfl, kp, hb'⟩
      have hL' : H' L = some (.lst (ns.map V.int)) := kp _ _ hL hne
      fail "rd"
      refine iteD (fun z3 => ?_) (fun z3 => ?_)
      · fail "rd"
        exact k _ _ (Int.emod_nonneg _ (by omega)) (Int.emod_lt_of_pos _ h0) (kp.trans keep_upd) (Bag.mk upd_same (une hne hL') hne)
      · fail "rd"
        exact k _ _ (Int.emod_nonneg _ (by omega)) (Int.emod_lt_of_pos _ h0) kp (Bag.mk hb' hL' hne)

abbrev s_l_mixed : Stmt := top 11
theorem sc_l_mixed : FnScope ["_law_bag_here", "_law_items", "_law_left", "_law_found", "_law_k"] ["_law_bag_here", "_law_items"] (defScope s_l_mixed) := ⟨rfl, rfl, rfl, by decide +kernel, rfl, by decide +kernel, by decide +kernel⟩
def sp_l_mixed (K : PySem.W.Frag) (_ : Nat → Addr) : Sp := fun vs H Q _ => ∃ (b a : Addr) (xs : List V), vs = [.ref b, .ref a] ∧ ∃ L : Addr, Bag H L b ∧ H a = some (.lst xs) ∧ a ≠ b ∧ xs.length ≤ 1000 ∧
  ∀ (ys : List V) (p : Addr) (H' : Hp), ys.Perm xs → H p = none → Keep b H H' → Bag H' L b → H' p = some (.lst ys) → Q (.ref p) H'
theorem ok_l_mixed {f : Addr} {fd : FuncData} (F : Fun K "_law_mixed" "_law_mixed" s_l_mixed f fd) (T : Txt K mg ca) (O__law_draw : Own P w K mg base 1 "_law_draw" ["_law_bag_here", "_law_size"] (sp_l_draw K ca)) : FnOk P w K mg base (L2.CX P w) 2 f fd ["_law_bag_here", "_law_items"] (sp_l_mixed K ca) := by
  refine F.okX sc_l_mixed (fun vs H Q E h => ?_) (fun cdv A outer s H vs Q E hr h => ?_)
  · obtain ⟨_, _, _, rfl, _⟩ := h
    rfl
  · obtain ⟨b, a, xs, rfl, L, hB, ha, hne, hl, k⟩ := h
    refine ⟨_, pss_cons (ps_set (i := 2) sc_l_mixed.nd rfl (Or.inl rfl) (pe_callTy call_list_of (by rfl) T.b_list (by decide +kernel) (pa_cons (pv 1) pa_nil))) (pss_cons (ps_set (i := 3) sc_l_mixed.nd rfl (Or.inl rfl) (pe_lst pa_nil)) (pss_cons (ps_for (passes_of rfl) rfl (pi_range1 rfl T.b_range (pa_cons (pe_callB call_len_seq (by rfl) T.b_len (by decide +kernel) (pa_cons (pv 1) pa_nil)) pa_nil)) (pg_name (i := 4) sc_l_mixed.nd rfl (Or.inl rfl)) (pss_one (ps_expr (pe_bm PySem.F.plainAttrs_list PySem.F.slot_list_append PySem.F.type_list_append mt_append (pv 3) (pa_cons (pe_bm PySem.F.plainAttrs_list PySem.F.slot_list_pop PySem.F.type_list_pop mt_popAt (pv 2) (pa_cons (pe_own O__law_draw (hr.mono (by decide)) rfl pas0 (pa_cons (pv 0) (pa_cons (pe_callB call_len_seq (by rfl) T.b_len (by decide +kernel) (pa_cons (pv 2) pa_nil)) pa_nil))) pa_nil)) pa_nil))))) (pss_one (ps_ret (pv 3))))), ?_⟩
    fail "rd"
    intro l n_l
    generalize g_H1 : upd _ l _ = H1
    obtain ⟨s_H1, e_l⟩ := gen_new n_l g_H1
    clear g_H1
    fail "rd"
    intro f n_f
    generalize g_H2 : upd _ f _ = H2
    obtain ⟨s_H2, e_f⟩ := gen_new n_f g_H2
    clear g_H2
    fail "rd"
    have hz : (xs.length : Int) < 2 ^ 62 := by
      have e : (2 : Int) ^ 62 = 4611686018427387904 := by decide
      omega
    have B2 := (hB.same s_H1).same s_H2
    have lb := (hB.same s_H1).ne n_f
    have lc' : l ≠ b := hB.ne n_l
    have lf := ne_of_none e_l n_f
    have lL : l ≠ L := hB.neL n_l
    have fL : f ≠ L := (hB.same s_H1).neL n_f
    refine ⟨by omega, hz, for_range (n := xs.length) (fun i σ' H' => ∃ (us ys : List V) (v : Option V), σ' = [some (.ref b), some (.ref a), some (.ref l), some (.ref f), v] ∧ Keep b H H' ∧ Bag H' L b ∧ H' l = some (.lst us) ∧ H' f = some (.lst ys) ∧ us.length + i = xs.length ∧ ys.length = i ∧ (ys ++ us).Perm xs)
      ⟨xs, [], none, rfl, .of (s_H1.trans s_H2), B2, s_H2 _ _ e_l, e_f, rfl, rfl, .refl _⟩ ?_ ?_⟩
    · rintro i σ' H' hi ⟨us, ys, v, rfl, kp, B, hl, hf, u1, u2, hperm⟩
      fail "rd"
      have hu : (0 : Int) < (us.length : Nat) := by omega
      have h64 : (us.length : Int).natAbs < 2 ^ 164 := Nat.lt_of_le_of_lt (show (us.length : Int).natAbs ≤ 1000 by omega) (by decide)
      refine ⟨L, B, hu, lg164 h64, fun d H3 d0 d1 k3 B3 => ?_⟩
      have hl3 := k3 _ _ hl lc'
      have hf3 := k3 _ _ hf lb
      obtain ⟨D, rfl⟩ := Int.eq_ofNat_of_zero_le d0
      have hD : D < us.length := by omega
      fail "rd"
      have hq : seqIndex? ((D : Nat) : Int) us.length = some D := by
        unfold seqIndex?
        have e1 : ¬ ((D : Int) < 0) := by omega
        simp only [e1, if_false]
        have e2 : (decide ((0 : Int) ≤ (D : Int)) && decide ((D : Int) < (us.length : Int))) = true := by simp; exact hD
        rw [if_pos e2]
        rfl
      have e63 : (2 : Int) ^ 63 = 9223372036854775808 := by decide
      refine ⟨l, us, _, D, us[D], rfl, rfl, hl3, by omega, by omega, hq, by simp [hD], ?_⟩
      generalize g_H4 : upd _ l _ = H4
      obtain ⟨k_H4, e_H4⟩ := gen_put g_H4
      clear g_H4
      have hf4 := k_H4 _ _ hf3 lf.symm
      fail "rd"
      refine ⟨f, ys, _, rfl, rfl, hf4, Nat.lt_of_lt_of_le (show ys.length < 2000 by omega) (line_le (by decide)), ?_⟩
      generalize g_H5 : upd _ f _ = H5
      obtain ⟨k_H5, e_H5⟩ := gen_put g_H5
      clear g_H5
      refine ⟨_, _, _, rfl, fun a o e n => ?_, (B3.keep k_H4 lc' lL).keep k_H5 lb fL, k_H5 _ _ e_H4 lf, e_H5, ?_, ?_, ?_⟩
      · exact k_H5 _ _ (k_H4 _ _ (k3 _ _ (kp _ _ e n) n) (ne_of_none e n_l)) (ne_of_none e (s_H1.free n_f))
      · rw [List.length_eraseIdx_of_lt hD]
        omega
      · rw [List.length_append, u2]
        rfl
      · refine .trans ?_ hperm
        rw [List.append_assoc]
        exact (List.perm_append_left_iff ys).mpr (erase_perm hD)
    · rintro σ' H' ⟨us, ys, v, rfl, kp, B, hl, hf, u1, u2, hperm⟩
      fail "rd"
      have e : us = [] := List.eq_nil_of_length_eq_zero (by omega)
      subst e
      rw [List.append_nil] at hperm
      exact k ys f H' hperm (s_H1.free n_f) kp B hf

abbrev s_l_integer : Stmt := top 12
theorem sc_l_integer : FnScope ["_law_bag_here", "_law_choice", "_law_size", "_law_value"] ["_law_bag_here"] (defScope s_l_integer) := ⟨rfl, rfl, rfl, by decide +kernel, rfl, by decide +kernel, by decide +kernel⟩
def sp_l_integer (_ : PySem.W.Frag) (_ : Nat → Addr) : Sp := fun vs H Q _ => ∃ b : Addr, vs = [.ref b] ∧ ∃ L : Addr, Bag H L b ∧ ∀ (z : Int) (H' : Hp), z.natAbs < 2 ^ 164 → Keep b H H' → Bag H' L b → Q (.int z) H'
theorem ok_l_integer {f : Addr} {fd : FuncData} (F : Fun K "_law_integer" "_law_integer" s_l_integer f fd) (T : Txt K mg ca) (O__law_draw : Own P w K mg base 1 "_law_draw" ["_law_bag_here", "_law_size"] (sp_l_draw K ca)) : FnOk P w K mg base (L2.CX P w) 2 f fd ["_law_bag_here"] (sp_l_integer K ca) := by
  refine F.okX sc_l_integer (fun vs H Q E h => ?_) (fun cdv A outer s H vs Q E hr h => ?_)
  · obtain ⟨_, rfl, _⟩ := h
    rfl
  · obtain ⟨b, rfl, L, hB, k⟩ := h
    refine ⟨_, pss_cons (ps_set (i := 1) sc_l_integer.nd rfl (Or.inl rfl) (pe_own O__law_draw (hr.mono (by decide)) rfl pas0 (pa_cons (pv 0) (pa_cons pe_int pa_nil)))) (pss_cons (ps_if (pt_cmpR op_eq (pv 1) pe_int (nomark _)) (pss_one (ps_ret pe_int)) pss_nil) (pss_cons (ps_set (i := 2) sc_l_integer.nd rfl (Or.inl rfl) (pe_ix ix_list (pe_lst (pa_cons pe_int (pa_cons pe_int (pa_cons pe_int (pa_cons pe_int (pa_cons pe_int (pa_cons (pe_op op_pow pe_int pe_int) pa_nil))))))) (pv 1) (fun _ _ => rfl))) (pss_cons (ps_set (i := 3) sc_l_integer.nd rfl (Or.inl rfl) (pe_op op_add pe_int (pe_own O__law_draw (hr.mono (by decide)) rfl pas0 (pa_cons (pv 0) (pa_cons (pv 2) pa_nil))))) (pss_cons (ps_if (pt_cmpR op_eq (pe_own O__law_draw (hr.mono (by decide)) rfl pas0 (pa_cons (pv 0) (pa_cons pe_int pa_nil))) pe_int (nomark _)) (pss_one (ps_ret (pe_un un_neg (pv 3)))) pss_nil) (pss_one (ps_ret (pv 3))))))), ?_⟩
    fail "rd"
    refine ⟨L, hB, by decide, by decide, fun c H1 c0 c1 k1 B1 => ?_⟩
    fail "rd"
    refine iteI (fun z => ?_) (fun z => ?_)
    · fail "rd"
      exact k 0 H1 (by decide) k1 B1
    · fail "rd"
      intro l n_l
      generalize g_H2 : upd _ l _ = H2
      obtain ⟨s_H2, e_l⟩ := gen_new n_l g_H2
      clear g_H2
      have e_l : H2 l = some (.lst [.int 1, .int 2, .int 3, .int 12, .int 1000, .int (10 ^ 49)]) := e_l
      have B2 := B1.same s_H2
      obtain ⟨n, hn, n0, n1⟩ : ∃ n : Int, atI [V.int 1, .int 2, .int 3, .int 12, .int 1000, .int (10 ^ 49)] c = some (.int n) ∧ 0 < n ∧ n ≤ 10 ^ 49 := by
        have hc : c = 1 ∨ c = 2 ∨ c = 3 ∨ c = 4 ∨ c = 5 := by omega
        rcases hc with rfl | rfl | rfl | rfl | rfl
        · exact ⟨2, ix_c rfl, by decide, by decide⟩
        · exact ⟨3, ix_c rfl, by decide, by decide⟩
        · exact ⟨12, ix_c rfl, by decide, by decide⟩
        · exact ⟨1000, ix_c rfl, by decide, by decide⟩
        · exact ⟨10 ^ 49, ix_c rfl, by decide, by decide⟩
      refine ⟨_, rfl, _, _, _, _, rfl, rfl, SqL.of e_l, hn, ?_⟩
      fail "rd"
      have n2 : n.natAbs < 2 ^ 164 := lt164 (by omega) (by omega)
      refine ⟨L, B2, n0, lg164 n2, fun d H3 d0 d1 k3 B3 => ?_⟩
      have k03 := (k1.trans (.of s_H2)).trans k3
      fail "rd"
      refine ⟨L, B3, by decide, by decide, fun e H4 _ _ k4 B4 => ?_⟩
      fail "rd"
      refine iteI (fun y => ?_) (fun y => ?_)
      · fail "rd"
        exact k _ H4 (lt164 (by omega) (by omega)) (k03.trans k4) B4
      · fail "rd"
        exact k _ H4 (lt164 (by omega) (by omega)) (k03.trans k4) B4

abbrev s_Ratio_init : Stmt := inClass (top 7) 0
theorem sc_Ratio_init : FnScope ["self", "top", "bottom", "common"] ["self", "top", "bottom"] (defScope s_Ratio_init) := ⟨rfl, rfl, rfl, by decide +kernel, rfl, by decide +kernel, by decide +kernel⟩
def sp_Ratio_init (_ : PySem.W.Frag) (ca : Nat → Addr) : Sp := fun vs H Q E => ∃ (p dx : Addr) (a b : Int), vs = [.ref p, .int a, .int b] ∧ H p = some (.ins (ca 2) dx []) ∧ b.natAbs.log2 < 9000 ∧ (b = 0 → E (.ref (ca 1)) none H) ∧
  (b ≠ 0 → ∀ H' : Hp, Keep p H H' → H' p = some (.ins (ca 2) dx [("top", .int (nrm a b).1), ("bottom", .int (nrm a b).2)]) → Q .non H')
theorem ok_Ratio_init {f : Addr} {fd : FuncData} (F : FunD K "__init__" "Ratio.__init__" (defArgs s_Ratio_init) (defBody s_Ratio_init) (defScope s_Ratio_init) [.int 1] [] f fd) (T : Txt K mg ca)  : FnOk P w K mg base (L2.CX P w) 1 f fd ["self", "top", "bottom"] (sp_Ratio_init K ca) := by
  refine F.ok sc_Ratio_init (fun vs H Q E h => ?_) (fun cdv A outer s H vs Q E hr h => ?_)
  · obtain ⟨_, _, _, _, rfl, _⟩ := h
    rfl
  · obtain ⟨p, dx, a, b, rfl, hp, hs, h0, h1⟩ := h
    refine ⟨_, pss_cons (ps_if (pt_cmpR op_eq (pv 2) pe_int (nomark _)) (pss_one (ps_raise rfl (takes_of rfl rfl rfl rfl) (pmk_own0 PySem.F.excBase_ValueError T.ex_NoRatio T.g_NoRatio T.kp_NoRatio (raises_own T.sb_NoRatio T.ty_NoRatio) rfl))) pss_nil) (pss_cons (ps_set (i := 3) sc_Ratio_init.nd rfl (Or.inl rfl) (pe_callBfun cr_gcd rfl T.gcd (pa_cons (pv 1) (pa_cons (pv 2) pa_nil)))) (pss_cons (ps_if (pt_cmpR op_lt (pv 2) pe_int (nomark _)) (pss_one (ps_set (i := 3) sc_Ratio_init.nd rfl (Or.inl rfl) (pe_un un_neg (pv 3)))) pss_nil) (pss_cons (ps_fld (pv 0) (pe_op op_fdivA (pv 1) (pv 3)) rfl) (pss_one (ps_fld (pv 0) (pe_op op_fdivA (pv 2) (pv 3)) rfl))))), ?_⟩
    fail "rd"
    refine iteI (fun z => ?_) (fun z => ?_)
    · exact h0 z
    · have c1 := nrmC_ne (a := a) z
      have c2 := nrmC_log (a := a) z hs
      have fin : ∀ H' : Hp, H' = upd (upd H p (.ins (ca 2) dx (putF "top" (.int (nrm a b).1) []))) p (.ins (ca 2) dx (putF "bottom" (.int (nrm a b).2) (putF "top" (.int (nrm a b).1) []))) → Q .non H' := fun H' e => by
        subst e
        refine h1 z _ (keep_upd.trans keep_upd) ?_
        rw [upd_same, put_rat]
      unfold nrm nrmC at fin
      unfold nrmC at c1 c2
      fail "rd"
      refine iteD (fun y => ?_) (fun y => ?_)
      · rw [if_pos y] at fin c1 c2
        fail "rd"
        exact fin _ rfl
      · rw [if_neg y] at fin c1 c2
        fail "rd"
        exact fin _ rfl

abbrev s_as_ratio : Stmt := top 6
theorem sc_as_ratio : FnScope ["number"] ["number"] (defScope s_as_ratio) := ⟨rfl, rfl, rfl, by decide +kernel, rfl, by decide +kernel, by decide +kernel⟩
def sp_as_ratio (_ : PySem.W.Frag) (ca : Nat → Addr) : Sp := fun vs H Q _ => ∃ (x : V) (t b : Int), vs = [x] ∧ NumV ca H x t b ∧ ∀ (p : Addr) (H' : Hp), Same H H' → RatAt ca H' p t b → Q (.ref p) H'
theorem ok_as_ratio {f : Addr} {fd : FuncData} (F : Fun K "as_ratio" "as_ratio" s_as_ratio f fd) (T : Txt K mg ca) (O_Ratio_2 : OwnI P w K mg base 1 "Ratio" (ca 2) ["self", "top", "bottom"] [] (sp_Ratio_init K ca)) (O_Ratio_1 : OwnI P w K mg base 1 "Ratio" (ca 2) ["self", "top", "bottom"] [.int 1] (sp_Ratio_init K ca)) : FnOk P w K mg base (L2.CX P w) 3 f fd ["number"] (sp_as_ratio K ca) := by
  refine F.okX sc_as_ratio (fun vs H Q E h => ?_) (fun cdv A outer s H vs Q E hr h => ?_)
  · obtain ⟨_, _, _, rfl, _⟩ := h
    rfl
  · obtain ⟨x, t, b, rfl, hn, k⟩ := h
    refine ⟨_, pss_cons (ps_if (pt_val (pe_callB call_isi (by rfl) T.b_isinstance (by decide +kernel) (pa_cons (pv 0) (pa_cons (pe_glob (v := .ref (ca 2)) (by rfl) T.g_Ratio rfl) pa_nil)))) (pss_one (ps_ret (pv 0))) pss_nil) (pss_one (ps_ret (pe_owni O_Ratio_1 (hr.mono (by decide)) rfl pas0 (pa_cons (pv 0) pa_nil)))), ?_⟩
    rcases hn with ⟨rfl, rfl⟩ | ⟨p, rfl, hR⟩
    · fail "rd"
      refine ⟨_, _, _, _, _, rfl, .own _, .base (.int _), T.ki_int_Ratio, ?_⟩
      fail "rd"
      intro p dx np nd ne
      refine ⟨p, dx, t, 1, rfl, upd_same, by decide, fun z => absurd z (by decide), fun _ H2 k2 e2 => ⟨rfl, ?_⟩⟩
      refine k p H2 (same_made np nd ne k2) ⟨red_one, dx, ?_⟩
      rw [e2, nrm_one]
    · obtain ⟨hr1, dx, hp⟩ := id hR
      fail "rd"
      refine ⟨_, _, _, _, _, rfl, .own _, .base (.ins hp T.cl_Ratio T.ic_Ratio T.in_Ratio T.it_Ratio T.im_Ratio), kit_self, ?_⟩
      fail "rd"
      exact k p H (Same.refl H) hR

abbrev s_Ratio_over : Stmt := inClass (top 7) 9
theorem sc_Ratio_over : FnScope ["self", "other", "number"] ["self", "other"] (defScope s_Ratio_over) := ⟨rfl, rfl, rfl, by decide +kernel, rfl, by decide +kernel, by decide +kernel⟩
def sp_Ratio_over (_ : PySem.W.Frag) (ca : Nat → Addr) : Sp := fun vs H Q E => ∃ (p : Addr) (x : V) (t b t' b' : Int), vs = [.ref p, x] ∧ RatAt ca H p t b ∧ NumV ca H x t' b' ∧ IntMulOk t b' ∧ IntMulOk b t' ∧ (b * t').natAbs.log2 < 9000 ∧
  (t' = 0 → ∀ H' : Hp, Same H H' → E (.ref (ca 1)) none H') ∧ (t' ≠ 0 → ∀ (q : Addr) (H' : Hp), H q = none → Same H H' → RatAt ca H' q (nrm (t * b') (b * t')).1 (nrm (t * b') (b * t')).2 → Q (.ref q) H')
theorem ok_Ratio_over {f : Addr} {fd : FuncData} (F : Fun K "over" "Ratio.over" s_Ratio_over f fd) (T : Txt K mg ca) (O_as_ratio : Own P w K mg base 3 "as_ratio" ["number"] (sp_as_ratio K ca)) (O_Ratio_2 : OwnI P w K mg base 1 "Ratio" (ca 2) ["self", "top", "bottom"] [] (sp_Ratio_init K ca)) (O_Ratio_1 : OwnI P w K mg base 1 "Ratio" (ca 2) ["self", "top", "bottom"] [.int 1] (sp_Ratio_init K ca)) : FnOk P w K mg base (L2.CX P w) 4 f fd ["self", "other"] (sp_Ratio_over K ca) := by
  refine F.okX sc_Ratio_over (fun vs H Q E h => ?_) (fun cdv A outer s H vs Q E hr h => ?_)
  · obtain ⟨_, _, _, _, _, _, rfl, _⟩ := h
    rfl
  · obtain ⟨p, x, t, b, t', b', rfl, hR, hn, m1, m2, hs, k0, k1⟩ := h
    refine ⟨_, pss_cons (ps_set (i := 2) sc_Ratio_over.nd rfl (Or.inl rfl) (pe_own O_as_ratio (hr.mono (by decide)) rfl (pasE (takes_of rfl rfl rfl rfl)) (pa_cons (pv 1) pa_nil))) (pss_one (ps_ret (pe_owni O_Ratio_2 (hr.mono (by decide)) rfl (pasE (takes_of rfl rfl rfl rfl)) (pa_cons (pe_op op_mulI (pe_fld (pv 0) rfl) (pe_fld (pv 2) rfl)) (pa_cons (pe_op op_mulI (pe_fld (pv 0) rfl) (pe_fld (pv 2) rfl)) pa_nil))))), ?_⟩
    fail "rd"
    refine ⟨x, t', b', rfl, hn, fun q H1 s1 hq => ?_⟩
    have hb := hR.1.pos
    obtain ⟨_, dx, hp⟩ := hR.same s1
    obtain ⟨_, dy, hq⟩ := hq
    fail "rd"
    intro r d_r n_r nd_r ne_r
    refine ⟨r, d_r, _, _, rfl, upd_same, hs, fun z => ?_, fun z H2 k_r e_r => ⟨rfl, ?_⟩⟩
    · have z' : b * t' = 0 := z
      have z2 : t' = 0 := by
        rcases Int.mul_eq_zero.mp z' with u | u
        · omega
        · exact u
      refine k0 z2 _ (s1.trans fun a o e => ?_)
      rw [upd_ne (ne_of_none e n_r), upd_ne (ne_of_none e nd_r)]
      exact e
    · have s2 := same_made n_r nd_r ne_r k_r
      have z2 : t' ≠ 0 := fun u => z (by rw [u]; exact Int.mul_zero _)
      exact k1 z2 r H2 (s1.free n_r) (s1.trans s2) (RatAt.of z e_r)

abbrev s_l_quotient : Stmt := top 15
theorem sc_l_quotient : FnScope ["_law_way", "_law_a", "_law_b", "e"] ["_law_way", "_law_a", "_law_b"] (defScope s_l_quotient) := ⟨rfl, rfl, rfl, by decide +kernel, rfl, by decide +kernel, by decide +kernel⟩
def sp_l_quotient (_ : PySem.W.Frag) (ca : Nat → Addr) : Sp := fun vs H Q _ => ∃ (w a0 a1 b0 b1 : Int) (p q : Addr), vs = [.int w, .ref p, .ref q] ∧ H p = some (.tup [.int a0, .int a1]) ∧ H q = some (.tup [.int b0, .int b1]) ∧
  a0.natAbs < 2 ^ 170 ∧ a1.natAbs < 2 ^ 170 ∧ b0.natAbs < 2 ^ 170 ∧ b1.natAbs < 2 ^ 170 ∧ a1 ≠ 0 ∧ b1 ≠ 0 ∧
  (b0 = 0 → ∀ H' : Hp, Same H H' → Q (.bl true) H') ∧ (b0 ≠ 0 → ∀ (r : Addr) (H' : Hp), Same H H' → RatAt ca H' r (nrm (dueN w a0 a1 b0 b1).1 (dueN w a0 a1 b0 b1).2).1 (nrm (dueN w a0 a1 b0 b1).1 (dueN w a0 a1 b0 b1).2).2 → Q (.ref r) H')
theorem ok_l_quotient {f : Addr} {fd : FuncData} (F : Fun K "_law_quotient" "_law_quotient" s_l_quotient f fd) (T : Txt K mg ca) (O_Ratio_2 : OwnI P w K mg base 1 "Ratio" (ca 2) ["self", "top", "bottom"] [] (sp_Ratio_init K ca)) (O_Ratio_1 : OwnI P w K mg base 1 "Ratio" (ca 2) ["self", "top", "bottom"] [.int 1] (sp_Ratio_init K ca)) (O_Ratio_over : OwnM P w K mg base 4 (ca 2) "over" ["self", "other"] (sp_Ratio_over K ca)) : FnOk P w K mg base (L2.CX P w) 5 f fd ["_law_way", "_law_a", "_law_b"] (sp_l_quotient K ca) := by
  refine F.okX sc_l_quotient (fun vs H Q E h => ?_) (fun cdv A outer s H vs Q E hr h => ?_)
  · obtain ⟨_, _, _, _, _, _, _, rfl, _⟩ := h
    rfl
  · obtain ⟨w, a0, a1, b0, b1, p, q, rfl, hp, hq, s0, s1, s2, s3, n1, n2, k0, k1⟩ := h
    refine ⟨_, pss_one (ps_try_as (i := 3) (Wout := fun _ _ _ _ => False) rfl rfl sc_l_quotient.nd rfl rfl ⟨rfl, by decide, Or.inl T.g_NoRatio⟩ takes0 (fun W pn xe tk _ => pss_cons (ps_if (pt_cmpR op_eq (pv 0) pe_int (nomark _)) (pss_one (ps_ret (pe_owni O_Ratio_2 (hr.mono (by decide)) rfl (fun σ => passAt tk σ) (pa_cons (pe_ix (r := rIxT K) ix_tup (pv 1) pe_int (fun _ _ => rfl)) (pa_cons (pe_ix (r := rIxT K) ix_tup (pv 2) pe_int (fun _ _ => rfl)) pa_nil))))) pss_nil) (pss_cons (ps_if (pt_cmpR op_eq (pv 0) pe_int (nomark _)) (pss_one (ps_ret (pe_ownm O_Ratio_over (pe_owni O_Ratio_2 (hr.mono (by decide)) rfl (fun σ => passAt tk σ) (pa_cons (pe_ix (r := rIxT K) ix_tup (pv 1) pe_int (fun _ _ => rfl)) (pa_cons (pe_ix (r := rIxT K) ix_tup (pv 1) pe_int (fun _ _ => rfl)) pa_nil))) (hr.mono (by decide)) (fun σ => passAt tk σ) (pa_cons (pe_owni O_Ratio_2 (hr.mono (by decide)) rfl (fun σ => passAt tk σ) (pa_cons (pe_ix (r := rIxT K) ix_tup (pv 2) pe_int (fun _ _ => rfl)) (pa_cons (pe_ix (r := rIxT K) ix_tup (pv 2) pe_int (fun _ _ => rfl)) pa_nil))) pa_nil)))) pss_nil) (pss_cons (ps_if (pt_cmpR op_eq (pv 0) pe_int (nomark _)) (pss_one (ps_ret (pe_ownm O_Ratio_over (pe_owni O_Ratio_2 (hr.mono (by decide)) rfl (fun σ => passAt tk σ) (pa_cons (pe_ix (r := rIxT K) ix_tup (pv 1) pe_int (fun _ _ => rfl)) (pa_cons (pe_ix (r := rIxT K) ix_tup (pv 1) pe_int (fun _ _ => rfl)) pa_nil))) (hr.mono (by decide)) (fun σ => passAt tk σ) (pa_cons (pe_ix (r := rIxT K) ix_tup (pv 2) pe_int (fun _ _ => rfl)) pa_nil)))) pss_nil) (pss_one (ps_ret (pe_ownm O_Ratio_over (pe_owni O_Ratio_1 (hr.mono (by decide)) rfl (fun σ => passAt tk σ) (pa_cons (pe_ix (r := rIxT K) ix_tup (pv 1) pe_int (fun _ _ => rfl)) pa_nil)) (hr.mono (by decide)) (fun σ => passAt tk σ) (pa_cons (pe_owni O_Ratio_2 (hr.mono (by decide)) rfl (fun σ => passAt tk σ) (pa_cons (pe_ix (r := rIxT K) ix_tup (pv 2) pe_int (fun _ _ => rfl)) (pa_cons (pe_ix (r := rIxT K) ix_tup (pv 2) pe_int (fun _ _ => rfl)) pa_nil))) pa_nil))))))) (fun a oe cls d pn hz hf => pss_err (C := ca 1) hz fun hz => pss_one (ps_ret (pe_and (pe_callB (call_isE T.ec_NoRatio hz hf) (by rfl) T.b_isinstance (by decide +kernel) (pa_cons (pv 3) (pa_cons (pe_glob (v := .ref (ca 0)) (by rfl) T.g_CostError rfl) pa_nil))) (pe_one (pe_callB (call_isE T.ec_NoRatio hz hf) (by rfl) T.b_isinstance (by decide +kernel) (pa_cons (pv 3) (pa_cons (pe_bltn (v := .ty "ValueError") (by rfl) T.b_ValueError (by decide +kernel) rfl) pa_nil)))))))), ?_⟩
    have m1 : IntMulOk a0 b1 := m170 s0 s3
    have m2 : IntMulOk a1 b0 := m170 s1 s2
    have m3 : (a1 * b0).natAbs.log2 < 9000 := Nat.lt_trans (PySem.Flt.log2_lt_of (by decide) (wide_lt s1 s2)) (by decide)
    unfold dueN at k1
    fail "rd"
    refine iteI (fun z => ?_) (fun z => ?_)
    · rw [if_pos z] at k1
      fail "rd"
      intro r d_r n_r nd_r ne_r
      refine ⟨r, d_r, _, _, rfl, upd_same, lg170 s2, fun z => ?_, fun z H2 k_r e_r => ⟨rfl, ?_⟩⟩
      · refine ⟨true, T.te_NoRatio, fun _ e ne => ⟨⟨rfl, rfl⟩, ?_⟩, fun q => Bool.noConfusion q⟩
        fail "rd"
        refine ⟨_, _, true, rfl, fun u r => r, T.ki_NoRatio_CostError, ?_⟩
        fail "rd"
        refine ⟨_, _, true, rfl, fun u r => r, T.ki_NoRatio_ValueError, ?_⟩
        fail "rd"
        exact k0 z _ (fun a o e => by rw [upd_ne (ne_of_none e n_r), upd_ne (ne_of_none e nd_r)]; exact e)
      · exact k1 z r H2 (same_made n_r nd_r ne_r k_r) (RatAt.of z e_r)
    · rw [if_neg z] at k1
      fail "rd"
      refine iteI (fun z => ?_) (fun z => ?_)
      · rw [if_pos z] at k1
        fail "rd"
        intro u d_u n_u nd_u ne_u
        refine ⟨u, d_u, _, _, rfl, upd_same, (lg170 s1), fun z => absurd z n1, fun _ H1 k_u e_u => ⟨rfl, ?_⟩⟩
        have s_H1 := same_made n_u nd_u ne_u k_u
        have R1 := RatAt.of n1 e_u
        obtain ⟨_, dx, hu⟩ := id R1
        have hq := s_H1 _ _ hq
        fail "rd"
        intro v d_v n_v nd_v ne_v
        refine ⟨v, d_v, _, _, rfl, upd_same, (lg170 s3), fun z => absurd z n2, fun _ H2 k_v e_v => ⟨rfl, ?_⟩⟩
        have s_H2 := same_made n_v nd_v ne_v k_v
        have R2 := RatAt.of n2 e_v
        have R1 := R1.same s_H2
        have t1 := nrm_le1 (a := a0) n1
        have t2 := nrm_le2 (a := a0) n1
        have t3 := nrm_le1 (a := b0) n2
        have t4 := nrm_le2 (a := b0) n2
        have u1 := Nat.lt_of_le_of_lt t1 s0
        have u2 := Nat.lt_of_le_of_lt t2 s1
        have u3 := Nat.lt_of_le_of_lt t3 s2
        have u4 := Nat.lt_of_le_of_lt t4 s3
        have z0 : (nrm b0 b1).1 = 0 ↔ b0 = 0 := nrm_zero n2
        refine ⟨u, .ref v, _, _, _, _, rfl, R1, .inr ⟨v, rfl, R2⟩, m170 u1 u4, m170 u2 u3, Nat.lt_trans (PySem.Flt.log2_lt_of (by decide) (wide_lt u2 u3)) (by decide), fun y H3 s3 => ?_, fun y r H3 nr s3 R3 => ?_⟩
        · refine ⟨true, T.te_NoRatio, fun _ e ne => ⟨⟨rfl, rfl⟩, ?_⟩, fun q => Bool.noConfusion q⟩
          fail "rd"
          refine ⟨_, _, true, rfl, fun u r => r, T.ki_NoRatio_CostError, ?_⟩
          fail "rd"
          refine ⟨_, _, true, rfl, fun u r => r, T.ki_NoRatio_ValueError, ?_⟩
          fail "rd"
          exact k0 (z0.mp y) _ (s_H1.trans (s_H2.trans s3))
        · have y' : b0 ≠ 0 := fun w => y (z0.mpr w)
          rw [nrm_over n1 n2 y'] at R3
          exact k1 y' r H3 (s_H1.trans (s_H2.trans s3)) R3
      · rw [if_neg z] at k1
        fail "rd"
        refine iteI (fun z => ?_) (fun z => ?_)
        · rw [if_pos z] at k1
          fail "rd"
          intro u d_u n_u nd_u ne_u
          refine ⟨u, d_u, _, _, rfl, upd_same, (lg170 s1), fun z => absurd z n1, fun _ H1 k_u e_u => ⟨rfl, ?_⟩⟩
          have s_H1 := same_made n_u nd_u ne_u k_u
          have R1 := RatAt.of n1 e_u
          obtain ⟨_, dx, hu⟩ := id R1
          have hq := s_H1 _ _ hq
          have u1 := Nat.lt_of_le_of_lt (nrm_le1 (a := a0) n1) s0
          have u2 := Nat.lt_of_le_of_lt (nrm_le2 (a := a0) n1) s1
          fail "rd"
          refine ⟨u, .int b0, _, _, b0, 1, rfl, R1, .inl ⟨rfl, rfl⟩, mok_r (by decide), m170 u2 s2, Nat.lt_trans (PySem.Flt.log2_lt_of (by decide) (wide_lt u2 s2)) (by decide), fun y H3 s3 => ?_, fun y r H3 nr s3 R3 => ?_⟩
          · refine ⟨true, T.te_NoRatio, fun _ e ne => ⟨⟨rfl, rfl⟩, ?_⟩, fun q => Bool.noConfusion q⟩
            fail "rd"
            refine ⟨_, _, true, rfl, fun u r => r, T.ki_NoRatio_CostError, ?_⟩
            fail "rd"
            refine ⟨_, _, true, rfl, fun u r => r, T.ki_NoRatio_ValueError, ?_⟩
            fail "rd"
            exact k0 y _ (s_H1.trans s3)
          · have e : nrm ((nrm a0 a1).1 * 1) ((nrm a0 a1).2 * b0) = nrm (a0 * 1) (a1 * b0) := by
              have e := nrm_over (a := a0) (c := b0) n1 (show (1 : Int) ≠ 0 by decide) y
              rw [nrm_one] at e
              exact e
            rw [e, Int.mul_one] at R3
            exact k1 y r H3 (s_H1.trans s3) R3
        · rw [if_neg z] at k1
          fail "rd"
          intro u d_u n_u nd_u ne_u
          refine ⟨u, d_u, _, _, rfl, upd_same, (by decide), fun z => absurd z (by decide), fun _ H1 k_u e_u => ⟨rfl, ?_⟩⟩
          have s_H1 := same_made n_u nd_u ne_u k_u
          have R1 := RatAt.mk red_one e_u
          obtain ⟨_, dx, hu⟩ := id R1
          have hq := s_H1 _ _ hq
          fail "rd"
          intro v d_v n_v nd_v ne_v
          refine ⟨v, d_v, _, _, rfl, upd_same, (lg170 s3), fun z => absurd z n2, fun _ H2 k_v e_v => ⟨rfl, ?_⟩⟩
          have s_H2 := same_made n_v nd_v ne_v k_v
          have R2 := RatAt.of n2 e_v
          have R1 := R1.same s_H2
          have u3 := Nat.lt_of_le_of_lt (nrm_le1 (a := b0) n2) s2
          have u4 := Nat.lt_of_le_of_lt (nrm_le2 (a := b0) n2) s3
          have z0 : (nrm b0 b1).1 = 0 ↔ b0 = 0 := nrm_zero n2
          refine ⟨u, .ref v, _, _, _, _, rfl, R1, .inr ⟨v, rfl, R2⟩, m170 s0 u4, mok_l (by decide), by rw [Int.one_mul]; exact lg170 u3, fun y H3 s3 => ?_, fun y r H3 nr s3 R3 => ?_⟩
          · refine ⟨true, T.te_NoRatio, fun _ e ne => ⟨⟨rfl, rfl⟩, ?_⟩, fun q => Bool.noConfusion q⟩
            fail "rd"
            refine ⟨_, _, true, rfl, fun u r => r, T.ki_NoRatio_CostError, ?_⟩
            fail "rd"
            refine ⟨_, _, true, rfl, fun u r => r, T.ki_NoRatio_ValueError, ?_⟩
            fail "rd"
            exact k0 (z0.mp y) _ (s_H1.trans (s_H2.trans s3))
          · have y' : b0 ≠ 0 := fun w => y (z0.mpr w)
            have e : nrm (a0 * (nrm b0 b1).2) (1 * (nrm b0 b1).1) = nrm (a0 * b1) (1 * b0) := by
              have e := nrm_over (a := a0) (show (1 : Int) ≠ 0 by decide) n2 y'
              rw [nrm_one] at e
              exact e
            rw [e, Int.one_mul] at R3
            exact k1 y' r H3 (s_H1.trans (s_H2.trans s3)) R3

abbrev s_l_due : Stmt := top 16
theorem sc_l_due : FnScope ["_law_way", "_law_a", "_law_b"] ["_law_way", "_law_a", "_law_b"] (defScope s_l_due) := ⟨rfl, rfl, rfl, by decide +kernel, rfl, by decide +kernel, by decide +kernel⟩
def sp_l_due (_ : PySem.W.Frag) (_ : Nat → Addr) : Sp := fun vs H Q _ => ∃ (w a0 a1 b0 b1 : Int) (p q : Addr), vs = [.int w, .ref p, .ref q] ∧ H p = some (.tup [.int a0, .int a1]) ∧ H q = some (.tup [.int b0, .int b1]) ∧
  a0.natAbs < 2 ^ 170 ∧ a1.natAbs < 2 ^ 170 ∧ b0.natAbs < 2 ^ 170 ∧ b1.natAbs < 2 ^ 170 ∧
  ∀ (r : Addr) (H' : Hp), Same H H' → H' r = some (.tup [.int (dueN w a0 a1 b0 b1).1, .int (dueN w a0 a1 b0 b1).2]) → Q (.ref r) H'
theorem ok_l_due {f : Addr} {fd : FuncData} (F : Fun K "_law_due" "_law_due" s_l_due f fd) (T : Txt K mg ca)  : FnOk P w K mg base (L2.CX P w) 1 f fd ["_law_way", "_law_a", "_law_b"] (sp_l_due K ca) := by
  refine F.okX sc_l_due (fun vs H Q E h => ?_) (fun cdv A outer s H vs Q E hr h => ?_)
  · obtain ⟨_, _, _, _, _, _, _, rfl, _⟩ := h
    rfl
  · obtain ⟨w, a0, a1, b0, b1, p, q, rfl, hp, hq, s0, s1, s2, s3, k⟩ := h
    refine ⟨_, pss_cons (ps_if (pt_cmpR op_eq (pv 0) pe_int (nomark _)) (pss_one (ps_ret (pe_tup (pa_cons (pe_ix ix_tup (pv 1) pe_int (fun _ _ => rfl)) (pa_cons (pe_ix ix_tup (pv 2) pe_int (fun _ _ => rfl)) pa_nil))))) pss_nil) (pss_cons (ps_if (pt_cmpR op_eq (pv 0) pe_int (nomark _)) (pss_one (ps_ret (pe_tup (pa_cons (pe_op op_mulI (pe_ix ix_tup (pv 1) pe_int (fun _ _ => rfl)) (pe_ix ix_tup (pv 2) pe_int (fun _ _ => rfl))) (pa_cons (pe_op op_mulI (pe_ix ix_tup (pv 1) pe_int (fun _ _ => rfl)) (pe_ix ix_tup (pv 2) pe_int (fun _ _ => rfl))) pa_nil))))) pss_nil) (pss_cons (ps_if (pt_cmpR op_eq (pv 0) pe_int (nomark _)) (pss_one (ps_ret (pe_tup (pa_cons (pe_ix ix_tup (pv 1) pe_int (fun _ _ => rfl)) (pa_cons (pe_op op_mulI (pe_ix ix_tup (pv 1) pe_int (fun _ _ => rfl)) (pe_ix ix_tup (pv 2) pe_int (fun _ _ => rfl))) pa_nil))))) pss_nil) (pss_one (ps_ret (pe_tup (pa_cons (pe_op op_mulI (pe_ix ix_tup (pv 1) pe_int (fun _ _ => rfl)) (pe_ix ix_tup (pv 2) pe_int (fun _ _ => rfl))) (pa_cons (pe_ix ix_tup (pv 2) pe_int (fun _ _ => rfl)) pa_nil))))))), ?_⟩
    have m1 := m170 s0 s3
    have m2 := m170 s1 s2
    unfold dueN at k
    fail "rd"
    refine iteI (fun z => ?_) (fun z => ?_)
    · rw [if_pos z] at k
      fail "rd"
      intro r n_r
      generalize g_H1 : upd _ r _ = H1
      obtain ⟨s_H1, e_r⟩ := gen_new n_r g_H1
      clear g_H1
      exact k r H1 s_H1 e_r
    · rw [if_neg z] at k
      fail "rd"
      refine iteI (fun z => ?_) (fun z => ?_)
      · rw [if_pos z] at k
        fail "rd"
        intro r n_r
        generalize g_H1 : upd _ r _ = H1
        obtain ⟨s_H1, e_r⟩ := gen_new n_r g_H1
        clear g_H1
        exact k r H1 s_H1 e_r
      · rw [if_neg z] at k
        fail "rd"
        refine iteI (fun z => ?_) (fun z => ?_)
        · rw [if_pos z] at k
          fail "rd"
          intro r n_r
          generalize g_H1 : upd _ r _ = H1
          obtain ⟨s_H1, e_r⟩ := gen_new n_r g_H1
          clear g_H1
          exact k r H1 s_H1 e_r
        · rw [if_neg z] at k
          fail "rd"
          intro r n_r
          generalize g_H1 : upd _ r _ = H1
          obtain ⟨s_H1, e_r⟩ := gen_new n_r g_H1
          clear g_H1
          exact k r H1 s_H1 e_r

abbrev s_l_divisor : Stmt := top 13
theorem sc_l_divisor : FnScope ["_law_one", "_law_other", "_law_rest"] ["_law_one", "_law_other"] (defScope s_l_divisor) := ⟨rfl, rfl, rfl, by decide +kernel, rfl, by decide +kernel, by decide +kernel⟩
def sp_l_divisor (_ : PySem.W.Frag) (_ : Nat → Addr) : Sp := fun vs H Q _ => ∃ a b : Int, vs = [.int a, .int b] ∧ 0 ≤ a ∧ 0 ≤ b ∧ Q (.int ((Nat.gcd a.natAbs b.natAbs : Nat) : Int)) H
theorem ok_l_divisor {f : Addr} {fd : FuncData} (F : Fun K "_law_divisor" "_law_divisor" s_l_divisor f fd) (T : Txt K mg ca)  : FnOk P w K mg base (L2.CX P w) 1 f fd ["_law_one", "_law_other"] (sp_l_divisor K ca) := by
  refine F.okX sc_l_divisor (fun vs H Q E h => ?_) (fun cdv A outer s H vs Q E hr h => ?_)
  · obtain ⟨_, _, rfl, _⟩ := h
    rfl
  · obtain ⟨a, b, rfl, ha, hb, k⟩ := h
    refine ⟨_, pss_cons (ps_while (passes_of rfl) (pt_cmpR op_ne (pv 1) pe_int (nomark _)) (pss_cons (ps_set (i := 2) sc_l_divisor.nd rfl (Or.inl rfl) (pe_op op_mod (pe_callTy call_int1 (by rfl) T.b_int (by decide +kernel) (pa_cons (pv 0) pa_nil)) (pv 1))) (pss_cons (ps_set (i := 0) sc_l_divisor.nd rfl (Or.inl rfl) (pv 1)) (pss_one (ps_set (i := 1) sc_l_divisor.nd rfl (Or.inl rfl) (pv 2)))))) (pss_one (ps_ret (pv 0))), ?_⟩
    refine while_by (fun σ' H' => ∃ (x y : Int) (v : Option V), σ' = [some (.int x), some (.int y), v] ∧ H' = H ∧ 0 ≤ x ∧ 0 ≤ y ∧ Nat.gcd x.natAbs y.natAbs = Nat.gcd a.natAbs b.natAbs)
      (fun σ' _ => match σ' with | [_, some (.int y), _] => y.toNat | _ => 0) ⟨a, b, none, rfl, rfl, ha, hb, rfl⟩ ?_ ?_
    · rintro σ' H' ⟨x, y, v, rfl, rfl, hx, hy, hg⟩
      fail "rd"
      refine iteIn (fun z => ?_) (fun z => ?_)
      · fail "rd"
        have z1 : 0 < y := by omega
        refine ⟨⟨y, x % y, _, rfl, rfl, hy, Int.emod_nonneg _ z, ?_⟩, ?_⟩
        · obtain ⟨X, rfl⟩ := Int.eq_ofNat_of_zero_le hx
          obtain ⟨Y, rfl⟩ := Int.eq_ofNat_of_zero_le hy
          rw [← hg]
          show Nat.gcd Y (X % Y) = Nat.gcd X Y
          rw [Nat.gcd_comm X Y, Nat.gcd_rec Y X, Nat.gcd_comm]
        · have z2 := Int.emod_lt_of_pos x z1
          have z3 := Int.emod_nonneg x z
          show (x % y).toNat < y.toNat
          omega
      · subst z
        fail "rd"
        have e : (Nat.gcd a.natAbs b.natAbs : Nat) = x.natAbs := by rw [← hg]; exact Nat.gcd_zero_right _
        rw [e] at k
        have e2 : ((x.natAbs : Nat) : Int) = x := by omega
        rw [e2] at k
        exact k
    · rintro σ H Q Q' hq ⟨v, e, s, c, e2, h⟩
      exact ⟨v, e, s, c, e2, hq _ _ h⟩

abbrev s_l_lowest : Stmt := top 14
theorem sc_l_lowest : FnScope ["_law_top", "_law_bottom", "_law_divisor_here"] ["_law_top", "_law_bottom"] (defScope s_l_lowest) := ⟨rfl, rfl, rfl, by decide +kernel, rfl, by decide +kernel, by decide +kernel⟩
def sp_l_lowest (_ : PySem.W.Frag) (_ : Nat → Addr) : Sp := fun vs H Q _ => ∃ a b : Int, vs = [.int a, .int b] ∧ b ≠ 0 ∧ b.natAbs.log2 < 9000 ∧
  ∀ (p : Addr) (H' : Hp), Same H H' → H p = none → H' p = some (.tup [.int (nrm a b).1, .int (nrm a b).2]) → Q (.ref p) H'
theorem ok_l_lowest {f : Addr} {fd : FuncData} (F : Fun K "_law_lowest" "_law_lowest" s_l_lowest f fd) (T : Txt K mg ca) (O__law_divisor : Own P w K mg base 1 "_law_divisor" ["_law_one", "_law_other"] (sp_l_divisor K ca)) : FnOk P w K mg base (L2.CX P w) 2 f fd ["_law_top", "_law_bottom"] (sp_l_lowest K ca) := by
  refine F.okX sc_l_lowest (fun vs H Q E h => ?_) (fun cdv A outer s H vs Q E hr h => ?_)
  · obtain ⟨_, _, rfl, _⟩ := h
    rfl
  · obtain ⟨a, b, rfl, h0, hs, k⟩ := h
    refine ⟨_, pss_cons (ps_set (i := 2) sc_l_lowest.nd rfl (Or.inl rfl) (pe_own O__law_divisor (hr.mono (by decide)) rfl pas0 (pa_cons (pe_callB call_abs (by rfl) T.b_abs (by decide +kernel) (pa_cons (pv 0) pa_nil)) (pa_cons (pe_callB call_abs (by rfl) T.b_abs (by decide +kernel) (pa_cons (pv 1) pa_nil)) pa_nil)))) (pss_cons (ps_if (pt_cmpR op_lt (pv 1) pe_int (nomark _)) (pss_one (ps_set (i := 2) sc_l_lowest.nd rfl (Or.inl rfl) (pe_un un_neg (pv 2)))) pss_nil) (pss_one (ps_ret (pe_tup (pa_cons (pe_op op_fdivA (pv 0) (pv 2)) (pa_cons (pe_op op_fdivA (pv 1) (pv 2)) pa_nil)))))), ?_⟩
    fail "rd"
    have ea : (if a < 0 then -a else a).natAbs = a.natAbs := by split <;> omega
    have eb : (if b < 0 then -b else b).natAbs = b.natAbs := by split <;> omega
    refine ⟨by split <;> omega, by split <;> omega, ?_⟩
    rw [ea, eb]
    have c1 := nrmC_ne (a := a) h0
    have c2 := nrmC_log (a := a) h0 hs
    unfold nrm nrmC at k
    unfold nrmC at c1 c2
    fail "rd"
    refine iteD (fun y => ?_) (fun y => ?_)
    · rw [if_pos y] at k c1 c2
      fail "rd"
      intro p n_p
      generalize g_H1 : upd _ p _ = H1
      obtain ⟨s_H1, e_p⟩ := gen_new n_p g_H1
      clear g_H1
      exact k p H1 s_H1 n_p e_p
    · rw [if_neg y] at k c1 c2
      fail "rd"
      intro p n_p
      generalize g_H1 : upd _ p _ = H1
      obtain ⟨s_H1, e_p⟩ := gen_new n_p g_H1
      clear g_H1
      exact k p H1 s_H1 n_p e_p

abbrev s_law : Stmt := top 17
theorem sc_law : FnScope ["_law_script", "_law_bag_here", "_law_zero", "_law_a", "_law_b", "_law_way", "_law_told", "_law_top", "_law_bottom"] ["_law_script"] (defScope s_law) := ⟨rfl, rfl, rfl, by decide +kernel, rfl, by decide +kernel, by decide +kernel⟩
theorem ok_law {f : Addr} {fd : FuncData} (F : Fun K "law" "law" s_law f fd) (T : Txt K mg ca) (O__law_bag : Own P w K mg base 1 "_law_bag" ["_law_script"] (sp_l_bag K ca)) (O__law_draw : Own P w K mg base 1 "_law_draw" ["_law_bag_here", "_law_size"] (sp_l_draw K ca)) (O__law_mixed : Own P w K mg base 2 "_law_mixed" ["_law_bag_here", "_law_items"] (sp_l_mixed K ca)) (O__law_integer : Own P w K mg base 2 "_law_integer" ["_law_bag_here"] (sp_l_integer K ca)) (O__law_quotient : Own P w K mg base 5 "_law_quotient" ["_law_way", "_law_a", "_law_b"] (sp_l_quotient K ca)) (O__law_due : Own P w K mg base 1 "_law_due" ["_law_way", "_law_a", "_law_b"] (sp_l_due K ca)) (O__law_lowest : Own P w K mg base 2 "_law_lowest" ["_law_top", "_law_bottom"] (sp_l_lowest K ca)) : FnOk P w K mg base (L2.CX P w) 6 f fd ["_law_script"] (sp_law K ca) := by
  refine F.okX sc_law (fun vs H Q E h => ?_) (fun cdv A outer s H vs Q E hr h => ?_)
  · obtain ⟨_, _, rfl, _⟩ := h
    rfl
  · obtain ⟨s0, ns, rfl, hs, k⟩ := h
    refine ⟨_, pss_cons (ps_set (i := 1) sc_law.nd rfl (Or.inl rfl) (pe_own O__law_bag (hr.mono (by decide)) rfl pas0 (pa_cons (pv 0) pa_nil))) (pss_cons (ps_set (i := 2) sc_law.nd rfl (Or.inl rfl) (pe_own O__law_draw (hr.mono (by decide)) rfl pas0 (pa_cons (pv 1) (pa_cons pe_int pa_nil)))) (pss_cons (ps_set (i := 3) sc_law.nd rfl (Or.inl rfl) (pe_tup (pa_cons (pe_own O__law_integer (hr.mono (by decide)) rfl pas0 (pa_cons (pv 1) pa_nil)) (pa_cons (pe_mid (pe_orT (pe_own O__law_integer (hr.mono (by decide)) rfl pas0 (pa_cons (pv 1) pa_nil)) (pe_one pe_int))) pa_nil)))) (pss_cons (ps_set (i := 4) sc_law.nd rfl (Or.inl rfl) (pe_tup (pa_cons (pe_op op_mulI (pe_own O__law_integer (hr.mono (by decide)) rfl pas0 (pa_cons (pv 1) pa_nil)) (pv 2)) (pa_cons (pe_mid (pe_orT (pe_own O__law_integer (hr.mono (by decide)) rfl pas0 (pa_cons (pv 1) pa_nil)) (pe_one pe_int))) pa_nil)))) (pss_cons (ps_for (passes_of rfl) rfl (pi_list (pe_own O__law_mixed (hr.mono (by decide)) rfl pas0 (pa_cons (pv 1) (pa_cons (pe_lst (pa_cons pe_int (pa_cons pe_int (pa_cons pe_int (pa_cons pe_int pa_nil))))) pa_nil)))) (pg_name (i := 5) sc_law.nd rfl (Or.inl rfl)) (pss_cons (ps_set (i := 6) sc_law.nd rfl (Or.inl rfl) (pe_own O__law_quotient (hr.mono (by decide)) rfl pas0 (pa_cons (pv 5) (pa_cons (pv 3) (pa_cons (pv 4) pa_nil))))) (pss_one (ps_if (pt_cmpR op_eq (pe_ix ix_tup (pv 4) pe_int (fun _ _ => rfl)) pe_int (nomark _)) (pss_one (ps_if (pt_cmpR op_notBl (pv 6) pe_bl (nomark _)) (pss_one (ps_ret pe_bl)) pss_nil)) (pss_cons (ps_asg (pe_own O__law_due (hr.mono (by decide)) rfl pas0 (pa_cons (pv 5) (pa_cons (pv 3) (pa_cons (pv 4) pa_nil)))) (pg_tup rfl (pgs_cons (pg_name (i := 7) sc_law.nd rfl (Or.inl rfl)) (pgs_cons (pg_name (i := 8) sc_law.nd rfl (Or.inl rfl)) pgs_nil)))) (pss_one (ps_if (PW.pt (pw_or (pt_not (pt_val (pe_callB call_isi (by rfl) T.b_isinstance (by decide +kernel) (pa_cons (pv 6) (pa_cons (pe_glob (v := .ref (ca 2)) (by rfl) T.g_Ratio rfl) pa_nil))))) (pw_or1 (pt_cmpR (op_neD (Room.units (hr.mono (Nat.zero_le _)))) (pe_tup (pa_cons (pe_fld (pv 6) rfl) (pa_cons (pe_fld (pv 6) rfl) pa_nil))) (pe_own O__law_lowest (hr.mono (by decide)) rfl pas0 (pa_cons (pv 7) (pa_cons (pv 8) pa_nil))) (nomark _))))) (pss_one (ps_ret pe_bl)) pss_nil))))))) (pss_one (ps_ret pe_bl)))))), ?_⟩
    fail "rd"
    refine ⟨s0, ns, rfl, hs, fun L bag H1 nb nL s1 B1 => ?_⟩
    fail "rd"
    refine ⟨L, B1, by decide, by decide, fun c H2 c0 c1 k2 B2 => ?_⟩
    fail "rd"
    refine ⟨L, B2, fun a0 H3 ha0 k3 B3 => ?_⟩
    fail "rd"
    refine ⟨fun v H' => ∃ y : Int, v = .int y ∧ y ≠ 0 ∧ y.natAbs < 2 ^ 164 ∧ Keep bag H3 H' ∧ Bag H' L bag, ?_, ?_⟩
    · fail "rd"
      refine ⟨L, B3, fun y H4 hy k4 B4 => ?_⟩
      refine ⟨_, rfl, iteZ (fun w => ?_) (fun w => ?_)⟩
      · exact ⟨y, rfl, w, hy, k4, B4⟩
      · exact ⟨1, rfl, by decide, by decide, k4, B4⟩
    rintro _ H4 ⟨a1, rfl, na1, ha1, k4, B4⟩
    fail "rd"
    intro pa n_pa
    generalize g_H5 : upd _ pa _ = H5
    obtain ⟨s_H5, e_pa⟩ := gen_new n_pa g_H5
    clear g_H5
    have B5 := B4.same s_H5
    fail "rd"
    refine ⟨L, B5, fun b0 H6 hb0 k6 B6 => ?_⟩
    have e_pa := k6 _ _ e_pa (tup_ne B5 e_pa)
    fail "rd"
    refine ⟨fun v H' => ∃ y : Int, v = .int y ∧ y ≠ 0 ∧ y.natAbs < 2 ^ 164 ∧ Keep bag H6 H' ∧ Bag H' L bag, ?_, ?_⟩
    · fail "rd"
      refine ⟨L, B6, fun y H4 hy k4 B4 => ?_⟩
      refine ⟨_, rfl, iteZ (fun w => ?_) (fun w => ?_)⟩
      · exact ⟨y, rfl, w, hy, k4, B4⟩
      · exact ⟨3, rfl, by decide, by decide, k4, B4⟩
    rintro _ H7 ⟨b1, rfl, nb1, hb1, k7, B7⟩
    have e_pa := k7 _ _ e_pa (tup_ne B6 e_pa)
    fail "rd"
    intro pb n_pb
    generalize g_H8 : upd _ pb _ = H8
    obtain ⟨s_H8, e_pb⟩ := gen_new n_pb g_H8
    clear g_H8
    have e_pa := s_H8 _ _ e_pa
    have B8 := B7.same s_H8
    obtain ⟨z0, e0, hz0⟩ : ∃ z : Int, b0 * c = z ∧ z.natAbs < 2 ^ 170 := by
      refine ⟨_, rfl, ?_⟩
      have hc : c = 0 ∨ c = 1 := by omega
      rcases hc with rfl | rfl
      · rw [Int.mul_zero]
        decide
      · rw [Int.mul_one]
        exact Nat.lt_trans hb0 (by decide)
    have e_pb : H8 pb = some (.tup [.int z0, .int b1]) := by rw [← e0]; exact e_pb
    have s0' := Nat.lt_trans ha0 (show 2 ^ 164 < 2 ^ 170 by decide)
    have s1' := Nat.lt_trans ha1 (show 2 ^ 164 < 2 ^ 170 by decide)
    have s3' := Nat.lt_trans hb1 (show 2 ^ 164 < 2 ^ 170 by decide)
    fail "rd"
    intro pl n_pl
    generalize g_H9 : upd _ pl _ = H9
    obtain ⟨s_H9, e_pl⟩ := gen_new n_pl g_H9
    clear g_H9
    have e_pa := s_H9 _ _ e_pa
    have e_pb := s_H9 _ _ e_pb
    have B9 := B8.same s_H9
    fail "rd"
    refine ⟨bag, pl, _, rfl, L, B9, e_pl, B8.ne n_pl, by decide, fun ys p H10 hperm np k10 B10 hy => ?_⟩
    have e_pa := k10 _ _ e_pa (tup_ne B9 e_pa)
    have e_pb := k10 _ _ e_pb (tup_ne B9 e_pb)
    refine ⟨p, rfl, ⟨_, SqL.of hy⟩, for_list (K := K) (a := p) (xs := ys) (fun i σ' H' => ∃ v1 v2 v3 v4, σ' = [some (.ref s0), some (.ref bag), some (.int c), some (.ref pa), some (.ref pb), v1, v2, v3, v4] ∧ Same H10 H') ⟨none, none, none, none, rfl, Same.refl _⟩
      (fun i σ' H' _ ⟨_, _, _, _, _, s⟩ => SqL.of (s _ _ hy)) ?_ ?_⟩
    · rintro i x σ' H' hx ⟨v1, v2, v3, v4, rfl, sH⟩
      have e_pa := sH _ _ e_pa
      have e_pb := sH _ _ e_pb
      obtain ⟨w, rfl⟩ : ∃ w : Int, x = .int w := by
        have hm := hperm.mem_iff.mp (List.mem_of_getElem? hx)
        simp only [List.mem_cons, List.not_mem_nil, or_false] at hm
        rcases hm with rfl | rfl | rfl | rfl <;> exact ⟨_, rfl⟩
      fail "rd"
      refine ⟨w, a0, a1, z0, b1, pa, pb, rfl, e_pa, e_pb, s0', s1', hz0, s3', na1, nb1, fun z H11 s11 => ?_, fun z r H11 s11 R => ?_⟩
      · have e_pb := s11 _ _ e_pb
        fail "rd"
        refine iteI (fun y => ?_) (fun y => absurd z y)
        fail "rd"
        refine iteDnT rfl ?_
        exact ⟨_, _, _, _, rfl, sH.trans s11⟩
      · have e_pa := s11 _ _ e_pa
        have e_pb := s11 _ _ e_pb
        fail "rd"
        refine iteI (fun y => absurd y z) (fun y => ?_)
        fail "rd"
        refine ⟨w, a0, a1, z0, b1, pa, pb, rfl, e_pa, e_pb, s0', s1', hz0, s3', fun r2 H12 s12 e12 => ?_⟩
        have R := R.same s12
        obtain ⟨_, dx, hr⟩ := id R
        fail "rd"
        refine ⟨_, _, _, _, _, rfl, .own _, .base (.ins hr T.cl_Ratio T.ic_Ratio T.in_Ratio T.it_Ratio T.im_Ratio), kit_self, ?_⟩
        fail "rd"
        intro pt n_pt
        generalize g_H13 : upd _ pt _ = H13
        obtain ⟨s_H13, e_pt⟩ := gen_new n_pt g_H13
        clear g_H13
        fail "rd"
        refine ⟨due_ne na1 nb1 z, due_log s1' hz0 s3', fun p3 H14 s14 _ e14 => ?_⟩
        have e_pt := s14 _ _ e_pt
        fail "rd"
        refine iteDnT ⟨rfl, rfl⟩ ?_
        exact ⟨_, _, _, _, rfl, sH.trans (s11.trans (s12.trans (s_H13.trans s14)))⟩
    · rintro σ' H' ⟨v1, v2, v3, v4, rfl, sH⟩
      fail "rd"
      exact k H'

end
theorem all_mk {l : PySem.W.OpenLaw} {w : World} {K : PySem.W.Frag} {h : Heap} {mg : Str → Option Value} {fa : Addr} (X : K.In h) (G : h.Ns mainGlobals mg) (hfa : mg "law" = some (.ref fa))
    {C0 C1 C2 : Addr}
    {f0 : Addr} {od0 an0 : Option Addr} {sl0 : Array (Option Value)} {oc0 kV0 dc0 pm0 cd0 ct0 : Value}
    {f1 : Addr} {od1 an1 : Option Addr} {sl1 : Array (Option Value)} {oc1 kV1 dc1 pm1 cd1 ct1 : Value}
    {f2 : Addr} {od2 an2 : Option Addr} {sl2 : Array (Option Value)} {oc2 kV2 dc2 pm2 cd2 ct2 : Value}
    {f3 : Addr} {od3 an3 : Option Addr} {sl3 : Array (Option Value)} {oc3 kV3 dc3 pm3 cd3 ct3 : Value}
    {f4 : Addr} {od4 an4 : Option Addr} {sl4 : Array (Option Value)} {oc4 kV4 dc4 pm4 cd4 ct4 : Value}
    {T4 : Addr} {tk4_0 : Tok} {oT4 : Value} {dT4 : Option Addr} {nT4 : Nat} {sT4 : Array (Option Value)}
    {f5 : Addr} {od5 an5 : Option Addr} {sl5 : Array (Option Value)} {oc5 kV5 dc5 pm5 cd5 ct5 : Value}
    {f6 : Addr} {od6 an6 : Option Addr} {sl6 : Array (Option Value)} {oc6 kV6 dc6 pm6 cd6 ct6 : Value}
    {f7 : Addr} {od7 an7 : Option Addr} {sl7 : Array (Option Value)} {oc7 kV7 dc7 pm7 cd7 ct7 : Value}
    {f8 : Addr} {od8 an8 : Option Addr} {sl8 : Array (Option Value)} {oc8 kV8 dc8 pm8 cd8 ct8 : Value}
    {f9 : Addr} {od9 an9 : Option Addr} {sl9 : Array (Option Value)} {oc9 kV9 dc9 pm9 cd9 ct9 : Value}
    {f10 : Addr} {od10 an10 : Option Addr} {sl10 : Array (Option Value)} {oc10 kV10 dc10 pm10 cd10 ct10 : Value}
    {f11 : Addr} {od11 an11 : Option Addr} {sl11 : Array (Option Value)} {oc11 kV11 dc11 pm11 cd11 ct11 : Value}
    (aC0 : PySem.W.nsIn K mainGlobals "CostError" = some (some (.ref C0)))
    (aC1 : PySem.W.nsIn K mainGlobals "NoRatio" = some (some (.ref C1)))
    (aC2 : PySem.W.nsIn K mainGlobals "Ratio" = some (some (.ref C2)))
    (pg2 : PySem.W.plainGet K C2 Str.empty = true)
    (hd2 : PySem.W.hasDictIn K C2 = true)
    (po2 : PySem.W.plainOver K C2 = true)
    (sa2 : PySem.W.findIn K (.ref C2) "__setattr__" = some (some (.builtin "object.__setattr__")))
    (mk2 : PySem.W.makesIn K C2 = true)
    (kc2 : PySem.W.keepIn K (.ref C2) = true)
    (z_ValueError : PySem.W.nsIn K mainGlobals "ValueError" = some none)
    (z_abs : PySem.W.nsIn K mainGlobals "abs" = some none)
    (z_int : PySem.W.nsIn K mainGlobals "int" = some none)
    (z_isinstance : PySem.W.nsIn K mainGlobals "isinstance" = some none)
    (z_len : PySem.W.nsIn K mainGlobals "len" = some none)
    (z_list : PySem.W.nsIn K mainGlobals "list" = some none)
    (z_range : PySem.W.nsIn K mainGlobals "range" = some none)
    (z_gcd : PySem.W.nsIn K mainGlobals "gcd" = some (some (.builtin "math.gcd")))
    (fkp_NoRatio : PySem.W.keepIn K (.ref C1) = true)
    (fex_NoRatio : PySem.W.excIn K C1 [.type "ValueError", .type "Exception", .type "BaseException", .type "object"] "ValueError.__new__" = true)
    (fsb_NoRatio : PySem.W.subIn K (.ref C1) (.type "BaseException") = some true)
    (fty_NoRatio : PySem.W.typeIn K (.ref C1) = some (.type "type"))
    (fxi_NoRatio : PySem.W.isClsIn K C1 = true)
    (fxs_NoRatio : PySem.W.subIn K (.ref C1) (.ref C1) = some true)
    (fy1_NoRatio : PySem.W.findIn K (.ref C1) "__getattribute__" = some (some (.builtin "BaseException.__getattribute__")))
    (fy2_NoRatio : PySem.W.findIn K (.ref C1) "__getattr__" = some none)
    (fy3_NoRatio : PySem.W.hasDictIn K C1 = true)
    (fy4_NoRatio : PySem.W.findIn K (.ref C1) "__class__" = some (some (.builtin "object.__class__")))
    (fo5 : PySem.W.specialIn K (.builtin "object.__class__") "__get__" = some (some (.builtin "getset_descriptor.__get__")))
    (fo6 : PySem.W.takesIn K (.builtin "object.__class__") = some true)
    (fy7_NoRatio : PySem.W.mroIn K C1 (.type "object") = some true)
    (fna_Ratio_top : PySem.W.findIn K (.ref C2) "top" = some none)
    (fna_Ratio_bottom : PySem.W.findIn K (.ref C2) "bottom" = some none)
    (fic_Ratio : PySem.W.findIn K (.ref C2) "__class__" = some (some (.builtin "object.__class__")))
    (fim_Ratio : PySem.W.mroIn K C2 (.type "object") = some true)
    (fki_NoRatio_CostError : PySem.W.kitOne K (.ref C1) (.ref C0) = some true)
    (fki_NoRatio_ValueError : PySem.W.kitOne K (.ref C1) (.type "ValueError") = some true)
    (fki_int_Ratio : PySem.W.kitOne K (.type "int") (.ref C2) = some false)
    (a0 : PySem.W.nsIn K mainGlobals "_law_bag" = some (some (.ref f0)))
    (l0 : K.lookup f0 = some ⟨oc0, od0, .func (PySem.W.fnOf "_law_bag" "_law_bag" (defArgs s_l_bag) (defBody s_l_bag) (defScope s_l_bag) .none kV0 dc0 pm0 an0 cd0 ct0), sl0⟩)
    (c0 : PySem.W.codeIn K cd0 "_law_bag" = true)
    (k0 : PySem.W.keepIn K (.ref f0) = true)
    (a1 : PySem.W.nsIn K mainGlobals "_law_draw" = some (some (.ref f1)))
    (l1 : K.lookup f1 = some ⟨oc1, od1, .func (PySem.W.fnOf "_law_draw" "_law_draw" (defArgs s_l_draw) (defBody s_l_draw) (defScope s_l_draw) .none kV1 dc1 pm1 an1 cd1 ct1), sl1⟩)
    (c1 : PySem.W.codeIn K cd1 "_law_draw" = true)
    (k1 : PySem.W.keepIn K (.ref f1) = true)
    (a2 : PySem.W.nsIn K mainGlobals "_law_mixed" = some (some (.ref f2)))
    (l2 : K.lookup f2 = some ⟨oc2, od2, .func (PySem.W.fnOf "_law_mixed" "_law_mixed" (defArgs s_l_mixed) (defBody s_l_mixed) (defScope s_l_mixed) .none kV2 dc2 pm2 an2 cd2 ct2), sl2⟩)
    (c2 : PySem.W.codeIn K cd2 "_law_mixed" = true)
    (k2 : PySem.W.keepIn K (.ref f2) = true)
    (a3 : PySem.W.nsIn K mainGlobals "_law_integer" = some (some (.ref f3)))
    (l3 : K.lookup f3 = some ⟨oc3, od3, .func (PySem.W.fnOf "_law_integer" "_law_integer" (defArgs s_l_integer) (defBody s_l_integer) (defScope s_l_integer) .none kV3 dc3 pm3 an3 cd3 ct3), sl3⟩)
    (c3 : PySem.W.codeIn K cd3 "_law_integer" = true)
    (k3 : PySem.W.keepIn K (.ref f3) = true)
    (a4 : PySem.W.findIn K (.ref C2) "__init__" = some (some (.ref f4)))
    (i4 : PySem.W.isFn K (.ref f4) = true)
    (l4 : K.lookup f4 = some ⟨oc4, od4, .func (PySem.W.fnOf "__init__" "Ratio.__init__" (defArgs s_Ratio_init) (defBody s_Ratio_init) (defScope s_Ratio_init) (.ref T4) kV4 dc4 pm4 an4 cd4 ct4), sl4⟩)
    (c4 : PySem.W.codeIn K cd4 "Ratio.__init__" = true)
    (k4 : PySem.W.keepIn K (.ref f4) = true)
    (t4 : K.lookup T4 = some ⟨oT4, dT4, .seq #[.int 1 tk4_0] nT4, sT4⟩)
    (a5 : PySem.W.nsIn K mainGlobals "as_ratio" = some (some (.ref f5)))
    (l5 : K.lookup f5 = some ⟨oc5, od5, .func (PySem.W.fnOf "as_ratio" "as_ratio" (defArgs s_as_ratio) (defBody s_as_ratio) (defScope s_as_ratio) .none kV5 dc5 pm5 an5 cd5 ct5), sl5⟩)
    (c5 : PySem.W.codeIn K cd5 "as_ratio" = true)
    (k5 : PySem.W.keepIn K (.ref f5) = true)
    (a6 : PySem.W.findIn K (.ref C2) "over" = some (some (.ref f6)))
    (i6 : PySem.W.isFn K (.ref f6) = true)
    (l6 : K.lookup f6 = some ⟨oc6, od6, .func (PySem.W.fnOf "over" "Ratio.over" (defArgs s_Ratio_over) (defBody s_Ratio_over) (defScope s_Ratio_over) .none kV6 dc6 pm6 an6 cd6 ct6), sl6⟩)
    (c6 : PySem.W.codeIn K cd6 "Ratio.over" = true)
    (k6 : PySem.W.keepIn K (.ref f6) = true)
    (a7 : PySem.W.nsIn K mainGlobals "_law_quotient" = some (some (.ref f7)))
    (l7 : K.lookup f7 = some ⟨oc7, od7, .func (PySem.W.fnOf "_law_quotient" "_law_quotient" (defArgs s_l_quotient) (defBody s_l_quotient) (defScope s_l_quotient) .none kV7 dc7 pm7 an7 cd7 ct7), sl7⟩)
    (c7 : PySem.W.codeIn K cd7 "_law_quotient" = true)
    (k7 : PySem.W.keepIn K (.ref f7) = true)
    (a8 : PySem.W.nsIn K mainGlobals "_law_due" = some (some (.ref f8)))
    (l8 : K.lookup f8 = some ⟨oc8, od8, .func (PySem.W.fnOf "_law_due" "_law_due" (defArgs s_l_due) (defBody s_l_due) (defScope s_l_due) .none kV8 dc8 pm8 an8 cd8 ct8), sl8⟩)
    (c8 : PySem.W.codeIn K cd8 "_law_due" = true)
    (k8 : PySem.W.keepIn K (.ref f8) = true)
    (a9 : PySem.W.nsIn K mainGlobals "_law_divisor" = some (some (.ref f9)))
    (l9 : K.lookup f9 = some ⟨oc9, od9, .func (PySem.W.fnOf "_law_divisor" "_law_divisor" (defArgs s_l_divisor) (defBody s_l_divisor) (defScope s_l_divisor) .none kV9 dc9 pm9 an9 cd9 ct9), sl9⟩)
    (c9 : PySem.W.codeIn K cd9 "_law_divisor" = true)
    (k9 : PySem.W.keepIn K (.ref f9) = true)
    (a10 : PySem.W.nsIn K mainGlobals "_law_lowest" = some (some (.ref f10)))
    (l10 : K.lookup f10 = some ⟨oc10, od10, .func (PySem.W.fnOf "_law_lowest" "_law_lowest" (defArgs s_l_lowest) (defBody s_l_lowest) (defScope s_l_lowest) .none kV10 dc10 pm10 an10 cd10 ct10), sl10⟩)
    (c10 : PySem.W.codeIn K cd10 "_law_lowest" = true)
    (k10 : PySem.W.keepIn K (.ref f10) = true)
    (a11 : PySem.W.nsIn K mainGlobals "law" = some (some (.ref f11)))
    (l11 : K.lookup f11 = some ⟨oc11, od11, .func (PySem.W.fnOf "law" "law" (defArgs s_law) (defBody s_law) (defScope s_law) .none kV11 dc11 pm11 an11 cd11 ct11), sl11⟩)
    (c11 : PySem.W.codeIn K cd11 "law" = true)
    (k11 : PySem.W.keepIn K (.ref f11) = true)
    : ∃ fd : FuncData, (∀ (s : Shared) (v : Value), BindsTo s fd ⟨[v], []⟩ [("_law_script", v)]) ∧ ∀ base : Heap, K.In base → base.Ns mainGlobals mg → FnOk l.prog w K mg base (L2.CX l.prog w) 6 fa fd ["_law_script"] (sp_law K fun _ => 0) := by
  have e := hfa.symm.trans (PySem.W.mg_of X G a11)
  cases e
  have T : Txt K mg (fun n => if n = 0 then C0 else if n = 1 then C1 else if n = 2 then C2 else 0) := ⟨PySem.W.mg_none_of X G z_ValueError, PySem.W.mg_none_of X G z_abs, PySem.W.mg_none_of X G z_int, PySem.W.mg_none_of X G z_isinstance, PySem.W.mg_none_of X G z_len, PySem.W.mg_none_of X G z_list, PySem.W.mg_none_of X G z_range, PySem.W.mg_of X G z_gcd, PySem.W.mg_of X G aC0, PySem.W.mg_of X G aC1, fkp_NoRatio, fex_NoRatio, fsb_NoRatio, fty_NoRatio, exm1 fsb_NoRatio fxi_NoRatio fty_NoRatio fxs_NoRatio, ⟨fy1_NoRatio, fy2_NoRatio, fsb_NoRatio, fy3_NoRatio, fy4_NoRatio, fo5, fo6, fy7_NoRatio⟩, PySem.W.mg_of X G aC2, ⟨pg2, hd2, po2, sa2⟩, fna_Ratio_top, fna_Ratio_bottom, fic_Ratio, fo5, fo6, fim_Ratio, fki_NoRatio_CostError, fki_NoRatio_ValueError, fki_int_Ratio⟩
  have F0 := fun_mk (st := s_l_bag) l0 c0 k0
  have b0 := F0.binds (ps := ["_law_script"]) fun _ _ _ _ _ _ us hl => match us, hl with | [_], _ => rfl
  have F1 := fun_mk (st := s_l_draw) l1 c1 k1
  have b1 := F1.binds (ps := ["_law_bag_here", "_law_size"]) fun _ _ _ _ _ _ us hl => match us, hl with | [_, _], _ => rfl
  have F2 := fun_mk (st := s_l_mixed) l2 c2 k2
  have b2 := F2.binds (ps := ["_law_bag_here", "_law_items"]) fun _ _ _ _ _ _ us hl => match us, hl with | [_, _], _ => rfl
  have F3 := fun_mk (st := s_l_integer) l3 c3 k3
  have b3 := F3.binds (ps := ["_law_bag_here"]) fun _ _ _ _ _ _ us hl => match us, hl with | [_], _ => rfl
  have F4 : FunD K "__init__" "Ratio.__init__" (defArgs s_Ratio_init) (defBody s_Ratio_init) (defScope s_Ratio_init) [.int 1] [] f4 _ := ⟨⟨_, _, _, _, _, _, _, _, _, _, rfl, l4, c4, .inr ⟨by simp, T4, _, [.int 1 tk4_0], nT4, rfl, t4, rfl, (.cons ⟨_, rfl⟩ .nil)⟩, .inl rfl⟩, k4⟩
  have b4_2 := F4.binds1 (ps := ["self", "top", "bottom"]) 3 1 (by simp) (by decide) fun _ _ _ _ _ _ _ us its hl hi => match us, hl, its, hi with | [_, _, _], _, [_], _ => ⟨_, rfl, rfl⟩
  have b4_1 := F4.binds1 (ps := ["self", "top", "bottom"]) 2 0 (by simp) (by decide) fun _ _ _ _ _ _ _ us its hl hi => match us, hl, its, hi with | [_, _], _, [_], _ => ⟨_, rfl, rfl⟩
  have F5 := fun_mk (st := s_as_ratio) l5 c5 k5
  have b5 := F5.binds (ps := ["number"]) fun _ _ _ _ _ _ us hl => match us, hl with | [_], _ => rfl
  have F6 := fun_mk (st := s_Ratio_over) l6 c6 k6
  have b6 := F6.binds (ps := ["self", "other"]) fun _ _ _ _ _ _ us hl => match us, hl with | [_, _], _ => rfl
  have F7 := fun_mk (st := s_l_quotient) l7 c7 k7
  have b7 := F7.binds (ps := ["_law_way", "_law_a", "_law_b"]) fun _ _ _ _ _ _ us hl => match us, hl with | [_, _, _], _ => rfl
  have F8 := fun_mk (st := s_l_due) l8 c8 k8
  have b8 := F8.binds (ps := ["_law_way", "_law_a", "_law_b"]) fun _ _ _ _ _ _ us hl => match us, hl with | [_, _, _], _ => rfl
  have F9 := fun_mk (st := s_l_divisor) l9 c9 k9
  have b9 := F9.binds (ps := ["_law_one", "_law_other"]) fun _ _ _ _ _ _ us hl => match us, hl with | [_, _], _ => rfl
  have F10 := fun_mk (st := s_l_lowest) l10 c10 k10
  have b10 := F10.binds (ps := ["_law_top", "_law_bottom"]) fun _ _ _ _ _ _ us hl => match us, hl with | [_, _], _ => rfl
  have F11 := fun_mk (st := s_law) l11 c11 k11
  have b11 := F11.binds (ps := ["_law_script"]) fun _ _ _ _ _ _ us hl => match us, hl with | [_], _ => rfl
  refine ⟨PySem.W.fnOf "law" "law" (defArgs s_law) (defBody s_law) (defScope s_law) .none kV11 dc11 pm11 an11 cd11 ct11, fun s v => .of_eq rfl, fun base _ _ => ?_⟩
  have O0 : Own l.prog w K mg base 1 "_law_bag" ["_law_script"] (sp_l_bag K (fun n => if n = 0 then C0 else if n = 1 then C1 else if n = 2 then C2 else 0)) := ⟨⟨f0, _, ok_l_bag F0 T , PySem.W.mg_of X G a0, k0, b0⟩⟩
  have O1 : Own l.prog w K mg base 1 "_law_draw" ["_law_bag_here", "_law_size"] (sp_l_draw K (fun n => if n = 0 then C0 else if n = 1 then C1 else if n = 2 then C2 else 0)) := ⟨⟨f1, _, ok_l_draw F1 T , PySem.W.mg_of X G a1, k1, b1⟩⟩
  have O2 : Own l.prog w K mg base 2 "_law_mixed" ["_law_bag_here", "_law_items"] (sp_l_mixed K (fun n => if n = 0 then C0 else if n = 1 then C1 else if n = 2 then C2 else 0)) := ⟨⟨f2, _, ok_l_mixed F2 T O1, PySem.W.mg_of X G a2, k2, b2⟩⟩
  have O3 : Own l.prog w K mg base 2 "_law_integer" ["_law_bag_here"] (sp_l_integer K (fun n => if n = 0 then C0 else if n = 1 then C1 else if n = 2 then C2 else 0)) := ⟨⟨f3, _, ok_l_integer F3 T O1, PySem.W.mg_of X G a3, k3, b3⟩⟩
  obtain ⟨ds4_2, vd4_2, bd4_2⟩ := b4_2
  have O4_2 : OwnI l.prog w K mg base 1 "Ratio" C2 ["self", "top", "bottom"] [] (sp_Ratio_init K (fun n => if n = 0 then C0 else if n = 1 then C1 else if n = 2 then C2 else 0)) := ⟨⟨f4, _, _, ok_Ratio_init F4 T , ⟨mk2, a4, i4, kc2⟩, PySem.W.mg_of X G aC2, bd4_2, vd4_2⟩⟩
  obtain ⟨ds4_1, vd4_1, bd4_1⟩ := b4_1
  have O4_1 : OwnI l.prog w K mg base 1 "Ratio" C2 ["self", "top", "bottom"] [.int 1] (sp_Ratio_init K (fun n => if n = 0 then C0 else if n = 1 then C1 else if n = 2 then C2 else 0)) := ⟨⟨f4, _, _, ok_Ratio_init F4 T , ⟨mk2, a4, i4, kc2⟩, PySem.W.mg_of X G aC2, bd4_1, vd4_1⟩⟩
  have O5 : Own l.prog w K mg base 3 "as_ratio" ["number"] (sp_as_ratio K (fun n => if n = 0 then C0 else if n = 1 then C1 else if n = 2 then C2 else 0)) := ⟨⟨f5, _, ok_as_ratio F5 T O4_2 O4_1, PySem.W.mg_of X G a5, k5, b5⟩⟩
  have O6 : OwnM l.prog w K mg base 4 C2 "over" ["self", "other"] (sp_Ratio_over K (fun n => if n = 0 then C0 else if n = 1 then C1 else if n = 2 then C2 else 0)) := ⟨⟨pg2, hd2, po2, sa2⟩, ⟨f6, _, ok_Ratio_over F6 T O5 O4_2 O4_1, ⟨a6, i6, k6⟩, b6⟩⟩
  have O7 : Own l.prog w K mg base 5 "_law_quotient" ["_law_way", "_law_a", "_law_b"] (sp_l_quotient K (fun n => if n = 0 then C0 else if n = 1 then C1 else if n = 2 then C2 else 0)) := ⟨⟨f7, _, ok_l_quotient F7 T O4_2 O4_1 O6, PySem.W.mg_of X G a7, k7, b7⟩⟩
  have O8 : Own l.prog w K mg base 1 "_law_due" ["_law_way", "_law_a", "_law_b"] (sp_l_due K (fun n => if n = 0 then C0 else if n = 1 then C1 else if n = 2 then C2 else 0)) := ⟨⟨f8, _, ok_l_due F8 T , PySem.W.mg_of X G a8, k8, b8⟩⟩
  have O9 : Own l.prog w K mg base 1 "_law_divisor" ["_law_one", "_law_other"] (sp_l_divisor K (fun n => if n = 0 then C0 else if n = 1 then C1 else if n = 2 then C2 else 0)) := ⟨⟨f9, _, ok_l_divisor F9 T , PySem.W.mg_of X G a9, k9, b9⟩⟩
  have O10 : Own l.prog w K mg base 2 "_law_lowest" ["_law_top", "_law_bottom"] (sp_l_lowest K (fun n => if n = 0 then C0 else if n = 1 then C1 else if n = 2 then C2 else 0)) := ⟨⟨f10, _, ok_l_lowest F10 T O9, PySem.W.mg_of X G a10, k10, b10⟩⟩
  have z : FnOk l.prog w K mg base (L2.CX l.prog w) 6 _ _ ["_law_script"] (sp_law K (fun n => if n = 0 then C0 else if n = 1 then C1 else if n = 2 then C2 else 0)) := ok_law F11 T O0 O1 O2 O3 O7 O8 O10
  exact z
end Lo
open PySem PySem.W PyProof.Rows in
set_option maxRecDepth 100000 in
set_option maxHeartbeats 0 in
theorem PySem.Challenge.cw_lotcosts_k13_division_by_zero_holds : PySem.Challenge.rw_lotcosts_k13_division_by_zero.Holds := by
  w_on; o_law; k_head; (case hw => w_witness2)
  k_fill
  refine Lo.walk (l := PySem.Challenge.rw_lotcosts_k13_division_by_zero) 6 ⟨rfl, by decide, by decide⟩ rfl rfl (fun w h Y => PySem.W.kIn_of Y) ?F
  case F =>
    intro w mg fa h KX G hmg
    refine' Lo.all_mk KX G hmg ?aC0 ?aC1 ?aC2 ?pg2 ?hd2 ?po2 ?sa2 ?mk2 ?kc2 ?z_ValueError ?z_abs ?z_int ?z_isinstance ?z_len ?z_list ?z_range ?z_gcd ?fkp_NoRatio ?fex_NoRatio ?fsb_NoRatio ?fty_NoRatio ?fxi_NoRatio ?fxs_NoRatio ?fy1_NoRatio ?fy2_NoRatio ?fy3_NoRatio ?fy4_NoRatio ?fo5 ?fo6 ?fy7_NoRatio ?fna_Ratio_top ?fna_Ratio_bottom ?fic_Ratio ?fim_Ratio ?fki_NoRatio_CostError ?fki_NoRatio_ValueError ?fki_int_Ratio ?a0 ?l0 ?c0 ?k0 ?a1 ?l1 ?c1 ?k1 ?a2 ?l2 ?c2 ?k2 ?a3 ?l3 ?c3 ?k3 ?a4 ?i4 ?l4 ?c4 ?k4 ?t4 ?a5 ?l5 ?c5 ?k5 ?a6 ?i6 ?l6 ?c6 ?k6 ?a7 ?l7 ?c7 ?k7 ?a8 ?l8 ?c8 ?k8 ?a9 ?l9 ?c9 ?k9 ?a10 ?l10 ?c10 ?k10 ?a11 ?l11 ?c11 ?k11
    (case aC0 => k_is)
    (case aC1 => k_is)
    (case aC2 => k_is)
    (case pg2 => k_is)
    (case hd2 => k_is)
    (case po2 => k_is)
    (case sa2 => k_is)
    (case mk2 => k_is)
    (case kc2 => k_is)
    (case z_ValueError => k_is)
    (case z_abs => k_is)
    (case z_int => k_is)
    (case z_isinstance => k_is)
    (case z_len => k_is)
    (case z_list => k_is)
    (case z_range => k_is)
    (case z_gcd => k_is)
    (case fkp_NoRatio => k_is)
    (case fex_NoRatio => k_exc)
    (case fsb_NoRatio => k_is)
    (case fty_NoRatio => k_is)
    (case fxi_NoRatio => k_is)
    (case fxs_NoRatio => first | rfl | k_is)
    (case fy1_NoRatio => k_is)
    (case fy2_NoRatio => k_is)
    (case fy3_NoRatio => k_is)
    (case fy4_NoRatio => k_is)
    (case fo5 => k_is)
    (case fo6 => k_is)
    (case fy7_NoRatio => k_is)
    (case fna_Ratio_top => k_is)
    (case fna_Ratio_bottom => k_is)
    (case fic_Ratio => k_is)
    (case fim_Ratio => k_is)
    (case fki_NoRatio_CostError => kit_is)
    (case fki_NoRatio_ValueError => kit_is)
    (case fki_int_Ratio => kit_is)
    (case a0 => k_is)
    (case l0 => k_is)
    (case c0 => k_is)
    (case k0 => k_is)
    (case a1 => k_is)
    (case l1 => k_is)
    (case c1 => k_is)
    (case k1 => k_is)
    (case a2 => k_is)
    (case l2 => k_is)
    (case c2 => k_is)
    (case k2 => k_is)
    (case a3 => k_is)
    (case l3 => k_is)
    (case c3 => k_is)
    (case k3 => k_is)
    (case a4 => k_is)
    (case i4 => k_is)
    (case l4 => k_is)
    (case c4 => k_is)
    (case k4 => k_is)
    (case t4 => k_is)
    (case a5 => k_is)
    (case l5 => k_is)
    (case c5 => k_is)
    (case k5 => k_is)
    (case a6 => k_is)
    (case i6 => k_is)
    (case l6 => k_is)
    (case c6 => k_is)
    (case k6 => k_is)
    (case a7 => k_is)
    (case l7 => k_is)
    (case c7 => k_is)
    (case k7 => k_is)
    (case a8 => k_is)
    (case l8 => k_is)
    (case c8 => k_is)
    (case k8 => k_is)
    (case a9 => k_is)
    (case l9 => k_is)
    (case c9 => k_is)
    (case k9 => k_is)
    (case a10 => k_is)
    (case l10 => k_is)
    (case c10 => k_is)
    (case k10 => k_is)
    (case a11 => k_is)
    (case l11 => k_is)
    (case c11 => k_is)
    (case k11 => k_is)
#print axioms PySem.Challenge.cw_lotcosts_k13_division_by_zero_holds
