import PyProof.Rows.All
import Wide.All
import OpenK.AllK
import Wide.FinOn
import HandS.ForMost
import HandS.Exc
import HandS.ExcOwn
import HandS.ExcInit
import HandS.ExcField
import HandS.ExcValue
import HandS.Evl
import HandS.IsInst
import HandS.ExcIs
import KE.KExcIs
import PySem.Challenge.RW_splitalike_k71_errors_stand_apart
set_option Elab.async false
set_option linter.all false
set_option maxRecDepth 100000
/-! Readings, one step at a time: what a reading asks, by its head. -/
namespace Rd
open PySem L2
section
variable {K : PySem.W.Frag} {σ : L2.St} {H : Hp} {ta tb tc te : TE} {t u : TT} {x y z v : V} {r r' : R2} {D : Ends} {s s1 s2 : TS} {Q : VK} {QB : Bool → Hp → Prop} {QA : List V → Hp → Prop} {QS : L2.St → Hp → Prop} {g : TG} {A A' : TA}
theorem i_var {i : Nat} (h : σ[i]? = some (some v)) (q : Q v H) : tVar i σ H Q := ⟨v, h, q⟩
theorem i_c (q : Q v H) : tC v σ H Q := q
theorem i_op (q : ta σ H fun x H1 => tb σ H1 fun y H2 => r x y H2 Q) : tOp r ta tb σ H Q := q
theorem i_un {r : V → Hp → VK → Prop} (q : ta σ H fun x H1 => r x H1 Q) : tUn r ta σ H Q := q
theorem i_rI0 {g : Int → Int → V} {i j : Int} (q : Q (g i j) H) : rI0 g (.int i) (.int j) H Q := ⟨i, j, rfl, rfl, q⟩
theorem i_rI {C : Int → Int → Prop} {g : Int → Int → V} {i j : Int} (c : C i j) (q : Q (g i j) H) : rI C g (.int i) (.int j) H Q := ⟨i, j, rfl, rfl, c, q⟩
theorem i_rEq (s : scal x y = true) (q : Q (.bl (decide (x = y))) H) : rEq x y H Q := ⟨s, q⟩
theorem i_rNe (s : scal x y = true) (q : Q (.bl (!decide (x = y))) H) : rNe x y H Q := ⟨s, q⟩
theorem i_test (q : ta σ H fun x H' => ∃ k, x = .bl k ∧ QB k H') : tTest ta σ H QB := q
theorem i_tB (q : ta σ H fun x H' => ∃ k, x = .bl k ∧ QB k H') : tB ta σ H QB := q
theorem i_bl {b : Bool} {R : Bool → Prop} (q : R b) : ∃ k, V.bl b = V.bl k ∧ R k := ⟨b, rfl, q⟩
theorem i_and (q : t σ H fun c H1 => if c = true then u σ H1 QB else QB false H1) : tAnd t u σ H QB := q
theorem i_or (q : t σ H fun c H1 => if c = true then QB true H1 else u σ H1 QB) : tOr t u σ H QB := q
theorem i_not (q : t σ H fun c H1 => QB (!c) H1) : tNot t σ H QB := q
theorem i_notV (q : ta σ H fun x H1 => ∃ c, x = .bl c ∧ Q (.bl (!c)) H1) : tNotV ta σ H Q := q
theorem i_andV (q : ta σ H fun x H1 => ∃ c, x = .bl c ∧ if c = true then tb σ H1 Q else Q (.bl false) H1) : tAndV ta tb σ H Q := q
theorem i_orV (q : ta σ H fun x H1 => ∃ c, x = .bl c ∧ if c = true then Q (.bl true) H1 else tb σ H1 Q) : tOrV ta tb σ H Q := q
theorem i_if (q : t σ H fun c H1 => if c = true then ta σ H1 Q else tb σ H1 Q) : tIf t ta tb σ H Q := q
theorem i_chain (q : ta σ H fun x H1 => tb σ H1 fun y H2 => r x y H2 fun z H3 => ∃ k, z = .bl k ∧ (if k = true then tc σ H3 fun w' H4 => r' y w' H4 Q else Q (.bl false) H3)) : tChain r r' ta tb tc σ H Q := q
theorem i_call {sp : Sp} {dvs : List V} {E : XK} (q : A σ H fun vs H1 => sp (vs ++ dvs) H1 Q E) : tCall sp dvs E A σ H Q := q
theorem i_nil (q : QA [] H) : tNil σ H QA := q
theorem i_cons (q : ta σ H fun x H1 => A σ H1 fun xs H2 => QA (x :: xs) H2) : tCons ta A σ H QA := q
theorem i_cb {r : List V → Hp → VK → Prop} (q : A σ H fun vs H1 => r vs H1 Q) : tCB r A σ H Q := q
theorem i_bm {T : String} {r : V → List V → Hp → VK → Prop} (q : ta σ H fun x H1 => tyV K T x H1 ∧ A σ H1 fun xs H2 => r x xs H2 Q) : tBM K T r ta A σ H Q := q
theorem i_bm0 {T : String} {r : V → List V → Hp → VK → Prop} (q : ta σ H fun x H1 => tyV K T x H1 ∧ r x [] H1 Q) : tBM0 K T r ta σ H Q := q
theorem i_tup (q : A σ H fun xs H1 => xs.length ≤ sizeLine ∧ ∀ p, H1 p = none → Q (.ref p) (upd H1 p (.tup xs))) : tTup A σ H Q := q
theorem i_lst (q : A σ H fun xs H1 => xs.length ≤ sizeLine ∧ ∀ p, H1 p = none → Q (.ref p) (upd H1 p (.lst xs))) : tLst A σ H Q := q
theorem i_seq (q : s1 { D with nx := s2 D } σ H) : tSeq s1 s2 D σ H := q
theorem i_asg (q : te σ H fun x H1 => g x σ H1 D.nx) : tAsg te g D σ H := q
theorem i_name {i : Nat} (q : QS (σ.set i (some v)) H) : gName i v σ H QS := q
theorem i_sub {ts : TSet} (q : ta σ H fun o H1 => tb σ H1 fun i H2 => ts o i v H2 fun H3 => QS σ H3) : gSub ta tb ts v σ H QS := q
theorem i_ret (q : te σ H D.rt) : tRet te D σ H := q
theorem i_drop (q : te σ H fun _ H1 => D.nx σ H1) : tDrop te D σ H := q
theorem i_ifS (q : t σ H fun b H1 => if b = true then s1 D σ H1 else s2 D σ H1) : tIfS t s1 s2 D σ H := q
theorem i_next (q : D.nx σ H) : tNext D σ H := q
theorem i_nx {f b c : L2.St → Hp → Prop} {r : VK} (q : f σ H) : Ends.nx ⟨f, r, b, c⟩ σ H := q
theorem i_rt {f b c : L2.St → Hp → Prop} {r : VK} (q : r v H) : Ends.rt ⟨f, r, b, c⟩ v H := q
theorem i_bk {f b c : L2.St → Hp → Prop} {r : VK} (q : b σ H) : Ends.bk ⟨f, r, b, c⟩ σ H := q
theorem i_ct {f b c : L2.St → Hp → Prop} {r : VK} (q : c σ H) : Ends.ct ⟨f, r, b, c⟩ σ H := q
theorem i_ixL {p : Addr} {xs : List V} {i : Int} (h : SqL K H p xs) (e : atI xs i = some v) (q : Q v H) : rIxL K (.ref p) (.int i) H Q := ⟨p, xs, i, v, rfl, rfl, h, e, q⟩
theorem i_ixT {p : Addr} {xs : List V} {i : Int} (h : SqT K H p xs) (e : atI xs i = some v) (q : Q v H) : rIxT K (.ref p) (.int i) H Q := ⟨p, xs, i, v, rfl, rfl, h, e, q⟩
theorem i_setL {p : Addr} {xs : List V} {k : Int} {j : Nat} {QH : Hp → Prop} (h : H p = some (.lst xs)) (e : ixN xs.length k = some j) (q : QH (upd H p (.lst (xs.set j v)))) : rSetL (.ref p) (.int k) v H QH := ⟨p, xs, k, j, rfl, rfl, h, e, q⟩
theorem i_int1 {i : Int} {R : Int → Prop} {R2 : Prop} (q : R i) : (∃ j, [V.int i] = [V.int j] ∧ R j) ∨ R2 := .inl ⟨i, rfl, q⟩
theorem i_intb {b : Bool} {R : Bool → Prop} {R2 : Prop} (q : R b) : R2 ∨ ∃ k, [V.bl b] = [V.bl k] ∧ R k := .inr ⟨b, rfl, q⟩
theorem i_len {p : Addr} {xs : List V} {R : List V → Prop} (h : SqL K H p xs) (q : R xs) : ∃ p' ys, [V.ref p] = [V.ref p'] ∧ (SqL K H p' ys ∨ SqT K H p' ys) ∧ R ys := ⟨p, xs, rfl, .inl h, q⟩
theorem i_lenT {p : Addr} {xs : List V} {R : List V → Prop} (h : SqT K H p xs) (q : R xs) : ∃ p' ys, [V.ref p] = [V.ref p'] ∧ (SqL K H p' ys ∨ SqT K H p' ys) ∧ R ys := ⟨p, xs, rfl, .inr h, q⟩
theorem i_max {i j : Int} {R : Int → Int → Prop} (q : R i j) : ∃ i' j', [V.int i, V.int j] = [V.int i', V.int j'] ∧ R i' j' := ⟨i, j, rfl, q⟩

theorem i_append {p : Addr} {xs : List V} (h : H p = some (.lst xs)) (hz : xs.length < sizeLine) (q : Q .non (upd H p (.lst (xs ++ [v])))) : rAppend (.ref p) [v] H Q := ⟨p, xs, v, rfl, rfl, h, hz, q⟩
theorem i_catL {p b : Addr} {xs zs : List V} (h1 : H p = some (.lst xs)) (h2 : H b = some (.lst zs)) (hz : xs.length + zs.length ≤ sizeLine) (q : ∀ a, H a = none → Q (.ref a) (upd H a (.lst (xs ++ zs)))) : rCat (.ref p) (.ref b) H Q := ⟨p, b, xs, zs, rfl, rfl, h1, h2, hz, q⟩
theorem i_gtup {p : Addr} {xs : List V} {n : Nat} {tg : TGs} (h : SqT K H p xs) (e : xs.length = n) (q : tg xs σ H QS) : gTup K n tg (.ref p) σ H QS := ⟨p, xs, rfl, h, e, q⟩
theorem i_gcons {tg : TG} {ug : TGs} {vs : List V} (q : tg v σ H fun σ' H' => ug vs σ' H' QS) : gCons tg ug (v :: vs) σ H QS := ⟨v, vs, rfl, q⟩
theorem i_gnil (q : QS σ H) : gNil [] σ H QS := ⟨rfl, q⟩
/-- ways -/
theorem ite_d {p : Prop} [Decidable p] {a b : Prop} (h1 : p → a) (h2 : ¬ p → b) : if decide p = true then a else b := by
  by_cases h : p
  · rw [if_pos (decide_eq_true h)]; exact h1 h
  · rw [if_neg (by rw [decide_eq_false h]; exact Bool.false_ne_true)]; exact h2 h
theorem ite_nd {p : Prop} [Decidable p] {a b : Prop} (h1 : p → b) (h2 : ¬ p → a) : if (!decide p) = true then a else b := by
  by_cases h : p
  · rw [decide_eq_true h, if_neg (by decide)]; exact h1 h
  · rw [decide_eq_false h, if_pos (by decide)]; exact h2 h
theorem ite_b {c : Bool} {a b : Prop} (h1 : c = true → a) (h2 : c = false → b) : if c = true then a else b := by
  cases c
  · rw [if_neg Bool.false_ne_true]; exact h2 rfl
  · rw [if_pos rfl]; exact h1 rfl
theorem ite_vi {i j : Int} {a b : Prop} (h1 : i = j → a) (h2 : i ≠ j → b) : if decide (V.int i = V.int j) = true then a else b := ite_d (fun e => h1 (V.int.inj e)) fun n => h2 fun e => n (by rw [e])
theorem ite_T {a b : Prop} (h : a) : if true = true then a else b := by rw [if_pos rfl]; exact h
theorem ite_F {a b : Prop} (h : b) : if false = true then a else b := by rw [if_neg Bool.false_ne_true]; exact h
theorem mulL {i j : Int} (h1 : -(2 ^ 64) < i) (h2 : i < 2 ^ 64) : CMul i j := .inl ⟨h1, h2⟩
theorem mulR {i j : Int} (h1 : -(2 ^ 64) < j) (h2 : j < 2 ^ 64) : CMul i j := .inr ⟨h1, h2⟩
/-- fields of new things -/
theorem up_ne {H : Hp} {a b : Addr} {o : HO} {u : HO} (hn : H a = none) (h : H b = some u) : upd H a o b = some u := by rw [upd_ne (ne_of_none h hn)]; exact h
end
end Rd

set_option maxHeartbeats 4000000
/-! Exceptions of the program's own classes as values: made, a field read, isinstance. -/
namespace Xv
open PySem PySem.Spec PyProof.Rows L2

section
variable {X : Cx} {e : Expr} {es : List Expr} {te : TE} {ta : TA} {p pos : Pos}
/-- C(e, ..) as a value, C's own __init__ keeping sp -/
def tMkV (C : Addr) (sp : Sp) (ta : TA) : TE := fun σ H Q => ta σ H fun vs H1 => vs.length ≤ 1000 ∧ ∀ a, H1 a = none → sp (.ref a :: vs) (upd H1 a (exo a C none)) (fun v H2 => v = .non ∧ Q (.ref a) H2) (fun _ _ _ => False)
theorem pe_mkV {CX : CXT} {x : Str} {C fI : Addr} {k : Nat} {fd : FuncData} {ps : List Str} {sp : Sp} (T : OexC X.K C) (iC : PySem.W.findIn X.K (.ref C) "__init__" = some (some (.ref fI))) (tI : PySem.W.typeIn X.K (.ref fI) = some (.type "function"))
    (F1 : FnOk X.prog X.w X.K X.mg X.base CX k fI fd ps sp) (hr : Room (k + 1) X.A) (hb : Binds X.K fd ps []) (hx : Passes CX X (fun _ _ _ => False)) (hg : Gl X x) (hm : X.mg x = some (.ref C)) (ha : PA X (e :: es) ta)
    (hdb : (x == ("__debug__" : Str)) = false := by decide) (he : starEach (e :: es) X.env = (false, eval e X.env) :: starEach es X.env := by rfl) (hpl : (backTo pos (starEach es X.env)).any (·.1) = false := by rfl) :
    PE X (.Call (.Name x p) (e :: es) [] pos) (tMkV C sp ta) := by
  refine ⟨fun pins s σ H Q I h => ?_⟩
  obtain ⟨nm, q, N, bs, bm, sn, sub, ab, col, dd, k0, k1, k2, k3, k5, hC, hbm⟩ := T.cls
  refine wpAny_Call_Name_kw (ld_glob I hg hm ?_ hdb)
  refine PySem.W.callWith_K (h₀ := X.base) I.ok.mod.kin T.kC (thn (ha.run pos pins s σ H _ I h) fun us s1 ⟨vs, H1, I1, r1, hz, q1⟩ => ⟨I1.kIn, ?_⟩) he hpl
  show wpAny _ _ (call (.ref C) us) _ _ _
  obtain ⟨hp, g, dr, tk, os⟩ := s1
  have hsz : hp.objs.size ≤ hp.objs.size + 1 := Nat.le_succ _
  have hn : H1 (hp.objs.size + 1) = none := I1.hok.fresh hsz
  have hq := q1 (hp.objs.size + 1) hn
  have kk : ∀ b o, hp.get? b = some o → ((hp.push (PySem.W.kdv_tup us)).push (PySem.HandSPX.excO C hp.objs.size)).get? b = some o := fun b o e => Heap.get?_push_of_some _ (Heap.get?_push_of_some _ e)
  have hget : ((hp.push (PySem.W.kdv_tup us)).push (PySem.HandSPX.excO C hp.objs.size)).get? (hp.objs.size + 1) = some (PySem.HandSPX.excO C hp.objs.size) := by heap_get
  have I2 : Inv X pins σ (upd H1 (hp.objs.size + 1) (exo (hp.objs.size + 1) C none)) ⟨(hp.push (PySem.W.kdv_tup us)).push (PySem.HandSPX.excO C hp.objs.size), g, dr, tk, os⟩ :=
    I1.laid (t' := tk) (a := hp.objs.size + 1) (o := exo (hp.objs.size + 1) C none) (h' := (hp.push (PySem.W.kdv_tup us)).push (PySem.HandSPX.excO C hp.objs.size)) kk hsz (exo_ok hget)
  have r2 : Vals (V.ref (hp.objs.size + 1) :: vs) (Value.ref (hp.objs.size + 1) :: us) := .cons rfl r1
  have hl : (Value.ref (hp.objs.size + 1) :: us).length = ps.length := by
    have e := r2.length
    rw [F1.len _ _ _ _ hq] at e
    exact e.symm
  have hus : us.length ≤ sizeLine := by
    rw [← Paired.length r1, sizeLine_eq]
    omega
  have b0 := hb ⟨(hp.push (PySem.W.kdv_tup us)).push (PySem.HandSPX.excO C hp.objs.size), g, dr, tk, os⟩ (Value.ref (hp.objs.size + 1) :: us) I2.kIn (by rw [List.append_nil]; exact hl)
  rw [List.append_nil] at b0
  refine wpAny_call (PySem.HandSPX.call_own F.excBase_ValueError (fun Y => PySem.HandSPX.refsVE_contains Y bm hbm) (I1.kIn _ _ hC) (PySem.W.looks_findIn I1.kIn iC) (fun self => PySem.W.bind_fn I1.kIn self tI) hus
    (codeAny_mono (F1.run _ X.stack _ _ ⟨Value.ref (hp.objs.size + 1) :: us, []⟩ (Value.ref (hp.objs.size + 1) :: us) _ _ (fun _ _ _ => False) (hr.make C us []) (I2.env0.make C us []) b0 r2 hq) fun r s' hq' => ?_))
  cases r with
  | error er => exact hx pins σ _ _ er s' I2 hq'
  | ok fl =>
    cases fl with
    | ret u =>
      obtain ⟨v, H2, os2, bare2, un2, hok2, rv, ev, q2⟩ := hq'
      subst ev
      have J : Inv X pins σ H2 s' := I2.call' (ch := []) os2 un2 hok2 bare2 (fun b z => absurd z (by simp))
      exact ⟨rv, .ref (hp.objs.size + 1), H2, J, rfl, q2⟩
    | next => exact False.elim hq'
    | brk => exact False.elim hq'
    | cont => exact False.elim hq'
/-- C(), an own class without own __init__ -/
def tMkV0 (C : Addr) : TE := fun _ H Q => ∀ a, H a = none → Q (.ref a) (upd H a (exo a C none))
theorem pe_mkV0 {C : Addr} {x : Str} {bmB : List Value} {B newId initId : String} (F : ExcBaseFacts B newId initId bmB) (q : PySem.W.excIn X.K C bmB newId = true) (gC : X.mg x = some (.ref C)) (kC : PySem.W.keepIn X.K (.ref C) = true) (hg : Gl X x)
    (hdb : (x == ("__debug__" : Str)) = false := by decide) : PE X (.Call (.Name x p) [] [] pos) (tMkV0 C) := by
  refine ⟨fun pins s σ H Q I h => ?_⟩
  refine wpAny_Call_Name_kw (ld_glob I hg gC ?_ hdb)
  refine PySem.W.callWith_K0 I.kIn kC ?_
  obtain ⟨bm, N, nm, qn, bs, hdct, sn, sub, ab, col, dd, k0, k1, k2, k3, k5, mN, hC, hN, hni, T⟩ := exc_obj I.kIn q
  refine wpAny_call_exc_subT F T hC hN hni (fun h' a hm => ?_) (by show 0 ≤ sizeLine; exact Nat.zero_le _)
  have hn : H a = none := I.hok.gone hm.new
  obtain ⟨t, ht, _, _⟩ := hm.there
  exact ⟨.ref a, upd H a (exo a C none), I.laidN hm.keeps hm.new hn (exo_ok ht), rfl, h a hn⟩

/-- e.f, e an exception held as a value -/
def tXat (K : PySem.W.Frag) (f : Str) (te : TE) : TE := fun σ H Q => te σ H fun x H1 => ∃ (a C dx : Addr) (fs : List (Str × V)) (v : V), x = .ref a ∧ H1 a = some (exo a C (some dx)) ∧ H1 dx = some (exd dx fs) ∧ XfC K C ∧ PySem.W.findIn K (.ref C) f = some none ∧ fs.lookup f = some v ∧ Q v H1
theorem pe_xat {n : Str} (he : PE X e te) (hb : attributeBase e n X.env (eval e X.env) = eval e X.env := by rfl) : PE X (.Attribute e n pos) (tXat X.K n te) := by
  refine ⟨fun pins s σ H Q I h => ?_⟩
  refine attr_of hb (thn (he.run pins s σ H _ I h) fun u s1 hh => ?_)
  obtain ⟨x, H1, I1, rx, a, C, dd, fs, v, ex, ea, ed, T, hno, l, q⟩ := hh
  subst ex
  obtain rfl : u = Value.ref a := rx
  obtain ⟨t1, ha⟩ := exo_at I1.hok ea
  obtain ⟨mA, hns, hr⟩ := exd_at I1.hok ed
  obtain ⟨od, ho, hl⟩ := lookIn_ns hns
  obtain ⟨u, hu, ru⟩ := RelO.some_of (v := v) (o := mA n) (by rw [← l]; exact hr n)
  have J : PySem.W.InstAt s1.heap a _ C (some od) := ⟨ha, rfl, rfl, ho⟩
  exact HandSPX.exc_get I1.kIn J T.ga T.gg T.exC (PySem.W.findObj_own T.hdC hno rfl (by rw [hl, hu])) (handed_of ru) ⟨v, H1, I1.tok _, ru, q⟩

/-- isinstance(e, c), e an exception held as a value -/
def rIsX (K : PySem.W.Frag) : List V → Hp → VK → Prop := fun xs H Q => ∃ (c : V) (cv : Value) (b : Bool) (a D : Addr) (d : Option Addr), xs = [.ref a, c] ∧ ClsV c cv ∧ H a = some (exo a D d) ∧ (∀ dx, d = some dx → ∃ fs, H dx = some (exd dx fs)) ∧ ExcC K D ∧ PySem.W.kitOne K (.ref D) cv = some b ∧ Q (.bl b) H
theorem call_isX : CallR X (.builtin "isinstance") (rIsX X.K) := by
  intro pins s σ H xs us Q I r h
  obtain ⟨c, cv, b, a, D, d, rfl, k, ea, hd, T, e, q⟩ := h
  obtain ⟨u1, u2, rfl, r1, r2⟩ := vals2 r
  have e2 := k.eq r2
  subst e2
  obtain rfl : u1 = Value.ref a := r1
  obtain ⟨t1, ha⟩ := exo_at I.hok ea
  have hcl : (PySem.W.clsIn X.K D).isSome = true := by
    obtain ⟨cd, hc, _⟩ := PySem.W.any_some T.hd
    rw [hc]; rfl
  cases d with
  | none =>
    have J : PySem.W.InstAt s.heap a _ D none := ⟨ha, rfl, rfl, trivial⟩
    exact PySem.W.kia_one (PySem.W.kitx_exc hcl T.hg T.hk T.hs T.ha T.hn T.ht T.hm) I.kIn J e (fun z => nomatch z) fun tk => ⟨.bl b, H, I.tok tk, rfl, q⟩
  | some dx =>
    obtain ⟨fs, ed⟩ := hd dx rfl
    obtain ⟨mA, hns, hr⟩ := exd_at I.hok ed
    obtain ⟨od, ho, hl⟩ := lookIn_ns hns
    have J : PySem.W.InstAt s.heap a _ D (some od) := ⟨ha, rfl, rfl, ho⟩
    exact PySem.W.kia_one (PySem.W.kitx_exc hcl T.hg T.hk T.hs T.ha T.hn T.ht T.hm) I.kIn J e (fun z => nomatch z) fun tk => ⟨.bl b, H, I.tok tk, rfl, q⟩
end
end Xv
namespace Xv
open PySem PySem.Spec PyProof.Rows L2 Evl
/-- at a: an exception of the class at C with one field -/
def Er (H : Hp) (a C : Addr) (f : Str) (v : V) : Prop := ∃ dx : Addr, H a = some (exo a C (some dx)) ∧ H dx = some (exd dx [(f, v)])
theorem Er.mono {H H' : Hp} {a C : Addr} {f : Str} {v : V} (e : Ex H H') (h : Er H a C f v) : Er H' a C f v := by
  obtain ⟨dx, h1, h2⟩ := h
  exact ⟨dx, e _ _ h1, e _ _ h2⟩
/-- x is an exception of the class at C -/
def Ek (H : Hp) (x : V) (C : Addr) : Prop := ∃ (a : Addr) (d : Option Addr), x = .ref a ∧ H a = some (exo a C d) ∧ ∀ dx, d = some dx → ∃ fs, H dx = some (exd dx fs)
theorem Er.ek {H : Hp} {a C : Addr} {f : Str} {v : V} (h : Er H a C f v) : Ek H (.ref a) C := by
  obtain ⟨dx, h1, h2⟩ := h
  exact ⟨a, some dx, rfl, h1, fun d e => by cases e; exact ⟨_, h2⟩⟩
theorem Ek.mono {H H' : Hp} {x : V} {C : Addr} (e : Ex H H') (h : Ek H x C) : Ek H' x C := by
  obtain ⟨a, d, h1, h2, h3⟩ := h
  exact ⟨a, d, h1, e _ _ h2, fun dx q => by obtain ⟨fs, z⟩ := h3 dx q; exact ⟨fs, e _ _ z⟩⟩
def spInitX (C : Addr) (f : Str) : Sp := fun vs H Q _ => ∃ (a : Addr) (v : V), vs = [.ref a, v] ∧ H a = some (exo a C none) ∧ ∀ dx, H dx = none → dx ≠ a → Q .non (upd (upd H dx (exd dx [(f, v)])) a (exo a C (some dx)))
theorem i_mk {C : Addr} {f : Str} {v : V} {H : Hp} {R : Addr → Hp → Prop} (q : ∀ a H2, H a = none → Ex H H2 → Er H2 a C f v → R a H2) :
    [v].length ≤ 1000 ∧ ∀ a, H a = none → spInitX C f (.ref a :: [v]) (upd H a (exo a C none)) (fun u H2 => u = .non ∧ R a H2) (fun _ _ _ => False) := by
  refine ⟨by show 1 ≤ 1000; decide, fun a ha => ⟨a, v, rfl, upd_same, fun dx hd ne => ⟨rfl, q a _ ha (fun b o e => ?_) ⟨dx, upd_same, ?_⟩⟩⟩⟩
  · have nb : b ≠ a := ne_of_none e ha
    have nd : b ≠ dx := ne_of_none (H := upd H a (exo a C none)) (by rw [upd_ne nb]; exact e) hd
    rw [upd_ne nb, upd_ne nd, upd_ne nb]
    exact e
  · rw [upd_ne ne, upd_same]
theorem i_mkV {C : Addr} {sp : Sp} {A : TA} {σ : L2.St} {H : Hp} {Q : VK} (q : A σ H fun vs H1 => vs.length ≤ 1000 ∧ ∀ a, H1 a = none → sp (.ref a :: vs) (upd H1 a (exo a C none)) (fun v H2 => v = .non ∧ Q (.ref a) H2) (fun _ _ _ => False)) : tMkV C sp A σ H Q := q
theorem i_mkV0 {C : Addr} {σ : L2.St} {H : Hp} {Q : VK} (q : ∀ a H2, H a = none → Ex H H2 → Ek H2 (.ref a) C → Q (.ref a) H2) : tMkV0 C σ H Q := fun a ha => q a _ ha (Ex.new ha) ⟨a, none, rfl, upd_same, fun _ e => nomatch e⟩
theorem i_xat {K : PySem.W.Frag} {f : Str} {te : TE} {σ : L2.St} {H : Hp} {Q : VK} (q : te σ H fun x H1 => ∃ (a C dx : Addr) (fs : List (Str × V)) (v : V), x = .ref a ∧ H1 a = some (exo a C (some dx)) ∧ H1 dx = some (exd dx fs) ∧ XfC K C ∧ PySem.W.findIn K (.ref C) f = some none ∧ fs.lookup f = some v ∧ Q v H1) : tXat K f te σ H Q := q
/-- what the written part says of an own exception class that keeps one field -/
structure XC (K : PySem.W.Frag) (C fI : Addr) (f : Str) : Prop where
  oex : OexC K C
  xf : XfC K C
  no : PySem.W.findIn K (.ref C) f = some none
  iC : PySem.W.findIn K (.ref C) "__init__" = some (some (.ref fI))
  tI : PySem.W.typeIn K (.ref fI) = some (.type "function")
theorem i_er {K : PySem.W.Frag} {C fI a : Addr} {f : Str} {v : V} {H : Hp} {R : V → Prop} (T : XC K C fI f) (r : Er H a C f v) (q : R v) : ∃ (a' C' dx : Addr) (fs : List (Str × V)) (v' : V), V.ref a = .ref a' ∧ H a' = some (exo a' C' (some dx)) ∧ H dx = some (exd dx fs) ∧ XfC K C' ∧ PySem.W.findIn K (.ref C') f = some none ∧ fs.lookup f = some v' ∧ R v' := by
  obtain ⟨dx, h1, h2⟩ := r
  exact ⟨a, C, dx, _, v, rfl, h1, h2, T.xf, T.no, by simp [List.lookup], q⟩
theorem ev_er {K : PySem.W.Frag} {C fI a : Addr} {f : Str} {v : V} {H : Hp} {te : TE} {σ : L2.St} (T : XC K C fI f) (h : Ev te σ H (.ref a)) (r : Er H a C f v) : Ev (tXat K f te) σ H v := fun H1 e Q q =>
  h H1 e _ fun H2 e2 => i_er T (r.mono (e.trans e2)) (q H2 e2)
theorem i_isX {K : PySem.W.Frag} {C D : Addr} {x : V} {b : Bool} {H : Hp} {Q : VK} (T : ExcC K D) (r : Ek H x D) (k : PySem.W.kitOne K (.ref D) (.ref C) = some b) (q : Q (.bl b) H) : rIsX K [x, .ref C] H Q := by
  obtain ⟨a, d, rfl, h1, h2⟩ := r
  exact ⟨.ref C, .ref C, b, a, D, d, rfl, .own C, h1, h2, T, k, q⟩
mutual
theorem dp_mono {K : PySem.W.Frag} {H H' : Hp} (e : Ex H H') : ∀ {v : V} {d : PyData}, Dp K H v d → Dp K H' v d
  | _, _, .non => .non
  | _, _, .bl b => .bl b
  | _, _, .int i => .int i
  | _, _, .str x => .str x
  | _, _, .lst h a => .lst (ex_l e h) (dpAll_mono e a)
  | _, _, .tup h a => .tup (ex_t e h) (dpAll_mono e a)
theorem dpAll_mono {K : PySem.W.Frag} {H H' : Hp} (e : Ex H H') : ∀ {vs : List V} {ds : List PyData}, DpAll K H vs ds → DpAll K H' vs ds
  | _, _, .nil => .nil
  | _, _, .cons a b => .cons (dp_mono e a) (dpAll_mono e b)
end
theorem dp_bools {K : PySem.W.Frag} {H : Hp} : ∀ bs : List Bool, DpAll K H (bs.map V.bl) (bs.map PyData.bool)
  | [] => .nil
  | b :: r => .cons (.bl b) (dp_bools r)
theorem dp_ints {K : PySem.W.Frag} {H : Hp} : ∀ bs : List Int, DpAll K H (bs.map V.int) (bs.map PyData.int)
  | [] => .nil
  | b :: r => .cons (.int b) (dp_ints r)
end Xv
namespace Xv
open PySem PySem.Spec PyProof.Rows L2 Evl
theorem et_yes {σ : L2.St} {H : Hp} : EvT tYes σ H true := fun H1 _ _ q => q H1 (Ex.refl H1)
theorem i_eqSame {K : PySem.W.Frag} {x y : V} {d : PyData} {H : Hp} {Q : VK} (h1 : Dp K H x d) (h2 : Dp K H y d) (s : SeqAt.shaped d = true) (q : Q (.bl true) H) : rEqD K x y H Q :=
  ⟨d, d, h1, h2, s, s, by rw [SeqAt.eqv_refl d (SeqAt.canLay_of_shaped s)]; exact q⟩
theorem i_neSame {K : PySem.W.Frag} {x y : V} {d : PyData} {H : Hp} {Q : VK} (h1 : Dp K H x d) (h2 : Dp K H y d) (s : SeqAt.shaped d = true) (q : Q (.bl false) H) : rNeD K x y H Q :=
  ⟨d, d, h1, h2, s, s, by rw [SeqAt.eqv_refl d (SeqAt.canLay_of_shaped s)]; exact q⟩
end Xv
namespace Xv
open PySem PySem.Spec PyProof.Rows L2 Evl
theorem i_isXty {K : PySem.W.Frag} {D : Addr} {x : V} {n : String} {b : Bool} {H : Hp} {Q : VK} (T : ExcC K D) (r : Ek H x D) (k : PySem.W.kitOne K (.ref D) (.type n) = some b) (q : Q (.bl b) H) : rIsX K [x, .ty n] H Q := by
  obtain ⟨a, d, rfl, h1, h2⟩ := r
  exact ⟨.ty n, .type n, b, a, D, d, rfl, .ty n, h1, h2, T, k, q⟩
/-- all but p stands as it stood -/
def But (p : Addr) (H H' : Hp) : Prop := ∀ b, b ≠ p → H' b = H b
theorem But.upd {p : Addr} {H : Hp} {o : HO} : But p H (upd H p o) := fun _ hb => upd_ne hb
theorem But.ex {p : Addr} {H0 H H' : Hp} (b : But p H H') (e : Ex H0 H) (n : H0 p = none) : Ex H0 H' := fun a o h => by rw [b a (ne_of_none h n)]; exact e a o h
theorem But.at {p a : Addr} {H H' : Hp} {o : HO} (b : But p H H') (h : H a = some o) (n : a ≠ p) : H' a = some o := by rw [b a n]; exact h
end Xv

namespace K71
open PySem L2
local macro_rules | `(tactic| walk_at "rd1") => `(tactic| first
  | (with_reducible refine Rd.i_seq ?_) | (with_reducible refine Rd.i_asg ?_) | (with_reducible refine Rd.i_name ?_) | (with_reducible refine Rd.i_nx ?_) | (with_reducible refine Rd.i_rt ?_) | (with_reducible refine Rd.i_next ?_) | (with_reducible refine Rd.i_ct ?_) | (with_reducible refine Rd.i_bk ?_)
  | (with_reducible refine Rd.i_ret ?_) | (with_reducible refine Rd.i_drop ?_) | (with_reducible refine Rd.i_ifS ?_) | (with_reducible refine Rd.i_sub ?_)
  | (with_reducible refine Rd.i_var (by with_unfolding_all exact rfl) ?_) | (with_reducible refine Rd.i_c ?_) | (with_reducible refine Rd.i_op ?_) | (with_reducible refine Rd.i_un ?_)
  | (with_reducible refine Rd.i_rI0 ?_) | (with_reducible refine Rd.i_rI (by with_unfolding_all first | omega | exact Rd.mulL (by omega) (by omega) | exact Rd.mulR (by omega) (by omega) | decide | (refine ⟨?_, ?_⟩ <;> omega) | (refine ⟨?_, ?_, ?_⟩ <;> omega)) ?_)
  | (with_reducible refine Rd.i_rEq (by with_unfolding_all exact rfl) ?_) | (with_reducible refine Rd.i_rNe (by with_unfolding_all exact rfl) ?_)
  | (with_reducible refine Rd.i_test ?_) | (with_reducible refine Rd.i_tB ?_) | (with_reducible refine Rd.i_bl ?_) | (with_reducible refine Rd.i_and ?_) | (with_reducible refine Rd.i_or ?_) | (with_reducible refine Rd.i_not ?_) | (with_reducible refine Rd.i_notV ?_) | (with_reducible refine Rd.i_andV ?_) | (with_reducible refine Rd.i_orV ?_) | (with_reducible refine Rd.i_if ?_) | (with_reducible refine Rd.i_chain ?_)
  | (with_reducible refine Rd.i_call ?_) | (with_reducible refine Rd.i_nil ?_) | (with_reducible refine Rd.i_cons ?_) | (with_reducible refine Rd.i_cb ?_) | (with_reducible refine Rd.i_bm ?_) | (with_reducible refine Rd.i_bm0 ?_) | (with_reducible refine Rd.i_tup ?_) | (with_reducible refine Rd.i_lst ?_)
  | (with_reducible refine Rd.i_int1 ?_) | (with_reducible refine Rd.i_intb ?_) | (with_reducible refine Rd.i_max ?_)
  | (with_reducible refine Rd.i_ixL (SqL.of (by first | assumption | exact upd_same)) (by with_unfolding_all first | exact rfl | exact atI_nat rfl) ?_) | (with_reducible refine Rd.i_ixT (SqT.of (by first | assumption | exact upd_same)) (by with_unfolding_all exact rfl) ?_)
  | (with_reducible refine Rd.i_setL (by first | assumption | exact upd_same) (by with_unfolding_all exact rfl) ?_)
  | (with_reducible refine Xv.i_mkV ?_) | (with_reducible refine Xv.i_xat ?_)
  | (with_reducible refine Rd.i_gtup (SqT.of (by assumption)) (by with_unfolding_all exact rfl) ?_) | (with_reducible refine Rd.i_gcons ?_) | (with_reducible refine Rd.i_gnil ?_))
local macro_rules | `(tactic| walk_at "rd") => `(tactic| repeat walk_at "rd1")
def topS (i : Nat) : Stmt := PySem.Challenge.pw_splitalike_k71_errors_stand_apart.main.body.getD i (.Pass ⟨0, 0, 0, 0⟩)
abbrev s_law_state : Stmt := topS 17
theorem sc_law_state : FnScope ["_law_cell_here"] ["_law_cell_here"] (defScope s_law_state) := ⟨rfl, rfl, rfl, by decide +kernel, rfl, by decide +kernel, by decide +kernel⟩
abbrev s_law_draw : Stmt := topS 18
theorem sc_law_draw : FnScope ["_law_state_here", "_law_many", "_law_drawn", "_law_mixed"] ["_law_state_here", "_law_many"] (defScope s_law_draw) := ⟨rfl, rfl, rfl, by decide +kernel, rfl, by decide +kernel, by decide +kernel⟩
abbrev s_law_cell : Stmt := topS 20
theorem sc_law_cell : FnScope ["_law_script", "_law_at"] ["_law_script", "_law_at"] (defScope s_law_cell) := ⟨rfl, rfl, rfl, by decide +kernel, rfl, by decide +kernel, by decide +kernel⟩
abbrev s_law_numbered : Stmt := topS 21
theorem sc_law_numbered : FnScope ["_law_thing", "_law_errors", "_law_e", "_law_k"] ["_law_thing"] (defScope s_law_numbered) := ⟨rfl, rfl, rfl, by decide +kernel, rfl, by decide +kernel, by decide +kernel⟩
abbrev s_law_others : Stmt := topS 22
theorem sc_law_others : FnScope ["_law_thing", "_law_many", "_law_count", "_law_name", "_law_text", "_law_cell_here", "_law_place", "_law_bound", "_law_rule", "_law_told", "_law_k"] ["_law_thing"] (defScope s_law_others) := ⟨rfl, rfl, rfl, by decide +kernel, rfl, by decide +kernel, by decide +kernel⟩
abbrev s_law_kinds : Stmt := topS 23
theorem sc_law_kinds : FnScope ["_law_e", "_law_found"] ["_law_e"] (defScope s_law_kinds) := ⟨rfl, rfl, rfl, by decide +kernel, rfl, by decide +kernel, by decide +kernel⟩
abbrev s_law : Stmt := topS 24
theorem sc_law : FnScope ["_law_script", "_law_at", "_law_state_here", "_law_number", "_law_thing", "_law_first", "_law_right", "_law_second", "_law_fits", "_law_errors", "_law_k", "_law_j"] ["_law_script"] (defScope s_law) := ⟨rfl, rfl, rfl, by decide +kernel, rfl, by decide +kernel, by decide +kernel⟩

structure Blt (mg : Str → Option Value) : Prop where
  z_int : mg "int" = none
  z_len : mg "len" = none
  z_max : mg "max" = none
  z_min : mg "min" = none
  z_range : mg "range" = none
  z_isinstance : mg "isinstance" = none
section
variable {P : Program} {w : World} {K : PySem.W.Frag} {mg : Str → Option Value} {base : Heap}
/-- the state of the draws: three ints, the third counts the draws -/
def StAt (H : Hp) (p : Addr) (z : Int) : Prop := ∃ x y : Int, H p = some (.lst [.int x, .int y, .int z])
def spState : Sp := fun vs H Q _ => ∃ c : Int, vs = [.int c] ∧ ∀ p x y, H p = none → Q (.ref p) (upd H p (.lst [.int x, .int y, .int 0]))
theorem ok0_law_state {f : Addr} {fd : FuncData} (F : Fun K "_law_state" "_law_state" s_law_state f fd) (T : Blt mg) : FnOk P w K mg base CX0 1 f fd ["_law_cell_here"] spState := by
  refine F.ok sc_law_state (fun vs H Q E h => ?_) (fun cdv A outer s H vs Q E hr h => ?_)
  · obtain ⟨c, rfl, _⟩ := h
    rfl
  · obtain ⟨c, rfl, k⟩ := h
    refine ⟨_, (pss_one (ps_ret (pe_lst (pa_cons (pe_callTy call_int1 (by rfl) T.z_int (by decide +kernel) (pa_cons (pv 0) pa_nil)) (pa_cons (pe_callTy call_int1 (by rfl) T.z_int (by decide +kernel) (pa_cons (pe_cmpR op_ge (pv 0) (pe_op op_pow pe_int pe_int) (nomark _)) pa_nil)) (pa_cons pe_int pa_nil)))))), ?_⟩
    walk_at "rd"
    refine ⟨by show 3 ≤ sizeLine; decide, fun p hp => ?_⟩
    walk_at "rd"
    exact k p _ _ hp
def spDraw : Sp := fun vs H Q _ => ∃ (p : Addr) (m x y z : Int), vs = [.ref p, .int m] ∧ H p = some (.lst [.int x, .int y, .int z]) ∧ 0 ≤ z ∧ z < 1000 ∧ 0 < m ∧ m < 1073741824 ∧ ∀ r x', 0 ≤ r → r < m → Q (.int r) (upd H p (.lst [.int x', .int y, .int (z + 1)]))
theorem ok0_law_draw {f : Addr} {fd : FuncData} (F : Fun K "_law_draw" "_law_draw" s_law_draw f fd) (T : Blt mg) : FnOk P w K mg base CX0 1 f fd ["_law_state_here", "_law_many"] spDraw := by
  refine F.ok sc_law_draw (fun vs H Q E h => ?_) (fun cdv A outer s H vs Q E hr h => ?_)
  · obtain ⟨p, m, x, y, z, rfl, _⟩ := h
    rfl
  · obtain ⟨p, m, x, y, z, rfl, hp, z0, z1, m0, m1, k⟩ := h
    refine ⟨_, (pss_cons (ps_asg (pe_op op_add (pe_ix ix_list (pv 0) pe_int (fun _ _ => rfl)) pe_int) (pg_sub (pv 0) pe_int set_list))
      (pss_cons (ps_if (pt_cmpR op_eq (pe_ix ix_list (pv 0) pe_int (fun _ _ => rfl)) pe_int (nomark _))
        (pss_cons (ps_set (i := 2) sc_law_draw.nd rfl (Or.inl rfl) (pe_op op_modN (pe_callTy call_int1 (by rfl) T.z_int (by decide +kernel) (pa_cons (pe_ix ix_list (pv 0) pe_int (fun _ _ => rfl)) pa_nil)) (pv 1)))
        (pss_cons (ps_asg (pe_op op_fdivN (pe_ix ix_list (pv 0) pe_int (fun _ _ => rfl)) (pv 1)) (pg_sub (pv 0) pe_int set_list))
        (pss_one (ps_ret (pv 2)))))
        pss_nil)
      (pss_cons (ps_set (i := 3) sc_law_draw.nd rfl (Or.inl rfl) (pe_op op_pow (pe_callTy call_int1 (by rfl) T.z_int (by decide +kernel) (pa_cons (pe_op op_add (pe_op op_add (pe_op op_modN (pe_callTy call_int1 (by rfl) T.z_int (by decide +kernel) (pa_cons (pe_ix ix_list (pv 0) pe_int (fun _ _ => rfl)) pa_nil)) pe_int) (pe_op op_mul (pe_ix ix_list (pv 0) pe_int (fun _ _ => rfl)) pe_int)) pe_int) pa_nil)) pe_int))
      (pss_one (ps_ret (pe_op op_modN (pe_callTy call_int1 (by rfl) T.z_int (by decide +kernel) (pa_cons (pe_op op_fdivN (pe_op op_modN (pe_callTy call_int1 (by rfl) T.z_int (by decide +kernel) (pa_cons (pv 3) pa_nil)) pe_int) pe_int) pa_nil)) (pv 1))))))), ?_⟩
    walk_at "rd"
    have f1 : 0 ≤ x.fmod 2147483647 := Int.fmod_nonneg_of_pos x (by decide)
    have f2 : x.fmod 2147483647 < 2147483647 := Int.fmod_lt_of_pos x (by decide)
    refine Rd.ite_vi (fun e => ?_) (fun e => ?_)
    · walk_at "rd"
      rw [upd_upd]
      exact k _ _ (Int.fmod_nonneg_of_pos _ m0) (Int.fmod_lt_of_pos _ m0)
    · walk_at "rd"
      exact k _ _ (Int.fmod_nonneg_of_pos _ m0) (Int.fmod_lt_of_pos _ m0)
def spCell (K : PySem.W.Frag) : Sp := fun vs H Q _ => ∃ (a : Addr) (ns : List Int) (i : Nat), vs = [.ref a, .int i] ∧ SqL K H a (ns.map V.int) ∧ ∀ r, Q (.int r) H
theorem ok0_law_cell {f : Addr} {fd : FuncData} (F : Fun K "_law_cell" "_law_cell" s_law_cell f fd) (T : Blt mg) : FnOk P w K mg base CX0 1 f fd ["_law_script", "_law_at"] (spCell K) := by
  refine F.ok sc_law_cell (fun vs H Q E h => ?_) (fun cdv A outer s H vs Q E hr h => ?_)
  · obtain ⟨a, ns, i, rfl, _⟩ := h
    rfl
  · obtain ⟨a, ns, i, rfl, hs, k⟩ := h
    refine ⟨_, (pss_cons (ps_if (pt_cmpR op_lt (pv 1) (pe_callB call_len_seq (by rfl) T.z_len (by decide +kernel) (pa_cons (pv 0) pa_nil)) (nomark _))
        (pss_one (ps_ret (pe_ix ix_list (pv 0) (pv 1) (fun _ _ => rfl))))
        pss_nil)
      (pss_one (ps_ret (pe_op op_add pe_int (pv 1))))), ?_⟩
    walk_at "rd"
    refine Rd.i_len hs ?_
    walk_at "rd"
    refine Rd.ite_d (fun h => ?_) (fun h => ?_)
    · walk_at "rd"
      have hi : i < ns.length := by rw [List.length_map] at h; omega
      refine Rd.i_ixL hs (atI_nat (v := V.int (ns[i]'hi)) (by rw [List.getElem?_map, List.getElem?_eq_getElem hi]; rfl)) ?_
      walk_at "rd"
      exact k _
    · walk_at "rd"
      exact k _
abbrev s_BadReader___init : Stmt := inClass (topS 2) 0
theorem sc_BadReader___init : FnScope ["self", "number"] ["self", "number"] (defScope s_BadReader___init) := ⟨rfl, rfl, rfl, by decide +kernel, rfl, by decide +kernel, by decide +kernel⟩

theorem ok_BadReader___init {C fi : Addr} {fd : FuncData} (F : Fun K "__init__" "BadReader.__init__" s_BadReader___init fi fd) (X : Xv.XC K C fi "number") : FnOk P w K mg base CX0 1 fi fd ["self", "number"] (Xv.spInitX C "number") := by
  refine F.ok sc_BadReader___init (fun vs H Q E h => ?_) (fun cdv A outer s H vs Q E hr h => ?_)
  · obtain ⟨a, v, rfl, _⟩ := h
    rfl
  · obtain ⟨a, v, rfl, ha, k⟩ := h
    refine ⟨_, pss_one (ps_ost (pv 0) (pv 1)), ?_⟩
    exact ⟨v, rfl, .ref a, rfl, a, C, rfl, X.oex, X.no, .inl ⟨ha, k⟩⟩

abbrev s_BadRing___init : Stmt := inClass (topS 3) 0
theorem sc_BadRing___init : FnScope ["self", "number"] ["self", "number"] (defScope s_BadRing___init) := ⟨rfl, rfl, rfl, by decide +kernel, rfl, by decide +kernel, by decide +kernel⟩

theorem ok_BadRing___init {C fi : Addr} {fd : FuncData} (F : Fun K "__init__" "BadRing.__init__" s_BadRing___init fi fd) (X : Xv.XC K C fi "number") : FnOk P w K mg base CX0 1 fi fd ["self", "number"] (Xv.spInitX C "number") := by
  refine F.ok sc_BadRing___init (fun vs H Q E h => ?_) (fun cdv A outer s H vs Q E hr h => ?_)
  · obtain ⟨a, v, rfl, _⟩ := h
    rfl
  · obtain ⟨a, v, rfl, ha, k⟩ := h
    refine ⟨_, pss_one (ps_ost (pv 0) (pv 1)), ?_⟩
    exact ⟨v, rfl, .ref a, rfl, a, C, rfl, X.oex, X.no, .inl ⟨ha, k⟩⟩

abbrev s_BadBegin___init : Stmt := inClass (topS 4) 0
theorem sc_BadBegin___init : FnScope ["self", "number"] ["self", "number"] (defScope s_BadBegin___init) := ⟨rfl, rfl, rfl, by decide +kernel, rfl, by decide +kernel, by decide +kernel⟩

theorem ok_BadBegin___init {C fi : Addr} {fd : FuncData} (F : Fun K "__init__" "BadBegin.__init__" s_BadBegin___init fi fd) (X : Xv.XC K C fi "number") : FnOk P w K mg base CX0 1 fi fd ["self", "number"] (Xv.spInitX C "number") := by
  refine F.ok sc_BadBegin___init (fun vs H Q E h => ?_) (fun cdv A outer s H vs Q E hr h => ?_)
  · obtain ⟨a, v, rfl, _⟩ := h
    rfl
  · obtain ⟨a, v, rfl, ha, k⟩ := h
    refine ⟨_, pss_one (ps_ost (pv 0) (pv 1)), ?_⟩
    exact ⟨v, rfl, .ref a, rfl, a, C, rfl, X.oex, X.no, .inl ⟨ha, k⟩⟩

abbrev s_NoReader___init : Stmt := inClass (topS 12) 0
theorem sc_NoReader___init : FnScope ["self", "number"] ["self", "number"] (defScope s_NoReader___init) := ⟨rfl, rfl, rfl, by decide +kernel, rfl, by decide +kernel, by decide +kernel⟩

theorem ok_NoReader___init {C fi : Addr} {fd : FuncData} (F : Fun K "__init__" "NoReader.__init__" s_NoReader___init fi fd) (X : Xv.XC K C fi "number") : FnOk P w K mg base CX0 1 fi fd ["self", "number"] (Xv.spInitX C "number") := by
  refine F.ok sc_NoReader___init (fun vs H Q E h => ?_) (fun cdv A outer s H vs Q E hr h => ?_)
  · obtain ⟨a, v, rfl, _⟩ := h
    rfl
  · obtain ⟨a, v, rfl, ha, k⟩ := h
    refine ⟨_, pss_one (ps_ost (pv 0) (pv 1)), ?_⟩
    exact ⟨v, rfl, .ref a, rfl, a, C, rfl, X.oex, X.no, .inl ⟨ha, k⟩⟩

abbrev s_TooMany___init : Stmt := inClass (topS 5) 0
theorem sc_TooMany___init : FnScope ["self", "count"] ["self", "count"] (defScope s_TooMany___init) := ⟨rfl, rfl, rfl, by decide +kernel, rfl, by decide +kernel, by decide +kernel⟩

theorem ok_TooMany___init {C fi : Addr} {fd : FuncData} (F : Fun K "__init__" "TooMany.__init__" s_TooMany___init fi fd) (X : Xv.XC K C fi "count") : FnOk P w K mg base CX0 1 fi fd ["self", "count"] (Xv.spInitX C "count") := by
  refine F.ok sc_TooMany___init (fun vs H Q E h => ?_) (fun cdv A outer s H vs Q E hr h => ?_)
  · obtain ⟨a, v, rfl, _⟩ := h
    rfl
  · obtain ⟨a, v, rfl, ha, k⟩ := h
    refine ⟨_, pss_one (ps_ost (pv 0) (pv 1)), ?_⟩
    exact ⟨v, rfl, .ref a, rfl, a, C, rfl, X.oex, X.no, .inl ⟨ha, k⟩⟩

abbrev s_BadCount___init : Stmt := inClass (topS 10) 0
theorem sc_BadCount___init : FnScope ["self", "count"] ["self", "count"] (defScope s_BadCount___init) := ⟨rfl, rfl, rfl, by decide +kernel, rfl, by decide +kernel, by decide +kernel⟩

theorem ok_BadCount___init {C fi : Addr} {fd : FuncData} (F : Fun K "__init__" "BadCount.__init__" s_BadCount___init fi fd) (X : Xv.XC K C fi "count") : FnOk P w K mg base CX0 1 fi fd ["self", "count"] (Xv.spInitX C "count") := by
  refine F.ok sc_BadCount___init (fun vs H Q E h => ?_) (fun cdv A outer s H vs Q E hr h => ?_)
  · obtain ⟨a, v, rfl, _⟩ := h
    rfl
  · obtain ⟨a, v, rfl, ha, k⟩ := h
    refine ⟨_, pss_one (ps_ost (pv 0) (pv 1)), ?_⟩
    exact ⟨v, rfl, .ref a, rfl, a, C, rfl, X.oex, X.no, .inl ⟨ha, k⟩⟩

abbrev s_NoLine___init : Stmt := inClass (topS 7) 0
theorem sc_NoLine___init : FnScope ["self", "name"] ["self", "name"] (defScope s_NoLine___init) := ⟨rfl, rfl, rfl, by decide +kernel, rfl, by decide +kernel, by decide +kernel⟩

theorem ok_NoLine___init {C fi : Addr} {fd : FuncData} (F : Fun K "__init__" "NoLine.__init__" s_NoLine___init fi fd) (X : Xv.XC K C fi "name") : FnOk P w K mg base CX0 1 fi fd ["self", "name"] (Xv.spInitX C "name") := by
  refine F.ok sc_NoLine___init (fun vs H Q E h => ?_) (fun cdv A outer s H vs Q E hr h => ?_)
  · obtain ⟨a, v, rfl, _⟩ := h
    rfl
  · obtain ⟨a, v, rfl, ha, k⟩ := h
    refine ⟨_, pss_one (ps_ost (pv 0) (pv 1)), ?_⟩
    exact ⟨v, rfl, .ref a, rfl, a, C, rfl, X.oex, X.no, .inl ⟨ha, k⟩⟩

abbrev s_BadText___init : Stmt := inClass (topS 8) 0
theorem sc_BadText___init : FnScope ["self", "line"] ["self", "line"] (defScope s_BadText___init) := ⟨rfl, rfl, rfl, by decide +kernel, rfl, by decide +kernel, by decide +kernel⟩

theorem ok_BadText___init {C fi : Addr} {fd : FuncData} (F : Fun K "__init__" "BadText.__init__" s_BadText___init fi fd) (X : Xv.XC K C fi "line") : FnOk P w K mg base CX0 1 fi fd ["self", "line"] (Xv.spInitX C "line") := by
  refine F.ok sc_BadText___init (fun vs H Q E h => ?_) (fun cdv A outer s H vs Q E hr h => ?_)
  · obtain ⟨a, v, rfl, _⟩ := h
    rfl
  · obtain ⟨a, v, rfl, ha, k⟩ := h
    refine ⟨_, pss_one (ps_ost (pv 0) (pv 1)), ?_⟩
    exact ⟨v, rfl, .ref a, rfl, a, C, rfl, X.oex, X.no, .inl ⟨ha, k⟩⟩

abbrev s_BadCell___init : Stmt := inClass (topS 9) 0
theorem sc_BadCell___init : FnScope ["self", "cell"] ["self", "cell"] (defScope s_BadCell___init) := ⟨rfl, rfl, rfl, by decide +kernel, rfl, by decide +kernel, by decide +kernel⟩

theorem ok_BadCell___init {C fi : Addr} {fd : FuncData} (F : Fun K "__init__" "BadCell.__init__" s_BadCell___init fi fd) (X : Xv.XC K C fi "cell") : FnOk P w K mg base CX0 1 fi fd ["self", "cell"] (Xv.spInitX C "cell") := by
  refine F.ok sc_BadCell___init (fun vs H Q E h => ?_) (fun cdv A outer s H vs Q E hr h => ?_)
  · obtain ⟨a, v, rfl, _⟩ := h
    rfl
  · obtain ⟨a, v, rfl, ha, k⟩ := h
    refine ⟨_, pss_one (ps_ost (pv 0) (pv 1)), ?_⟩
    exact ⟨v, rfl, .ref a, rfl, a, C, rfl, X.oex, X.no, .inl ⟨ha, k⟩⟩

abbrev s_NoCell___init : Stmt := inClass (topS 11) 0
theorem sc_NoCell___init : FnScope ["self", "place"] ["self", "place"] (defScope s_NoCell___init) := ⟨rfl, rfl, rfl, by decide +kernel, rfl, by decide +kernel, by decide +kernel⟩

theorem ok_NoCell___init {C fi : Addr} {fd : FuncData} (F : Fun K "__init__" "NoCell.__init__" s_NoCell___init fi fd) (X : Xv.XC K C fi "place") : FnOk P w K mg base CX0 1 fi fd ["self", "place"] (Xv.spInitX C "place") := by
  refine F.ok sc_NoCell___init (fun vs H Q E h => ?_) (fun cdv A outer s H vs Q E hr h => ?_)
  · obtain ⟨a, v, rfl, _⟩ := h
    rfl
  · obtain ⟨a, v, rfl, ha, k⟩ := h
    refine ⟨_, pss_one (ps_ost (pv 0) (pv 1)), ?_⟩
    exact ⟨v, rfl, .ref a, rfl, a, C, rfl, X.oex, X.no, .inl ⟨ha, k⟩⟩

abbrev s_BadBound___init : Stmt := inClass (topS 14) 0
theorem sc_BadBound___init : FnScope ["self", "bound"] ["self", "bound"] (defScope s_BadBound___init) := ⟨rfl, rfl, rfl, by decide +kernel, rfl, by decide +kernel, by decide +kernel⟩

theorem ok_BadBound___init {C fi : Addr} {fd : FuncData} (F : Fun K "__init__" "BadBound.__init__" s_BadBound___init fi fd) (X : Xv.XC K C fi "bound") : FnOk P w K mg base CX0 1 fi fd ["self", "bound"] (Xv.spInitX C "bound") := by
  refine F.ok sc_BadBound___init (fun vs H Q E h => ?_) (fun cdv A outer s H vs Q E hr h => ?_)
  · obtain ⟨a, v, rfl, _⟩ := h
    rfl
  · obtain ⟨a, v, rfl, ha, k⟩ := h
    refine ⟨_, pss_one (ps_ost (pv 0) (pv 1)), ?_⟩
    exact ⟨v, rfl, .ref a, rfl, a, C, rfl, X.oex, X.no, .inl ⟨ha, k⟩⟩

abbrev s_NoRule___init : Stmt := inClass (topS 15) 0
theorem sc_NoRule___init : FnScope ["self", "rule"] ["self", "rule"] (defScope s_NoRule___init) := ⟨rfl, rfl, rfl, by decide +kernel, rfl, by decide +kernel, by decide +kernel⟩

theorem ok_NoRule___init {C fi : Addr} {fd : FuncData} (F : Fun K "__init__" "NoRule.__init__" s_NoRule___init fi fd) (X : Xv.XC K C fi "rule") : FnOk P w K mg base CX0 1 fi fd ["self", "rule"] (Xv.spInitX C "rule") := by
  refine F.ok sc_NoRule___init (fun vs H Q E h => ?_) (fun cdv A outer s H vs Q E hr h => ?_)
  · obtain ⟨a, v, rfl, _⟩ := h
    rfl
  · obtain ⟨a, v, rfl, ha, k⟩ := h
    refine ⟨_, pss_one (ps_ost (pv 0) (pv 1)), ?_⟩
    exact ⟨v, rfl, .ref a, rfl, a, C, rfl, X.oex, X.no, .inl ⟨ha, k⟩⟩

end
abbrev BM : List Value := [.type "ValueError", .type "Exception", .type "BaseException", .type "object"]
structure Txt (K : PySem.W.Frag) (mg : Str → Option Value) extends Blt mg where
  c_BadReader : Addr
  i_BadReader : Addr
  d_BadReader : FuncData
  F_BadReader : Fun K "__init__" "BadReader.__init__" s_BadReader___init i_BadReader d_BadReader
  b_BadReader : Binds K d_BadReader ["self", "number"] []
  x_BadReader : Xv.XC K c_BadReader i_BadReader "number"
  e_BadReader : ExcC K c_BadReader
  m_BadReader : mg "BadReader" = some (.ref c_BadReader)
  c_BadRing : Addr
  i_BadRing : Addr
  d_BadRing : FuncData
  F_BadRing : Fun K "__init__" "BadRing.__init__" s_BadRing___init i_BadRing d_BadRing
  b_BadRing : Binds K d_BadRing ["self", "number"] []
  x_BadRing : Xv.XC K c_BadRing i_BadRing "number"
  e_BadRing : ExcC K c_BadRing
  m_BadRing : mg "BadRing" = some (.ref c_BadRing)
  c_BadBegin : Addr
  i_BadBegin : Addr
  d_BadBegin : FuncData
  F_BadBegin : Fun K "__init__" "BadBegin.__init__" s_BadBegin___init i_BadBegin d_BadBegin
  b_BadBegin : Binds K d_BadBegin ["self", "number"] []
  x_BadBegin : Xv.XC K c_BadBegin i_BadBegin "number"
  e_BadBegin : ExcC K c_BadBegin
  m_BadBegin : mg "BadBegin" = some (.ref c_BadBegin)
  c_NoReader : Addr
  i_NoReader : Addr
  d_NoReader : FuncData
  F_NoReader : Fun K "__init__" "NoReader.__init__" s_NoReader___init i_NoReader d_NoReader
  b_NoReader : Binds K d_NoReader ["self", "number"] []
  x_NoReader : Xv.XC K c_NoReader i_NoReader "number"
  e_NoReader : ExcC K c_NoReader
  m_NoReader : mg "NoReader" = some (.ref c_NoReader)
  c_TooMany : Addr
  i_TooMany : Addr
  d_TooMany : FuncData
  F_TooMany : Fun K "__init__" "TooMany.__init__" s_TooMany___init i_TooMany d_TooMany
  b_TooMany : Binds K d_TooMany ["self", "count"] []
  x_TooMany : Xv.XC K c_TooMany i_TooMany "count"
  e_TooMany : ExcC K c_TooMany
  m_TooMany : mg "TooMany" = some (.ref c_TooMany)
  c_BadCount : Addr
  i_BadCount : Addr
  d_BadCount : FuncData
  F_BadCount : Fun K "__init__" "BadCount.__init__" s_BadCount___init i_BadCount d_BadCount
  b_BadCount : Binds K d_BadCount ["self", "count"] []
  x_BadCount : Xv.XC K c_BadCount i_BadCount "count"
  e_BadCount : ExcC K c_BadCount
  m_BadCount : mg "BadCount" = some (.ref c_BadCount)
  c_NoLine : Addr
  i_NoLine : Addr
  d_NoLine : FuncData
  F_NoLine : Fun K "__init__" "NoLine.__init__" s_NoLine___init i_NoLine d_NoLine
  b_NoLine : Binds K d_NoLine ["self", "name"] []
  x_NoLine : Xv.XC K c_NoLine i_NoLine "name"
  e_NoLine : ExcC K c_NoLine
  m_NoLine : mg "NoLine" = some (.ref c_NoLine)
  c_BadText : Addr
  i_BadText : Addr
  d_BadText : FuncData
  F_BadText : Fun K "__init__" "BadText.__init__" s_BadText___init i_BadText d_BadText
  b_BadText : Binds K d_BadText ["self", "line"] []
  x_BadText : Xv.XC K c_BadText i_BadText "line"
  e_BadText : ExcC K c_BadText
  m_BadText : mg "BadText" = some (.ref c_BadText)
  c_BadCell : Addr
  i_BadCell : Addr
  d_BadCell : FuncData
  F_BadCell : Fun K "__init__" "BadCell.__init__" s_BadCell___init i_BadCell d_BadCell
  b_BadCell : Binds K d_BadCell ["self", "cell"] []
  x_BadCell : Xv.XC K c_BadCell i_BadCell "cell"
  e_BadCell : ExcC K c_BadCell
  m_BadCell : mg "BadCell" = some (.ref c_BadCell)
  c_NoCell : Addr
  i_NoCell : Addr
  d_NoCell : FuncData
  F_NoCell : Fun K "__init__" "NoCell.__init__" s_NoCell___init i_NoCell d_NoCell
  b_NoCell : Binds K d_NoCell ["self", "place"] []
  x_NoCell : Xv.XC K c_NoCell i_NoCell "place"
  e_NoCell : ExcC K c_NoCell
  m_NoCell : mg "NoCell" = some (.ref c_NoCell)
  c_BadBound : Addr
  i_BadBound : Addr
  d_BadBound : FuncData
  F_BadBound : Fun K "__init__" "BadBound.__init__" s_BadBound___init i_BadBound d_BadBound
  b_BadBound : Binds K d_BadBound ["self", "bound"] []
  x_BadBound : Xv.XC K c_BadBound i_BadBound "bound"
  e_BadBound : ExcC K c_BadBound
  m_BadBound : mg "BadBound" = some (.ref c_BadBound)
  c_NoRule : Addr
  i_NoRule : Addr
  d_NoRule : FuncData
  F_NoRule : Fun K "__init__" "NoRule.__init__" s_NoRule___init i_NoRule d_NoRule
  b_NoRule : Binds K d_NoRule ["self", "rule"] []
  x_NoRule : Xv.XC K c_NoRule i_NoRule "rule"
  e_NoRule : ExcC K c_NoRule
  m_NoRule : mg "NoRule" = some (.ref c_NoRule)
  c_TooGreat : Addr
  q_TooGreat : PySem.W.excIn K c_TooGreat BM "ValueError.__new__" = true
  k_TooGreat : PySem.W.keepIn K (.ref c_TooGreat) = true
  e_TooGreat : ExcC K c_TooGreat
  m_TooGreat : mg "TooGreat" = some (.ref c_TooGreat)
  c_NothingToUndo : Addr
  q_NothingToUndo : PySem.W.excIn K c_NothingToUndo BM "ValueError.__new__" = true
  k_NothingToUndo : PySem.W.keepIn K (.ref c_NothingToUndo) = true
  e_NothingToUndo : ExcC K c_NothingToUndo
  m_NothingToUndo : mg "NothingToUndo" = some (.ref c_NothingToUndo)
  f_law_state : Addr
  d_law_state : FuncData
  F_law_state : Fun K "_law_state" "_law_state" s_law_state f_law_state d_law_state
  b_law_state : Binds K d_law_state ["_law_cell_here"] []
  m_law_state : mg "_law_state" = some (.ref f_law_state)
  f_law_draw : Addr
  d_law_draw : FuncData
  F_law_draw : Fun K "_law_draw" "_law_draw" s_law_draw f_law_draw d_law_draw
  b_law_draw : Binds K d_law_draw ["_law_state_here", "_law_many"] []
  m_law_draw : mg "_law_draw" = some (.ref f_law_draw)
  f_law_cell : Addr
  d_law_cell : FuncData
  F_law_cell : Fun K "_law_cell" "_law_cell" s_law_cell f_law_cell d_law_cell
  b_law_cell : Binds K d_law_cell ["_law_script", "_law_at"] []
  m_law_cell : mg "_law_cell" = some (.ref f_law_cell)
  f_law_numbered : Addr
  d_law_numbered : FuncData
  F_law_numbered : Fun K "_law_numbered" "_law_numbered" s_law_numbered f_law_numbered d_law_numbered
  b_law_numbered : Binds K d_law_numbered ["_law_thing"] []
  m_law_numbered : mg "_law_numbered" = some (.ref f_law_numbered)
  f_law_others : Addr
  d_law_others : FuncData
  F_law_others : Fun K "_law_others" "_law_others" s_law_others f_law_others d_law_others
  b_law_others : Binds K d_law_others ["_law_thing"] []
  m_law_others : mg "_law_others" = some (.ref f_law_others)
  f_law_kinds : Addr
  d_law_kinds : FuncData
  F_law_kinds : Fun K "_law_kinds" "_law_kinds" s_law_kinds f_law_kinds d_law_kinds
  b_law_kinds : Binds K d_law_kinds ["_law_e"] []
  m_law_kinds : mg "_law_kinds" = some (.ref f_law_kinds)
  c_SplitError : Addr
  m_SplitError : mg "SplitError" = some (.ref c_SplitError)
  z_ValueError : mg "ValueError" = none
  kitS : ∀ i : _root_.Fin 14, PySem.W.kitOne K (.ref ([c_BadReader, c_BadRing, c_BadBegin, c_NoReader, c_TooMany, c_BadCount, c_NoLine, c_BadText, c_BadCell, c_NoCell, c_BadBound, c_NoRule, c_TooGreat, c_NothingToUndo][i.1]'i.2)) (.ref c_SplitError) = some true
  kitV : ∀ i : _root_.Fin 14, PySem.W.kitOne K (.ref ([c_BadReader, c_BadRing, c_BadBegin, c_NoReader, c_TooMany, c_BadCount, c_NoLine, c_BadText, c_BadCell, c_NoCell, c_BadBound, c_NoRule, c_TooGreat, c_NothingToUndo][i.1]'i.2)) (.type "ValueError") = some true
  kit : ∀ i j : _root_.Fin 14, PySem.W.kitOne K (.ref ([c_BadReader, c_BadRing, c_BadBegin, c_NoReader, c_TooMany, c_BadCount, c_NoLine, c_BadText, c_BadCell, c_NoCell, c_BadBound, c_NoRule, c_TooGreat, c_NothingToUndo][i.1]'i.2)) (.ref ([c_BadReader, c_BadRing, c_BadBegin, c_NoReader, c_TooMany, c_BadCount, c_NoLine, c_BadText, c_BadCell, c_NoCell, c_BadBound, c_NoRule, c_TooGreat, c_NothingToUndo][j.1]'j.2)) = some (decide (i = j))
end K71

namespace K71
open PySem L2
local macro_rules | `(tactic| walk_at "rd1") => `(tactic| first
  | (with_reducible refine Rd.i_seq ?_) | (with_reducible refine Rd.i_asg ?_) | (with_reducible refine Rd.i_name ?_) | (with_reducible refine Rd.i_nx ?_) | (with_reducible refine Rd.i_rt ?_) | (with_reducible refine Rd.i_next ?_) | (with_reducible refine Rd.i_ct ?_) | (with_reducible refine Rd.i_bk ?_)
  | (with_reducible refine Rd.i_ret ?_) | (with_reducible refine Rd.i_drop ?_) | (with_reducible refine Rd.i_ifS ?_) | (with_reducible refine Rd.i_sub ?_)
  | (with_reducible refine Rd.i_var (by with_unfolding_all exact rfl) ?_) | (with_reducible refine Rd.i_c ?_) | (with_reducible refine Rd.i_op ?_) | (with_reducible refine Rd.i_un ?_)
  | (with_reducible refine Rd.i_rI0 ?_) | (with_reducible refine Rd.i_rI (by with_unfolding_all first | omega | exact Rd.mulL (by omega) (by omega) | exact Rd.mulR (by omega) (by omega) | decide | (refine ⟨?_, ?_⟩ <;> omega) | (refine ⟨?_, ?_, ?_⟩ <;> omega)) ?_)
  | (with_reducible refine Rd.i_rEq (by with_unfolding_all exact rfl) ?_) | (with_reducible refine Rd.i_rNe (by with_unfolding_all exact rfl) ?_)
  | (with_reducible refine Rd.i_test ?_) | (with_reducible refine Rd.i_tB ?_) | (with_reducible refine Rd.i_bl ?_) | (with_reducible refine Rd.i_and ?_) | (with_reducible refine Rd.i_or ?_) | (with_reducible refine Rd.i_not ?_) | (with_reducible refine Rd.i_notV ?_) | (with_reducible refine Rd.i_andV ?_) | (with_reducible refine Rd.i_orV ?_) | (with_reducible refine Rd.i_if ?_) | (with_reducible refine Rd.i_chain ?_)
  | (with_reducible refine Rd.i_call ?_) | (with_reducible refine Rd.i_nil ?_) | (with_reducible refine Rd.i_cons ?_) | (with_reducible refine Rd.i_cb ?_) | (with_reducible refine Rd.i_bm ?_) | (with_reducible refine Rd.i_bm0 ?_) | (with_reducible refine Rd.i_tup ?_) | (with_reducible refine Rd.i_lst ?_)
  | (with_reducible refine Rd.i_int1 ?_) | (with_reducible refine Rd.i_intb ?_) | (with_reducible refine Rd.i_max ?_)
  | (with_reducible refine Rd.i_ixL (SqL.of (by first | assumption | exact upd_same)) (by with_unfolding_all first | exact rfl | exact atI_nat rfl) ?_) | (with_reducible refine Rd.i_ixT (SqT.of (by first | assumption | exact upd_same)) (by with_unfolding_all exact rfl) ?_)
  | (with_reducible refine Rd.i_setL (by first | assumption | exact upd_same) (by with_unfolding_all exact rfl) ?_)
  | (with_reducible refine Xv.i_mkV ?_) | (with_reducible refine Xv.i_xat ?_)
  | (with_reducible refine Rd.i_gtup (SqT.of (by assumption)) (by with_unfolding_all exact rfl) ?_) | (with_reducible refine Rd.i_gcons ?_) | (with_reducible refine Rd.i_gnil ?_))
local macro_rules | `(tactic| walk_at "rd") => `(tactic| repeat walk_at "rd1")
section
variable {P : Program} {w : World} {K : PySem.W.Frag} {mg : Str → Option Value} {base : Heap}
open Evl
theorem ok_law_state (T : Txt K mg) : FnOk P w K mg base CX0 1 T.f_law_state T.d_law_state ["_law_cell_here"] spState := ok0_law_state T.F_law_state T.toBlt
theorem ok_law_draw (T : Txt K mg) : FnOk P w K mg base CX0 1 T.f_law_draw T.d_law_draw ["_law_state_here", "_law_many"] spDraw := ok0_law_draw T.F_law_draw T.toBlt
theorem ok_law_cell (T : Txt K mg) : FnOk P w K mg base CX0 1 T.f_law_cell T.d_law_cell ["_law_script", "_law_at"] (spCell K) := ok0_law_cell T.F_law_cell T.toBlt
/-- what is asked of the thing: its data, and that lists of it may be compared -/
structure Thing (K : PySem.W.Frag) (H : Hp) (v : V) (d : PyData) : Prop where
  dp : Dp K H v d
  s4 : SeqAt.shaped (.list [d, d, d, d]) = true
  s8 : SeqAt.shaped (.list [d, d, d, d, d, d, d, d]) = true
def spNum (T : Txt K mg) : Sp := fun vs H Q _ => ∃ (v : V) (d : PyData), vs = [v] ∧ Thing K H v d ∧ ∀ p l a1 a2 a3 a4 H', Ex H H' → H' p = some (.tup [.ref l, .bl true]) → H' l = some (.lst [.ref a1, .ref a2, .ref a3, .ref a4]) →
  Xv.Ek H' (.ref a1) T.c_BadReader → Xv.Ek H' (.ref a2) T.c_BadRing → Xv.Ek H' (.ref a3) T.c_BadBegin → Xv.Ek H' (.ref a4) T.c_NoReader → Q (.ref p) H'
theorem ok_law_numbered (T : Txt K mg) : FnOk P w K mg base CX0 3 T.f_law_numbered T.d_law_numbered ["_law_thing"] (spNum T) := by
  refine T.F_law_numbered.ok sc_law_numbered (fun vs H Q E h => ?_) (fun cdv A outer s H vs Q E hr h => ?_)
  · obtain ⟨v, d, rfl, _⟩ := h
    rfl
  · obtain ⟨v, d, rfl, ht, k⟩ := h
    refine ⟨_, (pss_cons (ps_set (i := 1) sc_law_numbered.nd rfl (Or.inl rfl) (pe_lst (pa_cons (Xv.pe_mkV T.x_BadReader.oex T.x_BadReader.iC T.x_BadReader.tI (ok_BadReader___init T.F_BadReader T.x_BadReader) (hr.mono (by decide)) T.b_BadReader pass0 rfl T.m_BadReader (pa_cons (pv 0) pa_nil)) (pa_cons (Xv.pe_mkV T.x_BadRing.oex T.x_BadRing.iC T.x_BadRing.tI (ok_BadRing___init T.F_BadRing T.x_BadRing) (hr.mono (by decide)) T.b_BadRing pass0 rfl T.m_BadRing (pa_cons (pv 0) pa_nil)) (pa_cons (Xv.pe_mkV T.x_BadBegin.oex T.x_BadBegin.iC T.x_BadBegin.tI (ok_BadBegin___init T.F_BadBegin T.x_BadBegin) (hr.mono (by decide)) T.b_BadBegin pass0 rfl T.m_BadBegin (pa_cons (pv 0) pa_nil)) (pa_cons (Xv.pe_mkV T.x_NoReader.oex T.x_NoReader.iC T.x_NoReader.tI (ok_NoReader___init T.F_NoReader T.x_NoReader) (hr.mono (by decide)) T.b_NoReader pass0 rfl T.m_NoReader (pa_cons (pv 0) pa_nil)) pa_nil))))))
      (pss_one (ps_ret (pe_tup (pa_cons (pv 1) (pa_cons (pe_cmpR (op_eqD hr.units) (pe_lc (te := Xv.tXat K "number" (tVar 2)) rfl sc_law_numbered.nd (pi_list (pv 1)) (blkOk_by (own := [("_law_e", 2)]) (N := ["_law_thing", "_law_errors", "_law_e", "_law_k"]) (sc := defScope s_law_numbered) (by decide +kernel)) (fun _ _ _ _ _ => (pg_name (i := 2) sc_law_numbered.nd rfl (Or.inl rfl))) (fun _ _ _ _ _ => pts_nil) (fun _ _ _ _ _ => (Xv.pe_xat (pv 2)))) (pe_lc rfl sc_law_numbered.nd (pi_range1 (by rfl) T.z_range (pa_cons pe_int pa_nil)) (blkOk_by (own := [("_law_k", 3)]) (N := ["_law_thing", "_law_errors", "_law_e", "_law_k"]) (sc := defScope s_law_numbered) (by decide +kernel)) (fun _ _ _ _ _ => (pg_name (i := 3) sc_law_numbered.nd rfl (Or.inl rfl))) (fun _ _ _ _ _ => pts_nil) (fun _ _ _ _ _ => (pv 0))) (nomark _)) pa_nil)))))), ?_⟩
    walk_at "rd"
    refine Xv.i_mk (fun a1 H1 n1 e1 r1 => ?_)
    walk_at "rd"
    refine Xv.i_mk (fun a2 H2 n2 e2 r2 => ?_)
    walk_at "rd"
    refine Xv.i_mk (fun a3 H3 n3 e3 r3 => ?_)
    walk_at "rd"
    refine Xv.i_mk (fun a4 H4 n4 e4 r4 => ?_)
    walk_at "rd"
    refine ⟨by show 4 ≤ sizeLine; decide, fun l hl => ?_⟩
    walk_at "rd"
    have e5 : Ex H4 (upd H4 l (.lst [.ref a1, .ref a2, .ref a3, .ref a4])) := Ex.new hl
    have q1 := ((r1.mono e2).mono e3).mono e4
    have q2 := (r2.mono e3).mono e4
    have q3 := r3.mono e4
    refine Evl.el_lcL (K := K) (xs := [.ref a1, .ref a2, .ref a3, .ref a4]) (fun _ => true) (fun _ => v) (ev_var rfl) (sq_of upd_same) (by show 4 ≤ 40000; decide) (fun x => rfl) (fun _ _ _ _ _ => Xv.et_yes) (fun i x H' e hx _ => ?_) _ (Ex.refl _) _ (fun p6 H6 n6 e6 h6 => ?_)
    · rcases i with _ | _ | _ | _ | i
      · cases hx
        exact Xv.ev_er T.x_BadReader (ev_var rfl) ((q1.mono e5).mono e)
      · cases hx
        exact Xv.ev_er T.x_BadRing (ev_var rfl) ((q2.mono e5).mono e)
      · cases hx
        exact Xv.ev_er T.x_BadBegin (ev_var rfl) ((q3.mono e5).mono e)
      · cases hx
        exact Xv.ev_er T.x_NoReader (ev_var rfl) ((r4.mono e5).mono e)
      · cases hx
    refine Evl.el_lcR1 (n := 4) (fun _ => true) (fun _ => v) (ea_cons ev_c ea_nil) ⟨by decide, by decide⟩ (fun x => rfl) (fun _ _ _ _ => Xv.et_yes) (fun _ _ _ _ _ => ev_var rfl) _ (Ex.refl _) _ (fun p7 H7 n7 e7 h7 => ?_)
    have dd := Xv.dp_mono (((((e1.trans e2).trans e3).trans e4).trans e5).trans (e6.trans e7)) ht.dp
    refine Xv.i_eqSame (d := .list [d, d, d, d]) (.lst (sq_of (e7 _ _ h6)) (.cons dd (.cons dd (.cons dd (.cons dd .nil))))) (.lst (sq_of h7) (.cons dd (.cons dd (.cons dd (.cons dd .nil))))) ht.s4 ?_
    walk_at "rd"
    refine ⟨by show 2 ≤ sizeLine; decide, fun p8 n8 => ?_⟩
    walk_at "rd"
    have e8 := (e5.trans (e6.trans e7)).trans (Ex.new (o := .tup [.ref l, .bl true]) n8)
    exact k p8 l a1 a2 a3 a4 _ ((((e1.trans e2).trans e3).trans e4).trans e8) upd_same ((Ex.new n8) _ _ (e7 _ _ (e6 _ _ upd_same))) (q1.mono e8).ek (q2.mono e8).ek (q3.mono e8).ek (r4.mono e8).ek
end
end K71

namespace K71
open PySem L2
local macro_rules | `(tactic| walk_at "rd1") => `(tactic| first
  | (with_reducible refine Rd.i_seq ?_) | (with_reducible refine Rd.i_asg ?_) | (with_reducible refine Rd.i_name ?_) | (with_reducible refine Rd.i_nx ?_) | (with_reducible refine Rd.i_rt ?_) | (with_reducible refine Rd.i_next ?_) | (with_reducible refine Rd.i_ct ?_) | (with_reducible refine Rd.i_bk ?_)
  | (with_reducible refine Rd.i_ret ?_) | (with_reducible refine Rd.i_drop ?_) | (with_reducible refine Rd.i_ifS ?_) | (with_reducible refine Rd.i_sub ?_)
  | (with_reducible refine Rd.i_var (by with_unfolding_all exact rfl) ?_) | (with_reducible refine Rd.i_c ?_) | (with_reducible refine Rd.i_op ?_) | (with_reducible refine Rd.i_un ?_)
  | (with_reducible refine Rd.i_rI0 ?_) | (with_reducible refine Rd.i_rI (by with_unfolding_all first | omega | exact Rd.mulL (by omega) (by omega) | exact Rd.mulR (by omega) (by omega) | decide | (refine ⟨?_, ?_⟩ <;> omega) | (refine ⟨?_, ?_, ?_⟩ <;> omega)) ?_)
  | (with_reducible refine Rd.i_rEq (by with_unfolding_all exact rfl) ?_) | (with_reducible refine Rd.i_rNe (by with_unfolding_all exact rfl) ?_)
  | (with_reducible refine Rd.i_test ?_) | (with_reducible refine Rd.i_tB ?_) | (with_reducible refine Rd.i_bl ?_) | (with_reducible refine Rd.i_and ?_) | (with_reducible refine Rd.i_or ?_) | (with_reducible refine Rd.i_not ?_) | (with_reducible refine Rd.i_notV ?_) | (with_reducible refine Rd.i_andV ?_) | (with_reducible refine Rd.i_orV ?_) | (with_reducible refine Rd.i_if ?_) | (with_reducible refine Rd.i_chain ?_)
  | (with_reducible refine Rd.i_call ?_) | (with_reducible refine Rd.i_nil ?_) | (with_reducible refine Rd.i_cons ?_) | (with_reducible refine Rd.i_cb ?_) | (with_reducible refine Rd.i_bm ?_) | (with_reducible refine Rd.i_bm0 ?_) | (with_reducible refine Rd.i_tup ?_) | (with_reducible refine Rd.i_lst ?_)
  | (with_reducible refine Rd.i_int1 ?_) | (with_reducible refine Rd.i_intb ?_) | (with_reducible refine Rd.i_max ?_)
  | (with_reducible refine Rd.i_ixL (SqL.of (by first | assumption | exact upd_same)) (by with_unfolding_all first | exact rfl | exact atI_nat rfl) ?_) | (with_reducible refine Rd.i_ixT (SqT.of (by first | assumption | exact upd_same)) (by with_unfolding_all exact rfl) ?_)
  | (with_reducible refine Rd.i_setL (by first | assumption | exact upd_same) (by with_unfolding_all exact rfl) ?_)
  | (with_reducible refine Xv.i_mkV ?_) | (with_reducible refine Xv.i_xat ?_)
  | (with_reducible refine Rd.i_gtup (SqT.of (by assumption)) (by with_unfolding_all exact rfl) ?_) | (with_reducible refine Rd.i_gcons ?_) | (with_reducible refine Rd.i_gnil ?_))
local macro_rules | `(tactic| walk_at "rd") => `(tactic| repeat walk_at "rd1")
section
variable {P : Program} {w : World} {K : PySem.W.Frag} {mg : Str → Option Value} {base : Heap}
open Evl
def spOth (T : Txt K mg) : Sp := fun vs H Q _ => ∃ (v : V) (d : PyData), vs = [v] ∧ Thing K H v d ∧ ∀ p l a1 a2 a3 a4 a5 a6 a7 a8 H', Ex H H' → H' p = some (.tup [.ref l, .bl true]) → H' l = some (.lst [.ref a1, .ref a2, .ref a3, .ref a4, .ref a5, .ref a6, .ref a7, .ref a8]) →
  Xv.Ek H' (.ref a1) T.c_TooMany → Xv.Ek H' (.ref a2) T.c_BadCount → Xv.Ek H' (.ref a3) T.c_NoLine → Xv.Ek H' (.ref a4) T.c_BadText → Xv.Ek H' (.ref a5) T.c_BadCell → Xv.Ek H' (.ref a6) T.c_NoCell → Xv.Ek H' (.ref a7) T.c_BadBound → Xv.Ek H' (.ref a8) T.c_NoRule → Q (.ref p) H'
theorem ok_law_others (T : Txt K mg) : FnOk P w K mg base CX0 3 T.f_law_others T.d_law_others ["_law_thing"] (spOth T) := by
  refine T.F_law_others.ok sc_law_others (fun vs H Q E h => ?_) (fun cdv A outer s H vs Q E hr h => ?_)
  · obtain ⟨v, d, rfl, _⟩ := h
    rfl
  · obtain ⟨v, d, rfl, ht, k⟩ := h
    refine ⟨_, (pss_cons (ps_set (i := 1) sc_law_others.nd rfl (Or.inl rfl) (Xv.pe_mkV T.x_TooMany.oex T.x_TooMany.iC T.x_TooMany.tI (ok_TooMany___init T.F_TooMany T.x_TooMany) (hr.mono (by decide)) T.b_TooMany pass0 rfl T.m_TooMany (pa_cons (pv 0) pa_nil)))
      (pss_cons (ps_set (i := 2) sc_law_others.nd rfl (Or.inl rfl) (Xv.pe_mkV T.x_BadCount.oex T.x_BadCount.iC T.x_BadCount.tI (ok_BadCount___init T.F_BadCount T.x_BadCount) (hr.mono (by decide)) T.b_BadCount pass0 rfl T.m_BadCount (pa_cons (pv 0) pa_nil)))
      (pss_cons (ps_set (i := 3) sc_law_others.nd rfl (Or.inl rfl) (Xv.pe_mkV T.x_NoLine.oex T.x_NoLine.iC T.x_NoLine.tI (ok_NoLine___init T.F_NoLine T.x_NoLine) (hr.mono (by decide)) T.b_NoLine pass0 rfl T.m_NoLine (pa_cons (pv 0) pa_nil)))
      (pss_cons (ps_set (i := 4) sc_law_others.nd rfl (Or.inl rfl) (Xv.pe_mkV T.x_BadText.oex T.x_BadText.iC T.x_BadText.tI (ok_BadText___init T.F_BadText T.x_BadText) (hr.mono (by decide)) T.b_BadText pass0 rfl T.m_BadText (pa_cons (pv 0) pa_nil)))
      (pss_cons (ps_set (i := 5) sc_law_others.nd rfl (Or.inl rfl) (Xv.pe_mkV T.x_BadCell.oex T.x_BadCell.iC T.x_BadCell.tI (ok_BadCell___init T.F_BadCell T.x_BadCell) (hr.mono (by decide)) T.b_BadCell pass0 rfl T.m_BadCell (pa_cons (pv 0) pa_nil)))
      (pss_cons (ps_set (i := 6) sc_law_others.nd rfl (Or.inl rfl) (Xv.pe_mkV T.x_NoCell.oex T.x_NoCell.iC T.x_NoCell.tI (ok_NoCell___init T.F_NoCell T.x_NoCell) (hr.mono (by decide)) T.b_NoCell pass0 rfl T.m_NoCell (pa_cons (pv 0) pa_nil)))
      (pss_cons (ps_set (i := 7) sc_law_others.nd rfl (Or.inl rfl) (Xv.pe_mkV T.x_BadBound.oex T.x_BadBound.iC T.x_BadBound.tI (ok_BadBound___init T.F_BadBound T.x_BadBound) (hr.mono (by decide)) T.b_BadBound pass0 rfl T.m_BadBound (pa_cons (pv 0) pa_nil)))
      (pss_cons (ps_set (i := 8) sc_law_others.nd rfl (Or.inl rfl) (Xv.pe_mkV T.x_NoRule.oex T.x_NoRule.iC T.x_NoRule.tI (ok_NoRule___init T.F_NoRule T.x_NoRule) (hr.mono (by decide)) T.b_NoRule pass0 rfl T.m_NoRule (pa_cons (pv 0) pa_nil)))
      (pss_cons (ps_set (i := 9) sc_law_others.nd rfl (Or.inl rfl) (pe_lst (pa_cons (Xv.pe_xat (pv 1)) (pa_cons (Xv.pe_xat (pv 2)) (pa_cons (Xv.pe_xat (pv 3)) (pa_cons (Xv.pe_xat (pv 4)) (pa_cons (Xv.pe_xat (pv 5)) (pa_cons (Xv.pe_xat (pv 6)) (pa_cons (Xv.pe_xat (pv 7)) (pa_cons (Xv.pe_xat (pv 8)) pa_nil))))))))))
      (pss_one (ps_ret (pe_tup (pa_cons (pe_lst (pa_cons (pv 1) (pa_cons (pv 2) (pa_cons (pv 3) (pa_cons (pv 4) (pa_cons (pv 5) (pa_cons (pv 6) (pa_cons (pv 7) (pa_cons (pv 8) pa_nil))))))))) (pa_cons (pe_cmpR (op_eqD hr.units) (pv 9) (pe_lc rfl sc_law_others.nd (pi_range1 (by rfl) T.z_range (pa_cons pe_int pa_nil)) (blkOk_by (own := [("_law_k", 10)]) (N := ["_law_thing", "_law_many", "_law_count", "_law_name", "_law_text", "_law_cell_here", "_law_place", "_law_bound", "_law_rule", "_law_told", "_law_k"]) (sc := defScope s_law_others) (by decide +kernel)) (fun _ _ _ _ _ => (pg_name (i := 10) sc_law_others.nd rfl (Or.inl rfl))) (fun _ _ _ _ _ => pts_nil) (fun _ _ _ _ _ => (pv 0))) (nomark _)) pa_nil)))))))))))))), ?_⟩
    walk_at "rd"
    refine Xv.i_mk (fun a1 H1 n1 e1 r1 => ?_)
    walk_at "rd"
    refine Xv.i_mk (fun a2 H2 n2 e2 r2 => ?_)
    walk_at "rd"
    refine Xv.i_mk (fun a3 H3 n3 e3 r3 => ?_)
    walk_at "rd"
    refine Xv.i_mk (fun a4 H4 n4 e4 r4 => ?_)
    walk_at "rd"
    refine Xv.i_mk (fun a5 H5 n5 e5 r5 => ?_)
    walk_at "rd"
    refine Xv.i_mk (fun a6 H6 n6 e6 r6 => ?_)
    walk_at "rd"
    refine Xv.i_mk (fun a7 H7 n7 e7 r7 => ?_)
    walk_at "rd"
    refine Xv.i_mk (fun a8 H8 n8 e8 r8 => ?_)
    walk_at "rd"
    refine Xv.i_er T.x_TooMany (r1.mono ((((((e2.trans e3).trans e4).trans e5).trans e6).trans e7).trans e8)) ?_
    walk_at "rd"
    refine Xv.i_er T.x_BadCount (r2.mono (((((e3.trans e4).trans e5).trans e6).trans e7).trans e8)) ?_
    walk_at "rd"
    refine Xv.i_er T.x_NoLine (r3.mono ((((e4.trans e5).trans e6).trans e7).trans e8)) ?_
    walk_at "rd"
    refine Xv.i_er T.x_BadText (r4.mono (((e5.trans e6).trans e7).trans e8)) ?_
    walk_at "rd"
    refine Xv.i_er T.x_BadCell (r5.mono ((e6.trans e7).trans e8)) ?_
    walk_at "rd"
    refine Xv.i_er T.x_NoCell (r6.mono (e7.trans e8)) ?_
    walk_at "rd"
    refine Xv.i_er T.x_BadBound (r7.mono e8) ?_
    walk_at "rd"
    refine Xv.i_er T.x_NoRule (r8.mono (Ex.refl _)) ?_
    walk_at "rd"
    refine ⟨by show 8 ≤ sizeLine; decide, fun t n9 => ?_⟩
    walk_at "rd"
    refine ⟨by show 8 ≤ sizeLine; decide, fun l n10 => ?_⟩
    walk_at "rd"
    have e9 : Ex H8 _ := Ex.new (o := .lst [v, v, v, v, v, v, v, v]) n9
    have e10 : Ex (upd H8 t (.lst [v, v, v, v, v, v, v, v])) _ := Ex.new (o := .lst [.ref a1, .ref a2, .ref a3, .ref a4, .ref a5, .ref a6, .ref a7, .ref a8]) n10
    refine Evl.el_lcR1 (n := 8) (fun _ => true) (fun _ => v) (ea_cons ev_c ea_nil) ⟨by decide, by decide⟩ (fun x => rfl) (fun _ _ _ _ => Xv.et_yes) (fun _ _ _ _ _ => ev_var rfl) _ (Ex.refl _) _ (fun p7 H7 n7 e11 h7 => ?_)
    have dd := Xv.dp_mono (((((((((e1.trans e2).trans e3).trans e4).trans e5).trans e6).trans e7).trans e8).trans (e9.trans e10)).trans e11) ht.dp
    have all : DpAll K H7 [v, v, v, v, v, v, v, v] [d, d, d, d, d, d, d, d] := .cons dd (.cons dd (.cons dd (.cons dd (.cons dd (.cons dd (.cons dd (.cons dd .nil)))))))
    refine Xv.i_eqSame (d := .list [d, d, d, d, d, d, d, d]) (.lst (sq_of (e11 _ _ (e10 _ _ upd_same))) all) (.lst (sq_of h7) all) ht.s8 ?_
    walk_at "rd"
    refine ⟨by show 2 ≤ sizeLine; decide, fun p8 n8 => ?_⟩
    walk_at "rd"
    have e12 := ((e9.trans e10).trans e11).trans (Ex.new (o := .tup [.ref l, .bl true]) n8)
    exact k p8 l a1 a2 a3 a4 a5 a6 a7 a8 _ ((((((((e1.trans e2).trans e3).trans e4).trans e5).trans e6).trans e7).trans e8).trans e12) upd_same ((Ex.new n8) _ _ (e11 _ _ upd_same)) ((r1.mono ((((((e2.trans e3).trans e4).trans e5).trans e6).trans e7).trans e8)).mono e12).ek ((r2.mono (((((e3.trans e4).trans e5).trans e6).trans e7).trans e8)).mono e12).ek ((r3.mono ((((e4.trans e5).trans e6).trans e7).trans e8)).mono e12).ek ((r4.mono (((e5.trans e6).trans e7).trans e8)).mono e12).ek ((r5.mono ((e6.trans e7).trans e8)).mono e12).ek ((r6.mono (e7.trans e8)).mono e12).ek ((r7.mono e8).mono e12).ek ((r8.mono (Ex.refl _)).mono e12).ek

/-- the classes in the order in which they are asked -/
def Txt.cs (T : Txt K mg) : List Addr := [T.c_BadReader, T.c_BadRing, T.c_BadBegin, T.c_NoReader, T.c_TooMany, T.c_BadCount, T.c_NoLine, T.c_BadText, T.c_BadCell, T.c_NoCell, T.c_BadBound, T.c_NoRule, T.c_TooGreat, T.c_NothingToUndo]
theorem Txt.xcs (T : Txt K mg) : ∀ i : _root_.Fin 14, ExcC K (T.cs[i.1]'i.2)
  | ⟨0, _⟩ => T.e_BadReader
  | ⟨1, _⟩ => T.e_BadRing
  | ⟨2, _⟩ => T.e_BadBegin
  | ⟨3, _⟩ => T.e_NoReader
  | ⟨4, _⟩ => T.e_TooMany
  | ⟨5, _⟩ => T.e_BadCount
  | ⟨6, _⟩ => T.e_NoLine
  | ⟨7, _⟩ => T.e_BadText
  | ⟨8, _⟩ => T.e_BadCell
  | ⟨9, _⟩ => T.e_NoCell
  | ⟨10, _⟩ => T.e_BadBound
  | ⟨11, _⟩ => T.e_NoRule
  | ⟨12, _⟩ => T.e_TooGreat
  | ⟨13, _⟩ => T.e_NothingToUndo
def spKinds (T : Txt K mg) : Sp := fun vs H Q _ => ∃ (x : V) (i : _root_.Fin 14), vs = [x] ∧ Xv.Ek H x (T.cs[i]'i.2) ∧ ExcC K (T.cs[i]'i.2) ∧ ∀ p H', Ex H H' → H' p = some (.lst ([decide (i = 0), decide (i = 1), decide (i = 2), decide (i = 3), decide (i = 4), decide (i = 5), decide (i = 6), decide (i = 7), decide (i = 8), decide (i = 9), decide (i = 10), decide (i = 11), decide (i = 12), decide (i = 13)].map V.bl)) → Q (.ref p) H'
theorem ok_law_kinds (T : Txt K mg) : FnOk P w K mg base CX0 1 T.f_law_kinds T.d_law_kinds ["_law_e"] (spKinds T) := by
  refine T.F_law_kinds.ok sc_law_kinds (fun vs H Q E h => ?_) (fun cdv A outer s H vs Q E hr h => ?_)
  · obtain ⟨v, d, rfl, _⟩ := h
    rfl
  · obtain ⟨x, i, rfl, hx, hc, k⟩ := h
    refine ⟨_, (pss_cons (ps_set (i := 1) sc_law_kinds.nd rfl (Or.inl rfl) (pe_lst (pa_cons (pe_callB Xv.call_isX (by rfl) T.z_isinstance (by decide +kernel) (pa_cons (pv 0) (pa_cons (pe_glob (v := .ref T.c_BadReader) rfl T.m_BadReader rfl) pa_nil))) (pa_cons (pe_callB Xv.call_isX (by rfl) T.z_isinstance (by decide +kernel) (pa_cons (pv 0) (pa_cons (pe_glob (v := .ref T.c_BadRing) rfl T.m_BadRing rfl) pa_nil))) (pa_cons (pe_callB Xv.call_isX (by rfl) T.z_isinstance (by decide +kernel) (pa_cons (pv 0) (pa_cons (pe_glob (v := .ref T.c_BadBegin) rfl T.m_BadBegin rfl) pa_nil))) (pa_cons (pe_callB Xv.call_isX (by rfl) T.z_isinstance (by decide +kernel) (pa_cons (pv 0) (pa_cons (pe_glob (v := .ref T.c_NoReader) rfl T.m_NoReader rfl) pa_nil))) pa_nil))))))
      (pss_cons (ps_set (i := 1) sc_law_kinds.nd rfl (Or.inl rfl) (pe_op op_cat (pv 1) (pe_lst (pa_cons (pe_callB Xv.call_isX (by rfl) T.z_isinstance (by decide +kernel) (pa_cons (pv 0) (pa_cons (pe_glob (v := .ref T.c_TooMany) rfl T.m_TooMany rfl) pa_nil))) (pa_cons (pe_callB Xv.call_isX (by rfl) T.z_isinstance (by decide +kernel) (pa_cons (pv 0) (pa_cons (pe_glob (v := .ref T.c_BadCount) rfl T.m_BadCount rfl) pa_nil))) (pa_cons (pe_callB Xv.call_isX (by rfl) T.z_isinstance (by decide +kernel) (pa_cons (pv 0) (pa_cons (pe_glob (v := .ref T.c_NoLine) rfl T.m_NoLine rfl) pa_nil))) (pa_cons (pe_callB Xv.call_isX (by rfl) T.z_isinstance (by decide +kernel) (pa_cons (pv 0) (pa_cons (pe_glob (v := .ref T.c_BadText) rfl T.m_BadText rfl) pa_nil))) pa_nil)))))))
      (pss_cons (ps_set (i := 1) sc_law_kinds.nd rfl (Or.inl rfl) (pe_op op_cat (pv 1) (pe_lst (pa_cons (pe_callB Xv.call_isX (by rfl) T.z_isinstance (by decide +kernel) (pa_cons (pv 0) (pa_cons (pe_glob (v := .ref T.c_BadCell) rfl T.m_BadCell rfl) pa_nil))) (pa_cons (pe_callB Xv.call_isX (by rfl) T.z_isinstance (by decide +kernel) (pa_cons (pv 0) (pa_cons (pe_glob (v := .ref T.c_NoCell) rfl T.m_NoCell rfl) pa_nil))) (pa_cons (pe_callB Xv.call_isX (by rfl) T.z_isinstance (by decide +kernel) (pa_cons (pv 0) (pa_cons (pe_glob (v := .ref T.c_BadBound) rfl T.m_BadBound rfl) pa_nil))) (pa_cons (pe_callB Xv.call_isX (by rfl) T.z_isinstance (by decide +kernel) (pa_cons (pv 0) (pa_cons (pe_glob (v := .ref T.c_NoRule) rfl T.m_NoRule rfl) pa_nil))) pa_nil)))))))
      (pss_one (ps_ret (pe_op op_cat (pv 1) (pe_lst (pa_cons (pe_callB Xv.call_isX (by rfl) T.z_isinstance (by decide +kernel) (pa_cons (pv 0) (pa_cons (pe_glob (v := .ref T.c_TooGreat) rfl T.m_TooGreat rfl) pa_nil))) (pa_cons (pe_callB Xv.call_isX (by rfl) T.z_isinstance (by decide +kernel) (pa_cons (pv 0) (pa_cons (pe_glob (v := .ref T.c_NothingToUndo) rfl T.m_NothingToUndo rfl) pa_nil))) pa_nil))))))))), ?_⟩
    walk_at "rd"
    refine Xv.i_isX hc (hx.mono (Ex.refl _)) (T.kit i 0) ?_
    walk_at "rd"
    refine Xv.i_isX hc (hx.mono (Ex.refl _)) (T.kit i 1) ?_
    walk_at "rd"
    refine Xv.i_isX hc (hx.mono (Ex.refl _)) (T.kit i 2) ?_
    walk_at "rd"
    refine Xv.i_isX hc (hx.mono (Ex.refl _)) (T.kit i 3) ?_
    walk_at "rd"
    refine ⟨by show 4 ≤ sizeLine; decide, fun p1 n1 => ?_⟩
    walk_at "rd"
    have e1 := Ex.new (o := .lst [.bl (decide (i = 0)), .bl (decide (i = 1)), .bl (decide (i = 2)), .bl (decide (i = 3))]) n1
    refine Xv.i_isX hc (hx.mono e1) (T.kit i 4) ?_
    walk_at "rd"
    refine Xv.i_isX hc (hx.mono e1) (T.kit i 5) ?_
    walk_at "rd"
    refine Xv.i_isX hc (hx.mono e1) (T.kit i 6) ?_
    walk_at "rd"
    refine Xv.i_isX hc (hx.mono e1) (T.kit i 7) ?_
    walk_at "rd"
    refine ⟨by show 4 ≤ sizeLine; decide, fun p2 n2 => ?_⟩
    walk_at "rd"
    have e2 := Ex.new (o := .lst [.bl (decide (i = 4)), .bl (decide (i = 5)), .bl (decide (i = 6)), .bl (decide (i = 7))]) n2
    refine Rd.i_catL (xs := [.bl (decide (i = 0)), .bl (decide (i = 1)), .bl (decide (i = 2)), .bl (decide (i = 3))]) (zs := [.bl (decide (i = 4)), .bl (decide (i = 5)), .bl (decide (i = 6)), .bl (decide (i = 7))]) (e2 _ _ upd_same) upd_same (by show 8 ≤ sizeLine; decide) (fun p3 n3 => ?_)
    walk_at "rd"
    have e3 := Ex.new (o := .lst ([.bl (decide (i = 0)), .bl (decide (i = 1)), .bl (decide (i = 2)), .bl (decide (i = 3))] ++ [.bl (decide (i = 4)), .bl (decide (i = 5)), .bl (decide (i = 6)), .bl (decide (i = 7))])) n3
    refine Xv.i_isX hc (hx.mono ((e1.trans e2).trans e3)) (T.kit i 8) ?_
    walk_at "rd"
    refine Xv.i_isX hc (hx.mono ((e1.trans e2).trans e3)) (T.kit i 9) ?_
    walk_at "rd"
    refine Xv.i_isX hc (hx.mono ((e1.trans e2).trans e3)) (T.kit i 10) ?_
    walk_at "rd"
    refine Xv.i_isX hc (hx.mono ((e1.trans e2).trans e3)) (T.kit i 11) ?_
    walk_at "rd"
    refine ⟨by show 4 ≤ sizeLine; decide, fun p4 n4 => ?_⟩
    walk_at "rd"
    have e4 := Ex.new (o := .lst [.bl (decide (i = 8)), .bl (decide (i = 9)), .bl (decide (i = 10)), .bl (decide (i = 11))]) n4
    refine Rd.i_catL (xs := [.bl (decide (i = 0)), .bl (decide (i = 1)), .bl (decide (i = 2)), .bl (decide (i = 3)), .bl (decide (i = 4)), .bl (decide (i = 5)), .bl (decide (i = 6)), .bl (decide (i = 7))]) (zs := [.bl (decide (i = 8)), .bl (decide (i = 9)), .bl (decide (i = 10)), .bl (decide (i = 11))]) (e4 _ _ upd_same) upd_same (by show 12 ≤ sizeLine; decide) (fun p5 n5 => ?_)
    walk_at "rd"
    have e5 := Ex.new (o := .lst ([.bl (decide (i = 0)), .bl (decide (i = 1)), .bl (decide (i = 2)), .bl (decide (i = 3)), .bl (decide (i = 4)), .bl (decide (i = 5)), .bl (decide (i = 6)), .bl (decide (i = 7))] ++ [.bl (decide (i = 8)), .bl (decide (i = 9)), .bl (decide (i = 10)), .bl (decide (i = 11))])) n5
    refine Xv.i_isX hc (hx.mono ((((e1.trans e2).trans e3).trans e4).trans e5)) (T.kit i 12) ?_
    walk_at "rd"
    refine Xv.i_isX hc (hx.mono ((((e1.trans e2).trans e3).trans e4).trans e5)) (T.kit i 13) ?_
    walk_at "rd"
    refine ⟨by show 2 ≤ sizeLine; decide, fun p6 n6 => ?_⟩
    walk_at "rd"
    have e6 := Ex.new (o := .lst [.bl (decide (i = 12)), .bl (decide (i = 13))]) n6
    refine Rd.i_catL (xs := [.bl (decide (i = 0)), .bl (decide (i = 1)), .bl (decide (i = 2)), .bl (decide (i = 3)), .bl (decide (i = 4)), .bl (decide (i = 5)), .bl (decide (i = 6)), .bl (decide (i = 7)), .bl (decide (i = 8)), .bl (decide (i = 9)), .bl (decide (i = 10)), .bl (decide (i = 11))]) (zs := [.bl (decide (i = 12)), .bl (decide (i = 13))]) (e6 _ _ upd_same) upd_same (by show 14 ≤ sizeLine; decide) (fun p7 n7 => ?_)
    walk_at "rd"
    have e7 := Ex.new (o := .lst ([.bl (decide (i = 0)), .bl (decide (i = 1)), .bl (decide (i = 2)), .bl (decide (i = 3)), .bl (decide (i = 4)), .bl (decide (i = 5)), .bl (decide (i = 6)), .bl (decide (i = 7)), .bl (decide (i = 8)), .bl (decide (i = 9)), .bl (decide (i = 10)), .bl (decide (i = 11))] ++ [.bl (decide (i = 12)), .bl (decide (i = 13))])) n7
    exact k p7 _ ((((((e1.trans e2).trans e3).trans e4).trans e5).trans e6).trans e7) upd_same
end
end K71

namespace K71
open PySem L2
local macro_rules | `(tactic| walk_at "rd1") => `(tactic| first
  | (with_reducible refine Rd.i_seq ?_) | (with_reducible refine Rd.i_asg ?_) | (with_reducible refine Rd.i_name ?_) | (with_reducible refine Rd.i_nx ?_) | (with_reducible refine Rd.i_rt ?_) | (with_reducible refine Rd.i_next ?_) | (with_reducible refine Rd.i_ct ?_) | (with_reducible refine Rd.i_bk ?_)
  | (with_reducible refine Rd.i_ret ?_) | (with_reducible refine Rd.i_drop ?_) | (with_reducible refine Rd.i_ifS ?_) | (with_reducible refine Rd.i_sub ?_)
  | (with_reducible refine Rd.i_var (by with_unfolding_all exact rfl) ?_) | (with_reducible refine Rd.i_c ?_) | (with_reducible refine Rd.i_op ?_) | (with_reducible refine Rd.i_un ?_)
  | (with_reducible refine Rd.i_rI0 ?_) | (with_reducible refine Rd.i_rI (by with_unfolding_all first | omega | exact Rd.mulL (by omega) (by omega) | exact Rd.mulR (by omega) (by omega) | decide | (refine ⟨?_, ?_⟩ <;> omega) | (refine ⟨?_, ?_, ?_⟩ <;> omega)) ?_)
  | (with_reducible refine Rd.i_rEq (by with_unfolding_all exact rfl) ?_) | (with_reducible refine Rd.i_rNe (by with_unfolding_all exact rfl) ?_)
  | (with_reducible refine Rd.i_test ?_) | (with_reducible refine Rd.i_tB ?_) | (with_reducible refine Rd.i_bl ?_) | (with_reducible refine Rd.i_and ?_) | (with_reducible refine Rd.i_or ?_) | (with_reducible refine Rd.i_not ?_) | (with_reducible refine Rd.i_notV ?_) | (with_reducible refine Rd.i_andV ?_) | (with_reducible refine Rd.i_orV ?_) | (with_reducible refine Rd.i_if ?_) | (with_reducible refine Rd.i_chain ?_)
  | (with_reducible refine Rd.i_call ?_) | (with_reducible refine Rd.i_nil ?_) | (with_reducible refine Rd.i_cons ?_) | (with_reducible refine Rd.i_cb ?_) | (with_reducible refine Rd.i_bm ?_) | (with_reducible refine Rd.i_bm0 ?_) | (with_reducible refine Rd.i_tup ?_) | (with_reducible refine Rd.i_lst ?_)
  | (with_reducible refine Rd.i_int1 ?_) | (with_reducible refine Rd.i_intb ?_) | (with_reducible refine Rd.i_max ?_)
  | (with_reducible refine Rd.i_ixL (SqL.of (by first | assumption | exact upd_same)) (by with_unfolding_all first | exact rfl | exact atI_nat rfl) ?_) | (with_reducible refine Rd.i_ixT (SqT.of (by first | assumption | exact upd_same)) (by with_unfolding_all exact rfl) ?_)
  | (with_reducible refine Rd.i_setL (by first | assumption | exact upd_same) (by with_unfolding_all exact rfl) ?_)
  | (with_reducible refine Xv.i_mkV ?_) | (with_reducible refine Xv.i_xat ?_)
  | (with_reducible refine Rd.i_gtup (SqT.of (by assumption)) (by with_unfolding_all exact rfl) ?_) | (with_reducible refine Rd.i_gcons ?_) | (with_reducible refine Rd.i_gnil ?_))
local macro_rules | `(tactic| walk_at "rd") => `(tactic| repeat walk_at "rd1")
section
variable {P : Program} {w : World} {K : PySem.W.Frag} {mg : Str → Option Value} {base : Heap}
open Evl
theorem i_draw {p : Addr} {m z : Int} {H : Hp} {Q : VK} {E : XK} (hp : StAt H p z) (z0 : 0 ≤ z) (z1 : z < 1000) (m0 : 0 < m) (m1 : m < 1073741824) (q : ∀ r H2, 0 ≤ r → r < m → StAt H2 p (z + 1) → Xv.But p H H2 → Q (.int r) H2) : spDraw [.ref p, .int m] H Q E := by
  obtain ⟨x, y, hp⟩ := hp
  exact ⟨p, m, x, y, z, rfl, hp, z0, z1, m0, m1, fun r x' h0 h1 => q r _ h0 h1 ⟨x', y, upd_same⟩ Xv.But.upd⟩
def spLaw (K : PySem.W.Frag) : Sp := fun vs H Q _ => ∃ (a : Addr) (ns : List Int), vs = [.ref a] ∧ SqL K H a (ns.map V.int) ∧ ns.length ≤ 63 ∧ ∀ H', Q (.bl true) H'
theorem ok_law (T : Txt K mg) {f : Addr} {fd : FuncData} (F : Fun K "law" "law" s_law f fd) : FnOk P w K mg base CX0 4 f fd ["_law_script"] (spLaw K) := by
  refine F.ok sc_law (fun vs H Q E h => ?_) (fun cdv A outer s H vs Q E hr h => ?_)
  · obtain ⟨a, ns, rfl, _⟩ := h
    rfl
  · obtain ⟨a, ns, rfl, hs, hl, k⟩ := h
    refine ⟨_, (pss_cons (ps_for PassesOwn.never rfl (pi_range1 (by rfl) T.z_range (pa_cons (pe_callB (call_max2 rfl) (by rfl) T.z_max (by decide +kernel) (pa_cons pe_int (pa_cons (pe_callB (call_min2 rfl) (by rfl) T.z_min (by decide +kernel) (pa_cons pe_int (pa_cons (pe_callB call_len_seq (by rfl) T.z_len (by decide +kernel) (pa_cons (pv 0) pa_nil)) pa_nil))) pa_nil))) pa_nil)) (pg_name (i := 1) sc_law.nd rfl (Or.inl rfl))
        (pss_cons (ps_set (i := 2) sc_law.nd rfl (Or.inl rfl) (pe_call (ok_law_state T) (hr.mono (by decide)) rfl T.m_law_state T.F_law_state.kp T.b_law_state .nil pass0 (pa_cons (pe_call (ok_law_cell T) (hr.mono (by decide)) rfl T.m_law_cell T.F_law_cell.kp T.b_law_cell .nil pass0 (pa_cons (pv 0) (pa_cons (pv 1) pa_nil))) pa_nil)))
        (pss_cons (ps_set (i := 3) sc_law.nd rfl (Or.inl rfl) (pe_op op_mul (pe_op op_sub (pe_call (ok_law_draw T) (hr.mono (by decide)) rfl T.m_law_draw T.F_law_draw.kp T.b_law_draw .nil pass0 (pa_cons (pv 2) (pa_cons pe_int pa_nil))) pe_int) (pe_ix ix_list (pe_lst (pa_cons pe_int (pa_cons (pe_op op_pow pe_int pe_int) pa_nil))) (pe_call (ok_law_draw T) (hr.mono (by decide)) rfl T.m_law_draw T.F_law_draw.kp T.b_law_draw .nil pass0 (pa_cons (pv 2) (pa_cons pe_int pa_nil))) (fun _ _ => rfl))))
        (pss_cons (ps_set (i := 4) sc_law.nd rfl (Or.inl rfl) (pe_ix ix_list (pe_lst (pa_cons pe_str (pa_cons (pv 3) (pa_cons pe_non (pa_cons (pe_tup (pa_cons (pe_tup (pa_cons pe_str (pa_cons pe_int pa_nil))) (pa_cons pe_int pa_nil))) (pa_cons (pe_tup pa_nil) (pa_cons pe_str pa_nil))))))) (pe_call (ok_law_draw T) (hr.mono (by decide)) rfl T.m_law_draw T.F_law_draw.kp T.b_law_draw .nil pass0 (pa_cons (pv 2) (pa_cons pe_int pa_nil))) (fun _ _ => rfl)))
        (pss_cons (ps_asg (pe_call (ok_law_numbered T) (hr.mono (by decide)) rfl T.m_law_numbered T.F_law_numbered.kp T.b_law_numbered .nil pass0 (pa_cons (pv 4) pa_nil)) (pg_tup (by rfl) (pgs_cons (pg_name (i := 5) sc_law.nd rfl (Or.inl rfl)) (pgs_cons (pg_name (i := 6) sc_law.nd rfl (Or.inl rfl)) pgs_nil))))
        (pss_cons (ps_asg (pe_call (ok_law_others T) (hr.mono (by decide)) rfl T.m_law_others T.F_law_others.kp T.b_law_others .nil pass0 (pa_cons (pv 4) pa_nil)) (pg_tup (by rfl) (pgs_cons (pg_name (i := 7) sc_law.nd rfl (Or.inl rfl)) (pgs_cons (pg_name (i := 8) sc_law.nd rfl (Or.inl rfl)) pgs_nil))))
        (pss_cons (ps_set (i := 9) sc_law.nd rfl (Or.inl rfl) (pe_op op_cat (pe_op op_cat (pv 5) (pv 7)) (pe_lst (pa_cons (Xv.pe_mkV0 PySem.F.excBase_ValueError T.q_TooGreat T.m_TooGreat T.k_TooGreat rfl) (pa_cons (Xv.pe_mkV0 PySem.F.excBase_ValueError T.q_NothingToUndo T.m_NothingToUndo T.k_NothingToUndo rfl) pa_nil)))))
        (pss_cons (ps_if (PW.pt (pw_or (pt_not (pt_val (pv 6))) (pw_or1 (pt_not (pt_val (pv 8))))))
          (pss_one (ps_ret pe_bl))
          pss_nil)
        (pss_one (ps_for PassesOwn.never rfl (pi_range1 (by rfl) T.z_range (pa_cons (pe_callB call_len_seq (by rfl) T.z_len (by decide +kernel) (pa_cons (pv 9) pa_nil)) pa_nil)) (pg_name (i := 10) sc_law.nd rfl (Or.inr rfl))
          (pss_cons (ps_if (pt_cmpR (op_neD hr.units) (pe_call (ok_law_kinds T) (hr.mono (by decide)) rfl T.m_law_kinds T.F_law_kinds.kp T.b_law_kinds .nil pass0 (pa_cons (pe_ix ix_list (pv 9) (pv 10) (fun _ _ => rfl)) pa_nil)) (pe_lc rfl sc_law.nd (pi_range1 (by rfl) T.z_range (pa_cons pe_int pa_nil)) (blkOk_by (own := [("_law_j", 11)]) (N := ["_law_script", "_law_at", "_law_state_here", "_law_number", "_law_thing", "_law_first", "_law_right", "_law_second", "_law_fits", "_law_errors", "_law_k", "_law_j"]) (sc := defScope s_law) (by decide +kernel)) (fun _ _ _ _ _ => (pg_name (i := 11) sc_law.nd rfl (Or.inl rfl))) (fun _ _ _ _ _ => pts_nil) (fun _ _ _ _ _ => (pe_cmpR op_eq (pv 11) (pv 10) (nomark _)))) (nomark _))
            (pss_one (ps_ret pe_bl))
            pss_nil)
          (pss_one (ps_if (PW.pt (pw_or (pt_not (pt_val (pe_callB Xv.call_isX (by rfl) T.z_isinstance (by decide +kernel) (pa_cons (pe_ix ix_list (pv 9) (pv 10) (fun _ _ => rfl)) (pa_cons (pe_glob (v := .ref T.c_SplitError) rfl T.m_SplitError rfl) pa_nil))))) (pw_or1 (pt_not (pt_val (pe_callB Xv.call_isX (by rfl) T.z_isinstance (by decide +kernel) (pa_cons (pe_ix ix_list (pv 9) (pv 10) (fun _ _ => rfl)) (pa_cons (pe_bltn (v := .ty "ValueError") (by rfl) T.z_ValueError (by decide +kernel) rfl) pa_nil))))))))
            (pss_one (ps_ret pe_bl))
            pss_nil)))))))))))))
      (pss_one (ps_ret pe_bl))), ?_⟩
    have hS : start ["_law_script", "_law_at", "_law_state_here", "_law_number", "_law_thing", "_law_first", "_law_right", "_law_second", "_law_fits", "_law_errors", "_law_k", "_law_j"] [V.ref a] = [some (.ref a), none, none, none, none, none, none, none, none, none, none, none] := rfl
    rw [hS]
    refine Evl.q_forR1 (n := if (if ((ns.map V.int).length : Int) < 3 then ((ns.map V.int).length : Int) else 3) > 1 then (if ((ns.map V.int).length : Int) < 3 then ((ns.map V.int).length : Int) else 3) else 1) (fun H1 e1 Q1 q1 => ?_) ⟨?_, ?_⟩
      (fun i σ H' => Ex H H' ∧ ∃ u1 u2 u3 u4 u5 u6 u7 u8 u9 u10 u11 : Option V, σ = [some (.ref a), u1, u2, u3, u4, u5, u6, u7, u8, u9, u10, u11])
      (fun H1 e1 => ⟨e1, _, _, _, _, _, _, _, _, _, _, _, rfl⟩) (fun i σ H' hi hP => ?_) (fun σ H' hP => ?_)
    · walk_at "rd"
      refine Rd.i_len (ex_l e1 hs) ?_
      walk_at "rd"
      exact q1 H1 (Ex.refl _)
    · split <;> omega
    · split
      · split <;> omega
      · omega
    · obtain ⟨eH, u1, u2, u3, u4, u5, u6, u7, u8, u9, u10, u11, rfl⟩ := hP
      walk_at "rd"
      refine ⟨a, ns, i, rfl, ex_l eH hs, fun r0 => ?_⟩
      walk_at "rd"
      refine ⟨r0, rfl, fun p x0 y0 np => ?_⟩
      walk_at "rd"
      have nH : H p = none := fresh_back eH np
      have nap : ∀ b o, H b = some o → b ≠ p := fun b o h => ne_of_none h nH
      refine i_draw (p := p) (m := 2001) (z := 0) ⟨x0, y0, upd_same⟩ (by decide) (by decide) (by decide) (by decide) (fun r1 H1 lo1 hi1 s1 b1 => ?_)
      have eH1 : Ex H H1 := b1.ex (Ex.mut eH nH) nH
      walk_at "rd"
      refine ⟨by show 2 ≤ sizeLine; decide, fun l1 nl1 => ?_⟩
      have s1' : StAt (upd H1 l1 (.lst [.int 1, .int (10 ^ (20 : Int).toNat)])) p (0 + 1) := by
        obtain ⟨x, y, h⟩ := s1
        exact ⟨x, y, (Ex.new nl1) _ _ h⟩
      have npl : l1 ≠ p := by
        obtain ⟨x, y, h⟩ := s1
        exact (ne_of_none h nl1).symm
      walk_at "rd"
      refine i_draw s1' (by decide) (by decide) (by decide) (by decide) (fun r2 H2 lo2 hi2 s2 b2 => ?_)
      have eH2 : Ex H H2 := b2.ex (eH1.trans (Ex.new nl1)) nH
      have hl1 : H2 l1 = some (.lst [.int 1, .int (10 ^ (20 : Int).toNat)]) := b2.at upd_same npl
      obtain ⟨n2, hn2⟩ : ∃ n2 : Int, atI [V.int 1, V.int (10 ^ (20 : Int).toNat)] r2 = some (.int n2) := by
        obtain rfl | rfl : r2 = 0 ∨ r2 = 1 := by omega
        · exact ⟨_, rfl⟩
        · exact ⟨_, rfl⟩
      refine Rd.i_ixL (SqL.of hl1) hn2 ?_
      refine Rd.i_rI (Rd.mulL (by omega) (by omega)) ?_
      walk_at "rd"
      refine ⟨by show 2 ≤ sizeLine; decide, fun t1 nt1 => ?_⟩
      walk_at "rd"
      refine ⟨by show 2 ≤ sizeLine; decide, fun t2 nt2 => ?_⟩
      walk_at "rd"
      refine ⟨by show 0 ≤ sizeLine; decide, fun t3 nt3 => ?_⟩
      walk_at "rd"
      refine ⟨by show 6 ≤ sizeLine; decide, fun l2 nl2 => ?_⟩
      have f1 := Ex.new (o := .tup [.str "a", .int 1]) nt1
      have f2 := Ex.new (o := .tup [.ref t1, .int 2]) nt2
      have f3 := Ex.new (o := .tup []) nt3
      have f4 := Ex.new (o := .lst [.str "a", .int ((r1 - 1000) * n2), .non, .ref t2, .ref t3, .str ""]) nl2
      have d1 : Dp K (upd (upd (upd (upd H2 t1 (.tup [.str "a", .int 1])) t2 (.tup [.ref t1, .int 2])) t3 (.tup [])) l2 (.lst [.str "a", .int ((r1 - 1000) * n2), .non, .ref t2, .ref t3, .str ""])) (.ref t2) (.tuple [.tuple [.str "a", .int 1], .int 2]) :=
        .tup (st_of (f4 _ _ (f3 _ _ upd_same))) (.cons (.tup (st_of (f4 _ _ (f3 _ _ (f2 _ _ upd_same)))) (.cons (.str _) (.cons (.int _) .nil))) (.cons (.int _) .nil))
      have d2 : Dp K (upd (upd (upd (upd H2 t1 (.tup [.str "a", .int 1])) t2 (.tup [.ref t1, .int 2])) t3 (.tup [])) l2 (.lst [.str "a", .int ((r1 - 1000) * n2), .non, .ref t2, .ref t3, .str ""])) (.ref t3) (.tuple []) :=
        .tup (st_of (f4 _ _ upd_same)) .nil
      have s2' : StAt (upd (upd (upd (upd H2 t1 (.tup [.str "a", .int 1])) t2 (.tup [.ref t1, .int 2])) t3 (.tup [])) l2 (.lst [.str "a", .int ((r1 - 1000) * n2), .non, .ref t2, .ref t3, .str ""])) p (0 + 1 + 1) := by
        obtain ⟨x, y, h⟩ := s2
        exact ⟨x, y, f4 _ _ (f3 _ _ (f2 _ _ (f1 _ _ h)))⟩
      have eH3 := eH2.trans (((f1.trans f2).trans f3).trans f4)
      have np2 : l2 ≠ p := by
        obtain ⟨x, y, h⟩ := s2
        exact (ne_of_none (f3 _ _ (f2 _ _ (f1 _ _ h))) nl2).symm
      generalize hG : (upd (upd (upd (upd H2 t1 (.tup [.str "a", .int 1])) t2 (.tup [.ref t1, .int 2])) t3 (.tup [])) l2 (.lst [.str "a", .int ((r1 - 1000) * n2), .non, .ref t2, .ref t3, .str ""])) = H3 at d1 d2 s2' eH3 ⊢
      have hl2 : H3 l2 = some (.lst [.str "a", .int ((r1 - 1000) * n2), .non, .ref t2, .ref t3, .str ""]) := by rw [← hG]; exact upd_same
      walk_at "rd"
      refine i_draw s2' (by decide) (by decide) (by decide) (by decide) (fun r3 H4 lo3 hi3 s3 b3 => ?_)
      have eH4 : Ex H H4 := b3.ex eH3 nH
      -- what was known of the tuples stays: p is none of them
      have nt : ∀ b xs, H3 b = some (.tup xs) → H4 b = some (.tup xs) := fun b xs h => b3.at h (fun e => by
        obtain ⟨x, y, q⟩ := s2'
        rw [e, q] at h
        cases h)
      have hg1 : SqT K H3 t1 [.str "a", .int 1] ∧ H3 t1 = some (.tup [.str "a", .int 1]) := by
        have q : H3 t1 = some (.tup [.str "a", .int 1]) := by rw [← hG]; exact f4 _ _ (f3 _ _ (f2 _ _ upd_same))
        exact ⟨SqT.of q, q⟩
      have hg2 : H3 t2 = some (.tup [.ref t1, .int 2]) := by rw [← hG]; exact f4 _ _ (f3 _ _ upd_same)
      have hg3 : H3 t3 = some (.tup []) := by rw [← hG]; exact f4 _ _ upd_same
      obtain ⟨v, d, hv, ht⟩ : ∃ v d, atI [V.str "a", .int ((r1 - 1000) * n2), .non, .ref t2, .ref t3, .str ""] r3 = some v ∧ Thing K H4 v d := by
        obtain rfl | rfl | rfl | rfl | rfl | rfl : r3 = 0 ∨ r3 = 1 ∨ r3 = 2 ∨ r3 = 3 ∨ r3 = 4 ∨ r3 = 5 := by omega
        · exact ⟨_, .str "a", rfl, .str _, by decide +kernel, by decide +kernel⟩
        · exact ⟨_, .int ((r1 - 1000) * n2), rfl, .int _, rfl, rfl⟩
        · exact ⟨_, .none, rfl, .non, rfl, rfl⟩
        · exact ⟨_, .tuple [.tuple [.str "a", .int 1], .int 2], rfl, .tup (st_of (nt _ _ hg2)) (.cons (.tup (st_of (nt _ _ hg1.2)) (.cons (.str _) (.cons (.int _) .nil))) (.cons (.int _) .nil)), by decide +kernel, by decide +kernel⟩
        · exact ⟨_, .tuple [], rfl, .tup (st_of (nt _ _ hg3)) .nil, rfl, rfl⟩
        · exact ⟨_, .str "", rfl, .str _, by decide +kernel, by decide +kernel⟩
      refine Rd.i_ixL (SqL.of (b3.at hl2 np2)) hv ?_
      walk_at "rd"
      refine ⟨v, d, rfl, ht, fun q1 l3 a1 a2 a3 a4 H5 e5 h5 g5 k1 k2 k3 k4 => ?_⟩
      walk_at "rd"
      refine ⟨v, d, rfl, ⟨Xv.dp_mono e5 ht.dp, ht.s4, ht.s8⟩, fun q2 l4 c1 c2 c3 c4 c5 c6 c7 c8 H6 e6 h6 g6 m1 m2 m3 m4 m5 m6 m7 m8 => ?_⟩
      walk_at "rd"
      refine Rd.i_catL (xs := [.ref a1, .ref a2, .ref a3, .ref a4]) (zs := [.ref c1, .ref c2, .ref c3, .ref c4, .ref c5, .ref c6, .ref c7, .ref c8]) (e6 _ _ g5) g6 (by show 12 ≤ sizeLine; decide) (fun l5 n5 => ?_)
      walk_at "rd"
      refine Xv.i_mkV0 (fun o1 H7 no1 e7 w1 => ?_)
      walk_at "rd"
      refine Xv.i_mkV0 (fun o2 H8 no2 e8 w2 => ?_)
      walk_at "rd"
      refine ⟨by show 2 ≤ sizeLine; decide, fun l6 n6 => ?_⟩
      walk_at "rd"
      have e9 := Ex.new (o := .lst [.ref o1, .ref o2]) n6
      refine Rd.i_catL (xs := [.ref a1, .ref a2, .ref a3, .ref a4, .ref c1, .ref c2, .ref c3, .ref c4, .ref c5, .ref c6, .ref c7, .ref c8]) (zs := [.ref o1, .ref o2]) (e9 _ _ (e8 _ _ (e7 _ _ upd_same))) upd_same (by show 14 ≤ sizeLine; decide) (fun l7 n7 => ?_)
      walk_at "rd"
      refine Rd.ite_F ?_
      walk_at "rd"
      refine Rd.ite_F ?_
      walk_at "rd"
      have e5' := Ex.new (o := .lst [.ref a1, .ref a2, .ref a3, .ref a4, .ref c1, .ref c2, .ref c3, .ref c4, .ref c5, .ref c6, .ref c7, .ref c8]) n5
      have e10 := Ex.new (o := .lst [.ref a1, .ref a2, .ref a3, .ref a4, .ref c1, .ref c2, .ref c3, .ref c4, .ref c5, .ref c6, .ref c7, .ref c8, .ref o1, .ref o2]) n7
      have hl7 : (upd (upd (upd H8 l6 (.lst [.ref o1, .ref o2])) l7 (.lst [.ref a1, .ref a2, .ref a3, .ref a4, .ref c1, .ref c2, .ref c3, .ref c4, .ref c5, .ref c6, .ref c7, .ref c8, .ref o1, .ref o2])) l7 (.lst [.ref a1, .ref a2, .ref a3, .ref a4, .ref c1, .ref c2, .ref c3, .ref c4, .ref c5, .ref c6, .ref c7, .ref c8, .ref o1, .ref o2])) = upd (upd H8 l6 (.lst [.ref o1, .ref o2])) l7 (.lst [.ref a1, .ref a2, .ref a3, .ref a4, .ref c1, .ref c2, .ref c3, .ref c4, .ref c5, .ref c6, .ref c7, .ref c8, .ref o1, .ref o2]) := upd_upd
      have w5 := ((e5'.trans e7).trans e8).trans (e9.trans e10)
      have w7 := e8.trans (e9.trans e10)
      have w8 := e9.trans e10
      have key : ∀ j : _root_.Fin 14, ∃ x, [V.ref a1, .ref a2, .ref a3, .ref a4, .ref c1, .ref c2, .ref c3, .ref c4, .ref c5, .ref c6, .ref c7, .ref c8, .ref o1, .ref o2][j.1]? = some x ∧ Xv.Ek (upd (upd H8 l6 (.lst [.ref o1, .ref o2])) l7 (.lst [.ref a1, .ref a2, .ref a3, .ref a4, .ref c1, .ref c2, .ref c3, .ref c4, .ref c5, .ref c6, .ref c7, .ref c8, .ref o1, .ref o2])) x (T.cs[j.1]'j.2) := by
        rintro ⟨j, hj⟩
        rcases j with _ | _ | _ | _ | _ | _ | _ | _ | _ | _ | _ | _ | _ | _ | j
        · exact ⟨_, rfl, (k1.mono e6).mono w5⟩
        · exact ⟨_, rfl, (k2.mono e6).mono w5⟩
        · exact ⟨_, rfl, (k3.mono e6).mono w5⟩
        · exact ⟨_, rfl, (k4.mono e6).mono w5⟩
        · exact ⟨_, rfl, m1.mono w5⟩
        · exact ⟨_, rfl, m2.mono w5⟩
        · exact ⟨_, rfl, m3.mono w5⟩
        · exact ⟨_, rfl, m4.mono w5⟩
        · exact ⟨_, rfl, m5.mono w5⟩
        · exact ⟨_, rfl, m6.mono w5⟩
        · exact ⟨_, rfl, m7.mono w5⟩
        · exact ⟨_, rfl, m8.mono w5⟩
        · exact ⟨_, rfl, w1.mono w7⟩
        · exact ⟨_, rfl, w2.mono w8⟩
        · exact absurd hj (by omega)
      have eFin : Ex H (upd (upd H8 l6 (.lst [.ref o1, .ref o2])) l7 (.lst [.ref a1, .ref a2, .ref a3, .ref a4, .ref c1, .ref c2, .ref c3, .ref c4, .ref c5, .ref c6, .ref c7, .ref c8, .ref o1, .ref o2])) := (eH4.trans (e5.trans e6)).trans w5
      refine Evl.s_forR1 (n := 14) (fun H9 e11 Q1 q1 => ?_) ⟨by decide, by decide⟩
        (fun i σ H9 => Ex (upd (upd H8 l6 (.lst [.ref o1, .ref o2])) l7 (.lst [.ref a1, .ref a2, .ref a3, .ref a4, .ref c1, .ref c2, .ref c3, .ref c4, .ref c5, .ref c6, .ref c7, .ref c8, .ref o1, .ref o2])) H9 ∧ ∃ v1 v2 v3 v4 v5 v6 v7 v8 v10 v11 : Option V, σ = [some (.ref a), v1, v2, v3, v4, v5, v6, v7, v8, some (.ref l7), v10, v11])
        (fun H9 e11 => ⟨e11, _, _, _, _, _, _, _, _, _, _, rfl⟩) (fun i σ H9 hi hP => ?_) (fun σ H9 hP => ?_)
      · walk_at "rd"
        refine Rd.i_len (sq_of (e11 _ _ upd_same)) ?_
        walk_at "rd"
        exact q1 H9 (Ex.refl _)
      · obtain ⟨e11, v1, v2, v3, v4, v5, v6, v7, v8, v10, v11, rfl⟩ := hP
        have hi14 : i < 14 := by omega
        obtain ⟨x, hx, hk⟩ := key ⟨i, hi14⟩
        have hk9 := hk.mono e11
        walk_at "rd"
        refine Rd.i_ixL (sq_of (e11 _ _ upd_same)) (atI_nat hx) ?_
        walk_at "rd"
        refine ⟨x, ⟨i, hi14⟩, rfl, hk9, T.xcs ⟨i, hi14⟩, fun pk Hk ek hpk => ?_⟩
        refine Evl.el_lcR1 (n := 14) (fun _ => true) (fun j => .bl (decide (V.int (j : Int) = V.int (i : Int)))) (ea_cons ev_c ea_nil) ⟨by decide, by decide⟩ (fun x => rfl) (fun _ _ _ _ => Xv.et_yes) (fun j _ _ _ _ => ev_op (ev_var rfl) (ev_var rfl) (rv_eq rfl)) _ (Ex.refl _) _ (fun pc Hc nc ec hc => ?_)
        have hh : Hc pc = some (.lst ([decide ((⟨i, hi14⟩ : _root_.Fin 14) = 0), decide ((⟨i, hi14⟩ : _root_.Fin 14) = 1), decide ((⟨i, hi14⟩ : _root_.Fin 14) = 2), decide ((⟨i, hi14⟩ : _root_.Fin 14) = 3), decide ((⟨i, hi14⟩ : _root_.Fin 14) = 4), decide ((⟨i, hi14⟩ : _root_.Fin 14) = 5), decide ((⟨i, hi14⟩ : _root_.Fin 14) = 6), decide ((⟨i, hi14⟩ : _root_.Fin 14) = 7), decide ((⟨i, hi14⟩ : _root_.Fin 14) = 8), decide ((⟨i, hi14⟩ : _root_.Fin 14) = 9), decide ((⟨i, hi14⟩ : _root_.Fin 14) = 10), decide ((⟨i, hi14⟩ : _root_.Fin 14) = 11), decide ((⟨i, hi14⟩ : _root_.Fin 14) = 12), decide ((⟨i, hi14⟩ : _root_.Fin 14) = 13)].map V.bl)) := by
          rw [hc]
          clear hk9 hk hx hc hpk
          rcases i with _ | _ | _ | _ | _ | _ | _ | _ | _ | _ | _ | _ | _ | _ | i
          · rfl
          · rfl
          · rfl
          · rfl
          · rfl
          · rfl
          · rfl
          · rfl
          · rfl
          · rfl
          · rfl
          · rfl
          · rfl
          · rfl
          · omega
        refine Xv.i_neSame (d := .list ([decide ((⟨i, hi14⟩ : _root_.Fin 14) = 0), decide ((⟨i, hi14⟩ : _root_.Fin 14) = 1), decide ((⟨i, hi14⟩ : _root_.Fin 14) = 2), decide ((⟨i, hi14⟩ : _root_.Fin 14) = 3), decide ((⟨i, hi14⟩ : _root_.Fin 14) = 4), decide ((⟨i, hi14⟩ : _root_.Fin 14) = 5), decide ((⟨i, hi14⟩ : _root_.Fin 14) = 6), decide ((⟨i, hi14⟩ : _root_.Fin 14) = 7), decide ((⟨i, hi14⟩ : _root_.Fin 14) = 8), decide ((⟨i, hi14⟩ : _root_.Fin 14) = 9), decide ((⟨i, hi14⟩ : _root_.Fin 14) = 10), decide ((⟨i, hi14⟩ : _root_.Fin 14) = 11), decide ((⟨i, hi14⟩ : _root_.Fin 14) = 12), decide ((⟨i, hi14⟩ : _root_.Fin 14) = 13)].map PyData.bool)) (.lst (sq_of (ec _ _ hpk)) (Xv.dp_bools _)) (.lst (sq_of hh) (Xv.dp_bools _)) (by rfl) ?_
        walk_at "rd"
        refine Rd.ite_F ?_
        walk_at "rd"
        have e12 := (e11.trans ek).trans ec
        refine Rd.i_ixL (sq_of (e12 _ _ upd_same)) (atI_nat hx) ?_
        walk_at "rd"
        refine Xv.i_isX (T.xcs ⟨i, hi14⟩) (hk.mono e12) (T.kitS ⟨i, hi14⟩) ?_
        walk_at "rd"
        refine Rd.ite_F ?_
        walk_at "rd"
        refine Rd.i_ixL (sq_of (e12 _ _ upd_same)) (atI_nat hx) ?_
        walk_at "rd"
        refine Xv.i_isXty (T.xcs ⟨i, hi14⟩) (hk.mono e12) (T.kitV ⟨i, hi14⟩) ?_
        walk_at "rd"
        refine Rd.ite_F ?_
        walk_at "rd"
        exact ⟨e12, _, _, _, _, _, _, _, _, _, _, rfl⟩
      · obtain ⟨e11, v1, v2, v3, v4, v5, v6, v7, v8, v10, v11, rfl⟩ := hP
        walk_at "rd"
        exact ⟨eFin.trans e11, _, _, _, _, _, _, _, _, _, _, _, rfl⟩

    · obtain ⟨eH, u1, u2, u3, u4, u5, u6, u7, u8, u9, u10, u11, rfl⟩ := hP
      walk_at "rd"
      exact k _
end
end K71

namespace K71
open PySem L2
theorem all_mk {l : PySem.W.OpenLaw} {w : World} {K : PySem.W.Frag} {h : Heap} {mg : Str → Option Value} {fa : Addr} (X : K.In h) (G : h.Ns mainGlobals mg) (hfa : mg "law" = some (.ref fa)) {C_SplitError C_BadReader f_BadReader C_BadRing f_BadRing C_BadBegin f_BadBegin C_NoReader f_NoReader C_TooMany f_TooMany C_BadCount f_BadCount C_NoLine f_NoLine C_BadText f_BadText C_BadCell f_BadCell C_NoCell f_NoCell C_BadBound f_BadBound C_NoRule f_NoRule C_TooGreat C_NothingToUndo f_law_state f_law_draw f_law_cell f_law_numbered f_law_others f_law_kinds f_law : Addr} {od_BadReader an_BadReader od_BadRing an_BadRing od_BadBegin an_BadBegin od_NoReader an_NoReader od_TooMany an_TooMany od_BadCount an_BadCount od_NoLine an_NoLine od_BadText an_BadText od_BadCell an_BadCell od_NoCell an_NoCell od_BadBound an_BadBound od_NoRule an_NoRule od_law_state an_law_state od_law_draw an_law_draw od_law_cell an_law_cell od_law_numbered an_law_numbered od_law_others an_law_others od_law_kinds an_law_kinds od_law an_law : Option Addr} {oc_BadReader kV_BadReader dc_BadReader pm_BadReader cd_BadReader ct_BadReader oc_BadRing kV_BadRing dc_BadRing pm_BadRing cd_BadRing ct_BadRing oc_BadBegin kV_BadBegin dc_BadBegin pm_BadBegin cd_BadBegin ct_BadBegin oc_NoReader kV_NoReader dc_NoReader pm_NoReader cd_NoReader ct_NoReader oc_TooMany kV_TooMany dc_TooMany pm_TooMany cd_TooMany ct_TooMany oc_BadCount kV_BadCount dc_BadCount pm_BadCount cd_BadCount ct_BadCount oc_NoLine kV_NoLine dc_NoLine pm_NoLine cd_NoLine ct_NoLine oc_BadText kV_BadText dc_BadText pm_BadText cd_BadText ct_BadText oc_BadCell kV_BadCell dc_BadCell pm_BadCell cd_BadCell ct_BadCell oc_NoCell kV_NoCell dc_NoCell pm_NoCell cd_NoCell ct_NoCell oc_BadBound kV_BadBound dc_BadBound pm_BadBound cd_BadBound ct_BadBound oc_NoRule kV_NoRule dc_NoRule pm_NoRule cd_NoRule ct_NoRule oc_law_state kV_law_state dc_law_state pm_law_state cd_law_state ct_law_state oc_law_draw kV_law_draw dc_law_draw pm_law_draw cd_law_draw ct_law_draw oc_law_cell kV_law_cell dc_law_cell pm_law_cell cd_law_cell ct_law_cell oc_law_numbered kV_law_numbered dc_law_numbered pm_law_numbered cd_law_numbered ct_law_numbered oc_law_others kV_law_others dc_law_others pm_law_others cd_law_others ct_law_others oc_law_kinds kV_law_kinds dc_law_kinds pm_law_kinds cd_law_kinds ct_law_kinds oc_law kV_law dc_law pm_law cd_law ct_law : Value} {sl_BadReader sl_BadRing sl_BadBegin sl_NoReader sl_TooMany sl_BadCount sl_NoLine sl_BadText sl_BadCell sl_NoCell sl_BadBound sl_NoRule sl_law_state sl_law_draw sl_law_cell sl_law_numbered sl_law_others sl_law_kinds sl_law : Array (Option Value)} {nm_BadReader q_BadReader N_BadReader bs_BadReader bm_BadReader sn_BadReader sub_BadReader ab_BadReader col_BadReader dd_BadReader k0_BadReader k1_BadReader k2_BadReader k3_BadReader k5_BadReader} {nm_BadRing q_BadRing N_BadRing bs_BadRing bm_BadRing sn_BadRing sub_BadRing ab_BadRing col_BadRing dd_BadRing k0_BadRing k1_BadRing k2_BadRing k3_BadRing k5_BadRing} {nm_BadBegin q_BadBegin N_BadBegin bs_BadBegin bm_BadBegin sn_BadBegin sub_BadBegin ab_BadBegin col_BadBegin dd_BadBegin k0_BadBegin k1_BadBegin k2_BadBegin k3_BadBegin k5_BadBegin} {nm_NoReader q_NoReader N_NoReader bs_NoReader bm_NoReader sn_NoReader sub_NoReader ab_NoReader col_NoReader dd_NoReader k0_NoReader k1_NoReader k2_NoReader k3_NoReader k5_NoReader} {nm_TooMany q_TooMany N_TooMany bs_TooMany bm_TooMany sn_TooMany sub_TooMany ab_TooMany col_TooMany dd_TooMany k0_TooMany k1_TooMany k2_TooMany k3_TooMany k5_TooMany} {nm_BadCount q_BadCount N_BadCount bs_BadCount bm_BadCount sn_BadCount sub_BadCount ab_BadCount col_BadCount dd_BadCount k0_BadCount k1_BadCount k2_BadCount k3_BadCount k5_BadCount} {nm_NoLine q_NoLine N_NoLine bs_NoLine bm_NoLine sn_NoLine sub_NoLine ab_NoLine col_NoLine dd_NoLine k0_NoLine k1_NoLine k2_NoLine k3_NoLine k5_NoLine} {nm_BadText q_BadText N_BadText bs_BadText bm_BadText sn_BadText sub_BadText ab_BadText col_BadText dd_BadText k0_BadText k1_BadText k2_BadText k3_BadText k5_BadText} {nm_BadCell q_BadCell N_BadCell bs_BadCell bm_BadCell sn_BadCell sub_BadCell ab_BadCell col_BadCell dd_BadCell k0_BadCell k1_BadCell k2_BadCell k3_BadCell k5_BadCell} {nm_NoCell q_NoCell N_NoCell bs_NoCell bm_NoCell sn_NoCell sub_NoCell ab_NoCell col_NoCell dd_NoCell k0_NoCell k1_NoCell k2_NoCell k3_NoCell k5_NoCell} {nm_BadBound q_BadBound N_BadBound bs_BadBound bm_BadBound sn_BadBound sub_BadBound ab_BadBound col_BadBound dd_BadBound k0_BadBound k1_BadBound k2_BadBound k3_BadBound k5_BadBound} {nm_NoRule q_NoRule N_NoRule bs_NoRule bm_NoRule sn_NoRule sub_NoRule ab_NoRule col_NoRule dd_NoRule k0_NoRule k1_NoRule k2_NoRule k3_NoRule k5_NoRule}
    (g_SplitError : PySem.W.nsIn K mainGlobals "SplitError" = some (some (.ref C_SplitError)))
    (g_BadReader : PySem.W.nsIn K mainGlobals "BadReader" = some (some (.ref C_BadReader)))
    (a_BadReader : PySem.W.findIn K (.ref C_BadReader) "__init__" = some (some (.ref f_BadReader)))
    (l_BadReader : K.lookup f_BadReader = some ⟨oc_BadReader, od_BadReader, .func (PySem.W.fnOf "__init__" "BadReader.__init__" (defArgs s_BadReader___init) (defBody s_BadReader___init) (defScope s_BadReader___init) .none kV_BadReader dc_BadReader pm_BadReader an_BadReader cd_BadReader ct_BadReader), sl_BadReader⟩)
    (c_BadReader : PySem.W.codeIn K cd_BadReader "BadReader.__init__" = true)
    (k_BadReader : PySem.W.keepIn K (.ref f_BadReader) = true)
    (t_BadReader : PySem.W.typeIn K (.ref f_BadReader) = some (.type "function"))
    (L_BadReader : K.lookup C_BadReader = some (excClassObj nm_BadReader q_BadReader C_BadReader N_BadReader bs_BadReader bm_BadReader true sn_BadReader sub_BadReader ab_BadReader col_BadReader dd_BadReader k0_BadReader k1_BadReader k2_BadReader k3_BadReader k5_BadReader "ValueError.__new__"))
    (R_BadReader : PySem.HandSPX.refsVE bm_BadReader = true)
    (sa_BadReader : PySem.W.findIn K (.ref C_BadReader) "__setattr__" = some (some (.builtin "object.__setattr__")))
    (ty_BadReader : PySem.W.typeIn K (.ref C_BadReader) = some (.type "type"))
    (no_BadReader : PySem.W.findIn K (.ref C_BadReader) "number" = some none)
    (ga_BadReader : PySem.W.findIn K (.ref C_BadReader) "__getattribute__" = some (some (.builtin "BaseException.__getattribute__")))
    (gg_BadReader : PySem.W.findIn K (.ref C_BadReader) "__getattr__" = some none)
    (ex_BadReader : PySem.W.subIn K (.ref C_BadReader) (.type "BaseException") = some true)
    (hd_BadReader : PySem.W.hasDictIn K C_BadReader = true)
    (cl_BadReader : PySem.W.findIn K (.ref C_BadReader) "__class__" = some (some (.builtin "object.__class__")))
    (mo_BadReader : PySem.W.mroIn K C_BadReader (.type "object") = some true)
    (kc_BadReader : PySem.W.keepIn K (.ref C_BadReader) = true)
    (g_BadRing : PySem.W.nsIn K mainGlobals "BadRing" = some (some (.ref C_BadRing)))
    (a_BadRing : PySem.W.findIn K (.ref C_BadRing) "__init__" = some (some (.ref f_BadRing)))
    (l_BadRing : K.lookup f_BadRing = some ⟨oc_BadRing, od_BadRing, .func (PySem.W.fnOf "__init__" "BadRing.__init__" (defArgs s_BadRing___init) (defBody s_BadRing___init) (defScope s_BadRing___init) .none kV_BadRing dc_BadRing pm_BadRing an_BadRing cd_BadRing ct_BadRing), sl_BadRing⟩)
    (c_BadRing : PySem.W.codeIn K cd_BadRing "BadRing.__init__" = true)
    (k_BadRing : PySem.W.keepIn K (.ref f_BadRing) = true)
    (t_BadRing : PySem.W.typeIn K (.ref f_BadRing) = some (.type "function"))
    (L_BadRing : K.lookup C_BadRing = some (excClassObj nm_BadRing q_BadRing C_BadRing N_BadRing bs_BadRing bm_BadRing true sn_BadRing sub_BadRing ab_BadRing col_BadRing dd_BadRing k0_BadRing k1_BadRing k2_BadRing k3_BadRing k5_BadRing "ValueError.__new__"))
    (R_BadRing : PySem.HandSPX.refsVE bm_BadRing = true)
    (sa_BadRing : PySem.W.findIn K (.ref C_BadRing) "__setattr__" = some (some (.builtin "object.__setattr__")))
    (ty_BadRing : PySem.W.typeIn K (.ref C_BadRing) = some (.type "type"))
    (no_BadRing : PySem.W.findIn K (.ref C_BadRing) "number" = some none)
    (ga_BadRing : PySem.W.findIn K (.ref C_BadRing) "__getattribute__" = some (some (.builtin "BaseException.__getattribute__")))
    (gg_BadRing : PySem.W.findIn K (.ref C_BadRing) "__getattr__" = some none)
    (ex_BadRing : PySem.W.subIn K (.ref C_BadRing) (.type "BaseException") = some true)
    (hd_BadRing : PySem.W.hasDictIn K C_BadRing = true)
    (cl_BadRing : PySem.W.findIn K (.ref C_BadRing) "__class__" = some (some (.builtin "object.__class__")))
    (mo_BadRing : PySem.W.mroIn K C_BadRing (.type "object") = some true)
    (kc_BadRing : PySem.W.keepIn K (.ref C_BadRing) = true)
    (g_BadBegin : PySem.W.nsIn K mainGlobals "BadBegin" = some (some (.ref C_BadBegin)))
    (a_BadBegin : PySem.W.findIn K (.ref C_BadBegin) "__init__" = some (some (.ref f_BadBegin)))
    (l_BadBegin : K.lookup f_BadBegin = some ⟨oc_BadBegin, od_BadBegin, .func (PySem.W.fnOf "__init__" "BadBegin.__init__" (defArgs s_BadBegin___init) (defBody s_BadBegin___init) (defScope s_BadBegin___init) .none kV_BadBegin dc_BadBegin pm_BadBegin an_BadBegin cd_BadBegin ct_BadBegin), sl_BadBegin⟩)
    (c_BadBegin : PySem.W.codeIn K cd_BadBegin "BadBegin.__init__" = true)
    (k_BadBegin : PySem.W.keepIn K (.ref f_BadBegin) = true)
    (t_BadBegin : PySem.W.typeIn K (.ref f_BadBegin) = some (.type "function"))
    (L_BadBegin : K.lookup C_BadBegin = some (excClassObj nm_BadBegin q_BadBegin C_BadBegin N_BadBegin bs_BadBegin bm_BadBegin true sn_BadBegin sub_BadBegin ab_BadBegin col_BadBegin dd_BadBegin k0_BadBegin k1_BadBegin k2_BadBegin k3_BadBegin k5_BadBegin "ValueError.__new__"))
    (R_BadBegin : PySem.HandSPX.refsVE bm_BadBegin = true)
    (sa_BadBegin : PySem.W.findIn K (.ref C_BadBegin) "__setattr__" = some (some (.builtin "object.__setattr__")))
    (ty_BadBegin : PySem.W.typeIn K (.ref C_BadBegin) = some (.type "type"))
    (no_BadBegin : PySem.W.findIn K (.ref C_BadBegin) "number" = some none)
    (ga_BadBegin : PySem.W.findIn K (.ref C_BadBegin) "__getattribute__" = some (some (.builtin "BaseException.__getattribute__")))
    (gg_BadBegin : PySem.W.findIn K (.ref C_BadBegin) "__getattr__" = some none)
    (ex_BadBegin : PySem.W.subIn K (.ref C_BadBegin) (.type "BaseException") = some true)
    (hd_BadBegin : PySem.W.hasDictIn K C_BadBegin = true)
    (cl_BadBegin : PySem.W.findIn K (.ref C_BadBegin) "__class__" = some (some (.builtin "object.__class__")))
    (mo_BadBegin : PySem.W.mroIn K C_BadBegin (.type "object") = some true)
    (kc_BadBegin : PySem.W.keepIn K (.ref C_BadBegin) = true)
    (g_NoReader : PySem.W.nsIn K mainGlobals "NoReader" = some (some (.ref C_NoReader)))
    (a_NoReader : PySem.W.findIn K (.ref C_NoReader) "__init__" = some (some (.ref f_NoReader)))
    (l_NoReader : K.lookup f_NoReader = some ⟨oc_NoReader, od_NoReader, .func (PySem.W.fnOf "__init__" "NoReader.__init__" (defArgs s_NoReader___init) (defBody s_NoReader___init) (defScope s_NoReader___init) .none kV_NoReader dc_NoReader pm_NoReader an_NoReader cd_NoReader ct_NoReader), sl_NoReader⟩)
    (c_NoReader : PySem.W.codeIn K cd_NoReader "NoReader.__init__" = true)
    (k_NoReader : PySem.W.keepIn K (.ref f_NoReader) = true)
    (t_NoReader : PySem.W.typeIn K (.ref f_NoReader) = some (.type "function"))
    (L_NoReader : K.lookup C_NoReader = some (excClassObj nm_NoReader q_NoReader C_NoReader N_NoReader bs_NoReader bm_NoReader true sn_NoReader sub_NoReader ab_NoReader col_NoReader dd_NoReader k0_NoReader k1_NoReader k2_NoReader k3_NoReader k5_NoReader "ValueError.__new__"))
    (R_NoReader : PySem.HandSPX.refsVE bm_NoReader = true)
    (sa_NoReader : PySem.W.findIn K (.ref C_NoReader) "__setattr__" = some (some (.builtin "object.__setattr__")))
    (ty_NoReader : PySem.W.typeIn K (.ref C_NoReader) = some (.type "type"))
    (no_NoReader : PySem.W.findIn K (.ref C_NoReader) "number" = some none)
    (ga_NoReader : PySem.W.findIn K (.ref C_NoReader) "__getattribute__" = some (some (.builtin "BaseException.__getattribute__")))
    (gg_NoReader : PySem.W.findIn K (.ref C_NoReader) "__getattr__" = some none)
    (ex_NoReader : PySem.W.subIn K (.ref C_NoReader) (.type "BaseException") = some true)
    (hd_NoReader : PySem.W.hasDictIn K C_NoReader = true)
    (cl_NoReader : PySem.W.findIn K (.ref C_NoReader) "__class__" = some (some (.builtin "object.__class__")))
    (mo_NoReader : PySem.W.mroIn K C_NoReader (.type "object") = some true)
    (kc_NoReader : PySem.W.keepIn K (.ref C_NoReader) = true)
    (g_TooMany : PySem.W.nsIn K mainGlobals "TooMany" = some (some (.ref C_TooMany)))
    (a_TooMany : PySem.W.findIn K (.ref C_TooMany) "__init__" = some (some (.ref f_TooMany)))
    (l_TooMany : K.lookup f_TooMany = some ⟨oc_TooMany, od_TooMany, .func (PySem.W.fnOf "__init__" "TooMany.__init__" (defArgs s_TooMany___init) (defBody s_TooMany___init) (defScope s_TooMany___init) .none kV_TooMany dc_TooMany pm_TooMany an_TooMany cd_TooMany ct_TooMany), sl_TooMany⟩)
    (c_TooMany : PySem.W.codeIn K cd_TooMany "TooMany.__init__" = true)
    (k_TooMany : PySem.W.keepIn K (.ref f_TooMany) = true)
    (t_TooMany : PySem.W.typeIn K (.ref f_TooMany) = some (.type "function"))
    (L_TooMany : K.lookup C_TooMany = some (excClassObj nm_TooMany q_TooMany C_TooMany N_TooMany bs_TooMany bm_TooMany true sn_TooMany sub_TooMany ab_TooMany col_TooMany dd_TooMany k0_TooMany k1_TooMany k2_TooMany k3_TooMany k5_TooMany "ValueError.__new__"))
    (R_TooMany : PySem.HandSPX.refsVE bm_TooMany = true)
    (sa_TooMany : PySem.W.findIn K (.ref C_TooMany) "__setattr__" = some (some (.builtin "object.__setattr__")))
    (ty_TooMany : PySem.W.typeIn K (.ref C_TooMany) = some (.type "type"))
    (no_TooMany : PySem.W.findIn K (.ref C_TooMany) "count" = some none)
    (ga_TooMany : PySem.W.findIn K (.ref C_TooMany) "__getattribute__" = some (some (.builtin "BaseException.__getattribute__")))
    (gg_TooMany : PySem.W.findIn K (.ref C_TooMany) "__getattr__" = some none)
    (ex_TooMany : PySem.W.subIn K (.ref C_TooMany) (.type "BaseException") = some true)
    (hd_TooMany : PySem.W.hasDictIn K C_TooMany = true)
    (cl_TooMany : PySem.W.findIn K (.ref C_TooMany) "__class__" = some (some (.builtin "object.__class__")))
    (mo_TooMany : PySem.W.mroIn K C_TooMany (.type "object") = some true)
    (kc_TooMany : PySem.W.keepIn K (.ref C_TooMany) = true)
    (g_BadCount : PySem.W.nsIn K mainGlobals "BadCount" = some (some (.ref C_BadCount)))
    (a_BadCount : PySem.W.findIn K (.ref C_BadCount) "__init__" = some (some (.ref f_BadCount)))
    (l_BadCount : K.lookup f_BadCount = some ⟨oc_BadCount, od_BadCount, .func (PySem.W.fnOf "__init__" "BadCount.__init__" (defArgs s_BadCount___init) (defBody s_BadCount___init) (defScope s_BadCount___init) .none kV_BadCount dc_BadCount pm_BadCount an_BadCount cd_BadCount ct_BadCount), sl_BadCount⟩)
    (c_BadCount : PySem.W.codeIn K cd_BadCount "BadCount.__init__" = true)
    (k_BadCount : PySem.W.keepIn K (.ref f_BadCount) = true)
    (t_BadCount : PySem.W.typeIn K (.ref f_BadCount) = some (.type "function"))
    (L_BadCount : K.lookup C_BadCount = some (excClassObj nm_BadCount q_BadCount C_BadCount N_BadCount bs_BadCount bm_BadCount true sn_BadCount sub_BadCount ab_BadCount col_BadCount dd_BadCount k0_BadCount k1_BadCount k2_BadCount k3_BadCount k5_BadCount "ValueError.__new__"))
    (R_BadCount : PySem.HandSPX.refsVE bm_BadCount = true)
    (sa_BadCount : PySem.W.findIn K (.ref C_BadCount) "__setattr__" = some (some (.builtin "object.__setattr__")))
    (ty_BadCount : PySem.W.typeIn K (.ref C_BadCount) = some (.type "type"))
    (no_BadCount : PySem.W.findIn K (.ref C_BadCount) "count" = some none)
    (ga_BadCount : PySem.W.findIn K (.ref C_BadCount) "__getattribute__" = some (some (.builtin "BaseException.__getattribute__")))
    (gg_BadCount : PySem.W.findIn K (.ref C_BadCount) "__getattr__" = some none)
    (ex_BadCount : PySem.W.subIn K (.ref C_BadCount) (.type "BaseException") = some true)
    (hd_BadCount : PySem.W.hasDictIn K C_BadCount = true)
    (cl_BadCount : PySem.W.findIn K (.ref C_BadCount) "__class__" = some (some (.builtin "object.__class__")))
    (mo_BadCount : PySem.W.mroIn K C_BadCount (.type "object") = some true)
    (kc_BadCount : PySem.W.keepIn K (.ref C_BadCount) = true)
    (g_NoLine : PySem.W.nsIn K mainGlobals "NoLine" = some (some (.ref C_NoLine)))
    (a_NoLine : PySem.W.findIn K (.ref C_NoLine) "__init__" = some (some (.ref f_NoLine)))
    (l_NoLine : K.lookup f_NoLine = some ⟨oc_NoLine, od_NoLine, .func (PySem.W.fnOf "__init__" "NoLine.__init__" (defArgs s_NoLine___init) (defBody s_NoLine___init) (defScope s_NoLine___init) .none kV_NoLine dc_NoLine pm_NoLine an_NoLine cd_NoLine ct_NoLine), sl_NoLine⟩)
    (c_NoLine : PySem.W.codeIn K cd_NoLine "NoLine.__init__" = true)
    (k_NoLine : PySem.W.keepIn K (.ref f_NoLine) = true)
    (t_NoLine : PySem.W.typeIn K (.ref f_NoLine) = some (.type "function"))
    (L_NoLine : K.lookup C_NoLine = some (excClassObj nm_NoLine q_NoLine C_NoLine N_NoLine bs_NoLine bm_NoLine true sn_NoLine sub_NoLine ab_NoLine col_NoLine dd_NoLine k0_NoLine k1_NoLine k2_NoLine k3_NoLine k5_NoLine "ValueError.__new__"))
    (R_NoLine : PySem.HandSPX.refsVE bm_NoLine = true)
    (sa_NoLine : PySem.W.findIn K (.ref C_NoLine) "__setattr__" = some (some (.builtin "object.__setattr__")))
    (ty_NoLine : PySem.W.typeIn K (.ref C_NoLine) = some (.type "type"))
    (no_NoLine : PySem.W.findIn K (.ref C_NoLine) "name" = some none)
    (ga_NoLine : PySem.W.findIn K (.ref C_NoLine) "__getattribute__" = some (some (.builtin "BaseException.__getattribute__")))
    (gg_NoLine : PySem.W.findIn K (.ref C_NoLine) "__getattr__" = some none)
    (ex_NoLine : PySem.W.subIn K (.ref C_NoLine) (.type "BaseException") = some true)
    (hd_NoLine : PySem.W.hasDictIn K C_NoLine = true)
    (cl_NoLine : PySem.W.findIn K (.ref C_NoLine) "__class__" = some (some (.builtin "object.__class__")))
    (mo_NoLine : PySem.W.mroIn K C_NoLine (.type "object") = some true)
    (kc_NoLine : PySem.W.keepIn K (.ref C_NoLine) = true)
    (g_BadText : PySem.W.nsIn K mainGlobals "BadText" = some (some (.ref C_BadText)))
    (a_BadText : PySem.W.findIn K (.ref C_BadText) "__init__" = some (some (.ref f_BadText)))
    (l_BadText : K.lookup f_BadText = some ⟨oc_BadText, od_BadText, .func (PySem.W.fnOf "__init__" "BadText.__init__" (defArgs s_BadText___init) (defBody s_BadText___init) (defScope s_BadText___init) .none kV_BadText dc_BadText pm_BadText an_BadText cd_BadText ct_BadText), sl_BadText⟩)
    (c_BadText : PySem.W.codeIn K cd_BadText "BadText.__init__" = true)
    (k_BadText : PySem.W.keepIn K (.ref f_BadText) = true)
    (t_BadText : PySem.W.typeIn K (.ref f_BadText) = some (.type "function"))
    (L_BadText : K.lookup C_BadText = some (excClassObj nm_BadText q_BadText C_BadText N_BadText bs_BadText bm_BadText true sn_BadText sub_BadText ab_BadText col_BadText dd_BadText k0_BadText k1_BadText k2_BadText k3_BadText k5_BadText "ValueError.__new__"))
    (R_BadText : PySem.HandSPX.refsVE bm_BadText = true)
    (sa_BadText : PySem.W.findIn K (.ref C_BadText) "__setattr__" = some (some (.builtin "object.__setattr__")))
    (ty_BadText : PySem.W.typeIn K (.ref C_BadText) = some (.type "type"))
    (no_BadText : PySem.W.findIn K (.ref C_BadText) "line" = some none)
    (ga_BadText : PySem.W.findIn K (.ref C_BadText) "__getattribute__" = some (some (.builtin "BaseException.__getattribute__")))
    (gg_BadText : PySem.W.findIn K (.ref C_BadText) "__getattr__" = some none)
    (ex_BadText : PySem.W.subIn K (.ref C_BadText) (.type "BaseException") = some true)
    (hd_BadText : PySem.W.hasDictIn K C_BadText = true)
    (cl_BadText : PySem.W.findIn K (.ref C_BadText) "__class__" = some (some (.builtin "object.__class__")))
    (mo_BadText : PySem.W.mroIn K C_BadText (.type "object") = some true)
    (kc_BadText : PySem.W.keepIn K (.ref C_BadText) = true)
    (g_BadCell : PySem.W.nsIn K mainGlobals "BadCell" = some (some (.ref C_BadCell)))
    (a_BadCell : PySem.W.findIn K (.ref C_BadCell) "__init__" = some (some (.ref f_BadCell)))
    (l_BadCell : K.lookup f_BadCell = some ⟨oc_BadCell, od_BadCell, .func (PySem.W.fnOf "__init__" "BadCell.__init__" (defArgs s_BadCell___init) (defBody s_BadCell___init) (defScope s_BadCell___init) .none kV_BadCell dc_BadCell pm_BadCell an_BadCell cd_BadCell ct_BadCell), sl_BadCell⟩)
    (c_BadCell : PySem.W.codeIn K cd_BadCell "BadCell.__init__" = true)
    (k_BadCell : PySem.W.keepIn K (.ref f_BadCell) = true)
    (t_BadCell : PySem.W.typeIn K (.ref f_BadCell) = some (.type "function"))
    (L_BadCell : K.lookup C_BadCell = some (excClassObj nm_BadCell q_BadCell C_BadCell N_BadCell bs_BadCell bm_BadCell true sn_BadCell sub_BadCell ab_BadCell col_BadCell dd_BadCell k0_BadCell k1_BadCell k2_BadCell k3_BadCell k5_BadCell "ValueError.__new__"))
    (R_BadCell : PySem.HandSPX.refsVE bm_BadCell = true)
    (sa_BadCell : PySem.W.findIn K (.ref C_BadCell) "__setattr__" = some (some (.builtin "object.__setattr__")))
    (ty_BadCell : PySem.W.typeIn K (.ref C_BadCell) = some (.type "type"))
    (no_BadCell : PySem.W.findIn K (.ref C_BadCell) "cell" = some none)
    (ga_BadCell : PySem.W.findIn K (.ref C_BadCell) "__getattribute__" = some (some (.builtin "BaseException.__getattribute__")))
    (gg_BadCell : PySem.W.findIn K (.ref C_BadCell) "__getattr__" = some none)
    (ex_BadCell : PySem.W.subIn K (.ref C_BadCell) (.type "BaseException") = some true)
    (hd_BadCell : PySem.W.hasDictIn K C_BadCell = true)
    (cl_BadCell : PySem.W.findIn K (.ref C_BadCell) "__class__" = some (some (.builtin "object.__class__")))
    (mo_BadCell : PySem.W.mroIn K C_BadCell (.type "object") = some true)
    (kc_BadCell : PySem.W.keepIn K (.ref C_BadCell) = true)
    (g_NoCell : PySem.W.nsIn K mainGlobals "NoCell" = some (some (.ref C_NoCell)))
    (a_NoCell : PySem.W.findIn K (.ref C_NoCell) "__init__" = some (some (.ref f_NoCell)))
    (l_NoCell : K.lookup f_NoCell = some ⟨oc_NoCell, od_NoCell, .func (PySem.W.fnOf "__init__" "NoCell.__init__" (defArgs s_NoCell___init) (defBody s_NoCell___init) (defScope s_NoCell___init) .none kV_NoCell dc_NoCell pm_NoCell an_NoCell cd_NoCell ct_NoCell), sl_NoCell⟩)
    (c_NoCell : PySem.W.codeIn K cd_NoCell "NoCell.__init__" = true)
    (k_NoCell : PySem.W.keepIn K (.ref f_NoCell) = true)
    (t_NoCell : PySem.W.typeIn K (.ref f_NoCell) = some (.type "function"))
    (L_NoCell : K.lookup C_NoCell = some (excClassObj nm_NoCell q_NoCell C_NoCell N_NoCell bs_NoCell bm_NoCell true sn_NoCell sub_NoCell ab_NoCell col_NoCell dd_NoCell k0_NoCell k1_NoCell k2_NoCell k3_NoCell k5_NoCell "ValueError.__new__"))
    (R_NoCell : PySem.HandSPX.refsVE bm_NoCell = true)
    (sa_NoCell : PySem.W.findIn K (.ref C_NoCell) "__setattr__" = some (some (.builtin "object.__setattr__")))
    (ty_NoCell : PySem.W.typeIn K (.ref C_NoCell) = some (.type "type"))
    (no_NoCell : PySem.W.findIn K (.ref C_NoCell) "place" = some none)
    (ga_NoCell : PySem.W.findIn K (.ref C_NoCell) "__getattribute__" = some (some (.builtin "BaseException.__getattribute__")))
    (gg_NoCell : PySem.W.findIn K (.ref C_NoCell) "__getattr__" = some none)
    (ex_NoCell : PySem.W.subIn K (.ref C_NoCell) (.type "BaseException") = some true)
    (hd_NoCell : PySem.W.hasDictIn K C_NoCell = true)
    (cl_NoCell : PySem.W.findIn K (.ref C_NoCell) "__class__" = some (some (.builtin "object.__class__")))
    (mo_NoCell : PySem.W.mroIn K C_NoCell (.type "object") = some true)
    (kc_NoCell : PySem.W.keepIn K (.ref C_NoCell) = true)
    (g_BadBound : PySem.W.nsIn K mainGlobals "BadBound" = some (some (.ref C_BadBound)))
    (a_BadBound : PySem.W.findIn K (.ref C_BadBound) "__init__" = some (some (.ref f_BadBound)))
    (l_BadBound : K.lookup f_BadBound = some ⟨oc_BadBound, od_BadBound, .func (PySem.W.fnOf "__init__" "BadBound.__init__" (defArgs s_BadBound___init) (defBody s_BadBound___init) (defScope s_BadBound___init) .none kV_BadBound dc_BadBound pm_BadBound an_BadBound cd_BadBound ct_BadBound), sl_BadBound⟩)
    (c_BadBound : PySem.W.codeIn K cd_BadBound "BadBound.__init__" = true)
    (k_BadBound : PySem.W.keepIn K (.ref f_BadBound) = true)
    (t_BadBound : PySem.W.typeIn K (.ref f_BadBound) = some (.type "function"))
    (L_BadBound : K.lookup C_BadBound = some (excClassObj nm_BadBound q_BadBound C_BadBound N_BadBound bs_BadBound bm_BadBound true sn_BadBound sub_BadBound ab_BadBound col_BadBound dd_BadBound k0_BadBound k1_BadBound k2_BadBound k3_BadBound k5_BadBound "ValueError.__new__"))
    (R_BadBound : PySem.HandSPX.refsVE bm_BadBound = true)
    (sa_BadBound : PySem.W.findIn K (.ref C_BadBound) "__setattr__" = some (some (.builtin "object.__setattr__")))
    (ty_BadBound : PySem.W.typeIn K (.ref C_BadBound) = some (.type "type"))
    (no_BadBound : PySem.W.findIn K (.ref C_BadBound) "bound" = some none)
    (ga_BadBound : PySem.W.findIn K (.ref C_BadBound) "__getattribute__" = some (some (.builtin "BaseException.__getattribute__")))
    (gg_BadBound : PySem.W.findIn K (.ref C_BadBound) "__getattr__" = some none)
    (ex_BadBound : PySem.W.subIn K (.ref C_BadBound) (.type "BaseException") = some true)
    (hd_BadBound : PySem.W.hasDictIn K C_BadBound = true)
    (cl_BadBound : PySem.W.findIn K (.ref C_BadBound) "__class__" = some (some (.builtin "object.__class__")))
    (mo_BadBound : PySem.W.mroIn K C_BadBound (.type "object") = some true)
    (kc_BadBound : PySem.W.keepIn K (.ref C_BadBound) = true)
    (g_NoRule : PySem.W.nsIn K mainGlobals "NoRule" = some (some (.ref C_NoRule)))
    (a_NoRule : PySem.W.findIn K (.ref C_NoRule) "__init__" = some (some (.ref f_NoRule)))
    (l_NoRule : K.lookup f_NoRule = some ⟨oc_NoRule, od_NoRule, .func (PySem.W.fnOf "__init__" "NoRule.__init__" (defArgs s_NoRule___init) (defBody s_NoRule___init) (defScope s_NoRule___init) .none kV_NoRule dc_NoRule pm_NoRule an_NoRule cd_NoRule ct_NoRule), sl_NoRule⟩)
    (c_NoRule : PySem.W.codeIn K cd_NoRule "NoRule.__init__" = true)
    (k_NoRule : PySem.W.keepIn K (.ref f_NoRule) = true)
    (t_NoRule : PySem.W.typeIn K (.ref f_NoRule) = some (.type "function"))
    (L_NoRule : K.lookup C_NoRule = some (excClassObj nm_NoRule q_NoRule C_NoRule N_NoRule bs_NoRule bm_NoRule true sn_NoRule sub_NoRule ab_NoRule col_NoRule dd_NoRule k0_NoRule k1_NoRule k2_NoRule k3_NoRule k5_NoRule "ValueError.__new__"))
    (R_NoRule : PySem.HandSPX.refsVE bm_NoRule = true)
    (sa_NoRule : PySem.W.findIn K (.ref C_NoRule) "__setattr__" = some (some (.builtin "object.__setattr__")))
    (ty_NoRule : PySem.W.typeIn K (.ref C_NoRule) = some (.type "type"))
    (no_NoRule : PySem.W.findIn K (.ref C_NoRule) "rule" = some none)
    (ga_NoRule : PySem.W.findIn K (.ref C_NoRule) "__getattribute__" = some (some (.builtin "BaseException.__getattribute__")))
    (gg_NoRule : PySem.W.findIn K (.ref C_NoRule) "__getattr__" = some none)
    (ex_NoRule : PySem.W.subIn K (.ref C_NoRule) (.type "BaseException") = some true)
    (hd_NoRule : PySem.W.hasDictIn K C_NoRule = true)
    (cl_NoRule : PySem.W.findIn K (.ref C_NoRule) "__class__" = some (some (.builtin "object.__class__")))
    (mo_NoRule : PySem.W.mroIn K C_NoRule (.type "object") = some true)
    (kc_NoRule : PySem.W.keepIn K (.ref C_NoRule) = true)
    (g_TooGreat : PySem.W.nsIn K mainGlobals "TooGreat" = some (some (.ref C_TooGreat)))
    (xi_TooGreat : PySem.W.excIn K C_TooGreat BM "ValueError.__new__" = true)
    (ga_TooGreat : PySem.W.findIn K (.ref C_TooGreat) "__getattribute__" = some (some (.builtin "BaseException.__getattribute__")))
    (gg_TooGreat : PySem.W.findIn K (.ref C_TooGreat) "__getattr__" = some none)
    (ex_TooGreat : PySem.W.subIn K (.ref C_TooGreat) (.type "BaseException") = some true)
    (hd_TooGreat : PySem.W.hasDictIn K C_TooGreat = true)
    (cl_TooGreat : PySem.W.findIn K (.ref C_TooGreat) "__class__" = some (some (.builtin "object.__class__")))
    (mo_TooGreat : PySem.W.mroIn K C_TooGreat (.type "object") = some true)
    (kc_TooGreat : PySem.W.keepIn K (.ref C_TooGreat) = true)
    (g_NothingToUndo : PySem.W.nsIn K mainGlobals "NothingToUndo" = some (some (.ref C_NothingToUndo)))
    (xi_NothingToUndo : PySem.W.excIn K C_NothingToUndo BM "ValueError.__new__" = true)
    (ga_NothingToUndo : PySem.W.findIn K (.ref C_NothingToUndo) "__getattribute__" = some (some (.builtin "BaseException.__getattribute__")))
    (gg_NothingToUndo : PySem.W.findIn K (.ref C_NothingToUndo) "__getattr__" = some none)
    (ex_NothingToUndo : PySem.W.subIn K (.ref C_NothingToUndo) (.type "BaseException") = some true)
    (hd_NothingToUndo : PySem.W.hasDictIn K C_NothingToUndo = true)
    (cl_NothingToUndo : PySem.W.findIn K (.ref C_NothingToUndo) "__class__" = some (some (.builtin "object.__class__")))
    (mo_NothingToUndo : PySem.W.mroIn K C_NothingToUndo (.type "object") = some true)
    (kc_NothingToUndo : PySem.W.keepIn K (.ref C_NothingToUndo) = true)
    (sp : PySem.W.specialIn K (.builtin "object.__class__") "__get__" = some (some (.builtin "getset_descriptor.__get__")))
    (tk : PySem.W.takesIn K (.builtin "object.__class__") = some true)
    (a_law_state : PySem.W.nsIn K mainGlobals "_law_state" = some (some (.ref f_law_state)))
    (l_law_state : K.lookup f_law_state = some ⟨oc_law_state, od_law_state, .func (PySem.W.fnOf "_law_state" "_law_state" (defArgs s_law_state) (defBody s_law_state) (defScope s_law_state) .none kV_law_state dc_law_state pm_law_state an_law_state cd_law_state ct_law_state), sl_law_state⟩)
    (c_law_state : PySem.W.codeIn K cd_law_state "_law_state" = true)
    (k_law_state : PySem.W.keepIn K (.ref f_law_state) = true)
    (a_law_draw : PySem.W.nsIn K mainGlobals "_law_draw" = some (some (.ref f_law_draw)))
    (l_law_draw : K.lookup f_law_draw = some ⟨oc_law_draw, od_law_draw, .func (PySem.W.fnOf "_law_draw" "_law_draw" (defArgs s_law_draw) (defBody s_law_draw) (defScope s_law_draw) .none kV_law_draw dc_law_draw pm_law_draw an_law_draw cd_law_draw ct_law_draw), sl_law_draw⟩)
    (c_law_draw : PySem.W.codeIn K cd_law_draw "_law_draw" = true)
    (k_law_draw : PySem.W.keepIn K (.ref f_law_draw) = true)
    (a_law_cell : PySem.W.nsIn K mainGlobals "_law_cell" = some (some (.ref f_law_cell)))
    (l_law_cell : K.lookup f_law_cell = some ⟨oc_law_cell, od_law_cell, .func (PySem.W.fnOf "_law_cell" "_law_cell" (defArgs s_law_cell) (defBody s_law_cell) (defScope s_law_cell) .none kV_law_cell dc_law_cell pm_law_cell an_law_cell cd_law_cell ct_law_cell), sl_law_cell⟩)
    (c_law_cell : PySem.W.codeIn K cd_law_cell "_law_cell" = true)
    (k_law_cell : PySem.W.keepIn K (.ref f_law_cell) = true)
    (a_law_numbered : PySem.W.nsIn K mainGlobals "_law_numbered" = some (some (.ref f_law_numbered)))
    (l_law_numbered : K.lookup f_law_numbered = some ⟨oc_law_numbered, od_law_numbered, .func (PySem.W.fnOf "_law_numbered" "_law_numbered" (defArgs s_law_numbered) (defBody s_law_numbered) (defScope s_law_numbered) .none kV_law_numbered dc_law_numbered pm_law_numbered an_law_numbered cd_law_numbered ct_law_numbered), sl_law_numbered⟩)
    (c_law_numbered : PySem.W.codeIn K cd_law_numbered "_law_numbered" = true)
    (k_law_numbered : PySem.W.keepIn K (.ref f_law_numbered) = true)
    (a_law_others : PySem.W.nsIn K mainGlobals "_law_others" = some (some (.ref f_law_others)))
    (l_law_others : K.lookup f_law_others = some ⟨oc_law_others, od_law_others, .func (PySem.W.fnOf "_law_others" "_law_others" (defArgs s_law_others) (defBody s_law_others) (defScope s_law_others) .none kV_law_others dc_law_others pm_law_others an_law_others cd_law_others ct_law_others), sl_law_others⟩)
    (c_law_others : PySem.W.codeIn K cd_law_others "_law_others" = true)
    (k_law_others : PySem.W.keepIn K (.ref f_law_others) = true)
    (a_law_kinds : PySem.W.nsIn K mainGlobals "_law_kinds" = some (some (.ref f_law_kinds)))
    (l_law_kinds : K.lookup f_law_kinds = some ⟨oc_law_kinds, od_law_kinds, .func (PySem.W.fnOf "_law_kinds" "_law_kinds" (defArgs s_law_kinds) (defBody s_law_kinds) (defScope s_law_kinds) .none kV_law_kinds dc_law_kinds pm_law_kinds an_law_kinds cd_law_kinds ct_law_kinds), sl_law_kinds⟩)
    (c_law_kinds : PySem.W.codeIn K cd_law_kinds "_law_kinds" = true)
    (k_law_kinds : PySem.W.keepIn K (.ref f_law_kinds) = true)
    (a_law : PySem.W.nsIn K mainGlobals "law" = some (some (.ref f_law)))
    (l_law : K.lookup f_law = some ⟨oc_law, od_law, .func (PySem.W.fnOf "law" "law" (defArgs s_law) (defBody s_law) (defScope s_law) .none kV_law dc_law pm_law an_law cd_law ct_law), sl_law⟩)
    (c_law : PySem.W.codeIn K cd_law "law" = true)
    (k_law : PySem.W.keepIn K (.ref f_law) = true)
    (z_int : PySem.W.nsIn K mainGlobals "int" = some none)
    (z_len : PySem.W.nsIn K mainGlobals "len" = some none)
    (z_max : PySem.W.nsIn K mainGlobals "max" = some none)
    (z_min : PySem.W.nsIn K mainGlobals "min" = some none)
    (z_range : PySem.W.nsIn K mainGlobals "range" = some none)
    (z_isinstance : PySem.W.nsIn K mainGlobals "isinstance" = some none)
    (z_ValueError : PySem.W.nsIn K mainGlobals "ValueError" = some none)
    (kitS : ∀ i : _root_.Fin 14, PySem.W.kitOne K (.ref ([C_BadReader, C_BadRing, C_BadBegin, C_NoReader, C_TooMany, C_BadCount, C_NoLine, C_BadText, C_BadCell, C_NoCell, C_BadBound, C_NoRule, C_TooGreat, C_NothingToUndo][i.1]'i.2)) (.ref C_SplitError) = some true)
    (kitV : ∀ i : _root_.Fin 14, PySem.W.kitOne K (.ref ([C_BadReader, C_BadRing, C_BadBegin, C_NoReader, C_TooMany, C_BadCount, C_NoLine, C_BadText, C_BadCell, C_NoCell, C_BadBound, C_NoRule, C_TooGreat, C_NothingToUndo][i.1]'i.2)) (.type "ValueError") = some true)
    (kit : ∀ i j : _root_.Fin 14, PySem.W.kitOne K (.ref ([C_BadReader, C_BadRing, C_BadBegin, C_NoReader, C_TooMany, C_BadCount, C_NoLine, C_BadText, C_BadCell, C_NoCell, C_BadBound, C_NoRule, C_TooGreat, C_NothingToUndo][i.1]'i.2)) (.ref ([C_BadReader, C_BadRing, C_BadBegin, C_NoReader, C_TooMany, C_BadCount, C_NoLine, C_BadText, C_BadCell, C_NoCell, C_BadBound, C_NoRule, C_TooGreat, C_NothingToUndo][j.1]'j.2)) = some (decide (i = j)))
    : ∃ fd : FuncData, (∀ (s : Shared) (v : Value), BindsTo s fd ⟨[v], []⟩ [("_law_script", v)]) ∧ ∀ base : Heap, K.In base → base.Ns mainGlobals mg → FnOk l.prog w K mg base CX0 4 fa fd ["_law_script"] (spLaw K) := by
  have e := hfa.symm.trans (PySem.W.mg_of X G a_law)
  cases e
  let T : Txt K mg := {
    z_int := PySem.W.mg_none_of X G z_int,
    z_len := PySem.W.mg_none_of X G z_len,
    z_max := PySem.W.mg_none_of X G z_max,
    z_min := PySem.W.mg_none_of X G z_min,
    z_range := PySem.W.mg_none_of X G z_range,
    z_isinstance := PySem.W.mg_none_of X G z_isinstance,
    z_ValueError := PySem.W.mg_none_of X G z_ValueError,
    c_BadReader := C_BadReader,
    i_BadReader := f_BadReader,
    d_BadReader := _,
    F_BadReader := fun_mk (st := s_BadReader___init) l_BadReader c_BadReader k_BadReader,
    b_BadReader := (fun_mk (st := s_BadReader___init) l_BadReader c_BadReader k_BadReader).binds (ps := ["self", "number"]) fun _ _ _ _ _ _ us hl => match us, hl with | [_, _], _ => rfl,
    x_BadReader := ⟨⟨⟨_, _, _, _, _, _, _, _, _, _, _, _, _, _, _, L_BadReader, R_BadReader⟩, sa_BadReader, ex_BadReader, ty_BadReader, kc_BadReader⟩, ⟨ga_BadReader, gg_BadReader, ex_BadReader, hd_BadReader⟩, no_BadReader, a_BadReader, t_BadReader⟩,
    e_BadReader := ⟨ga_BadReader, gg_BadReader, ex_BadReader, hd_BadReader, cl_BadReader, sp, tk, mo_BadReader⟩,
    m_BadReader := PySem.W.mg_of X G g_BadReader,
    c_BadRing := C_BadRing,
    i_BadRing := f_BadRing,
    d_BadRing := _,
    F_BadRing := fun_mk (st := s_BadRing___init) l_BadRing c_BadRing k_BadRing,
    b_BadRing := (fun_mk (st := s_BadRing___init) l_BadRing c_BadRing k_BadRing).binds (ps := ["self", "number"]) fun _ _ _ _ _ _ us hl => match us, hl with | [_, _], _ => rfl,
    x_BadRing := ⟨⟨⟨_, _, _, _, _, _, _, _, _, _, _, _, _, _, _, L_BadRing, R_BadRing⟩, sa_BadRing, ex_BadRing, ty_BadRing, kc_BadRing⟩, ⟨ga_BadRing, gg_BadRing, ex_BadRing, hd_BadRing⟩, no_BadRing, a_BadRing, t_BadRing⟩,
    e_BadRing := ⟨ga_BadRing, gg_BadRing, ex_BadRing, hd_BadRing, cl_BadRing, sp, tk, mo_BadRing⟩,
    m_BadRing := PySem.W.mg_of X G g_BadRing,
    c_BadBegin := C_BadBegin,
    i_BadBegin := f_BadBegin,
    d_BadBegin := _,
    F_BadBegin := fun_mk (st := s_BadBegin___init) l_BadBegin c_BadBegin k_BadBegin,
    b_BadBegin := (fun_mk (st := s_BadBegin___init) l_BadBegin c_BadBegin k_BadBegin).binds (ps := ["self", "number"]) fun _ _ _ _ _ _ us hl => match us, hl with | [_, _], _ => rfl,
    x_BadBegin := ⟨⟨⟨_, _, _, _, _, _, _, _, _, _, _, _, _, _, _, L_BadBegin, R_BadBegin⟩, sa_BadBegin, ex_BadBegin, ty_BadBegin, kc_BadBegin⟩, ⟨ga_BadBegin, gg_BadBegin, ex_BadBegin, hd_BadBegin⟩, no_BadBegin, a_BadBegin, t_BadBegin⟩,
    e_BadBegin := ⟨ga_BadBegin, gg_BadBegin, ex_BadBegin, hd_BadBegin, cl_BadBegin, sp, tk, mo_BadBegin⟩,
    m_BadBegin := PySem.W.mg_of X G g_BadBegin,
    c_NoReader := C_NoReader,
    i_NoReader := f_NoReader,
    d_NoReader := _,
    F_NoReader := fun_mk (st := s_NoReader___init) l_NoReader c_NoReader k_NoReader,
    b_NoReader := (fun_mk (st := s_NoReader___init) l_NoReader c_NoReader k_NoReader).binds (ps := ["self", "number"]) fun _ _ _ _ _ _ us hl => match us, hl with | [_, _], _ => rfl,
    x_NoReader := ⟨⟨⟨_, _, _, _, _, _, _, _, _, _, _, _, _, _, _, L_NoReader, R_NoReader⟩, sa_NoReader, ex_NoReader, ty_NoReader, kc_NoReader⟩, ⟨ga_NoReader, gg_NoReader, ex_NoReader, hd_NoReader⟩, no_NoReader, a_NoReader, t_NoReader⟩,
    e_NoReader := ⟨ga_NoReader, gg_NoReader, ex_NoReader, hd_NoReader, cl_NoReader, sp, tk, mo_NoReader⟩,
    m_NoReader := PySem.W.mg_of X G g_NoReader,
    c_TooMany := C_TooMany,
    i_TooMany := f_TooMany,
    d_TooMany := _,
    F_TooMany := fun_mk (st := s_TooMany___init) l_TooMany c_TooMany k_TooMany,
    b_TooMany := (fun_mk (st := s_TooMany___init) l_TooMany c_TooMany k_TooMany).binds (ps := ["self", "count"]) fun _ _ _ _ _ _ us hl => match us, hl with | [_, _], _ => rfl,
    x_TooMany := ⟨⟨⟨_, _, _, _, _, _, _, _, _, _, _, _, _, _, _, L_TooMany, R_TooMany⟩, sa_TooMany, ex_TooMany, ty_TooMany, kc_TooMany⟩, ⟨ga_TooMany, gg_TooMany, ex_TooMany, hd_TooMany⟩, no_TooMany, a_TooMany, t_TooMany⟩,
    e_TooMany := ⟨ga_TooMany, gg_TooMany, ex_TooMany, hd_TooMany, cl_TooMany, sp, tk, mo_TooMany⟩,
    m_TooMany := PySem.W.mg_of X G g_TooMany,
    c_BadCount := C_BadCount,
    i_BadCount := f_BadCount,
    d_BadCount := _,
    F_BadCount := fun_mk (st := s_BadCount___init) l_BadCount c_BadCount k_BadCount,
    b_BadCount := (fun_mk (st := s_BadCount___init) l_BadCount c_BadCount k_BadCount).binds (ps := ["self", "count"]) fun _ _ _ _ _ _ us hl => match us, hl with | [_, _], _ => rfl,
    x_BadCount := ⟨⟨⟨_, _, _, _, _, _, _, _, _, _, _, _, _, _, _, L_BadCount, R_BadCount⟩, sa_BadCount, ex_BadCount, ty_BadCount, kc_BadCount⟩, ⟨ga_BadCount, gg_BadCount, ex_BadCount, hd_BadCount⟩, no_BadCount, a_BadCount, t_BadCount⟩,
    e_BadCount := ⟨ga_BadCount, gg_BadCount, ex_BadCount, hd_BadCount, cl_BadCount, sp, tk, mo_BadCount⟩,
    m_BadCount := PySem.W.mg_of X G g_BadCount,
    c_NoLine := C_NoLine,
    i_NoLine := f_NoLine,
    d_NoLine := _,
    F_NoLine := fun_mk (st := s_NoLine___init) l_NoLine c_NoLine k_NoLine,
    b_NoLine := (fun_mk (st := s_NoLine___init) l_NoLine c_NoLine k_NoLine).binds (ps := ["self", "name"]) fun _ _ _ _ _ _ us hl => match us, hl with | [_, _], _ => rfl,
    x_NoLine := ⟨⟨⟨_, _, _, _, _, _, _, _, _, _, _, _, _, _, _, L_NoLine, R_NoLine⟩, sa_NoLine, ex_NoLine, ty_NoLine, kc_NoLine⟩, ⟨ga_NoLine, gg_NoLine, ex_NoLine, hd_NoLine⟩, no_NoLine, a_NoLine, t_NoLine⟩,
    e_NoLine := ⟨ga_NoLine, gg_NoLine, ex_NoLine, hd_NoLine, cl_NoLine, sp, tk, mo_NoLine⟩,
    m_NoLine := PySem.W.mg_of X G g_NoLine,
    c_BadText := C_BadText,
    i_BadText := f_BadText,
    d_BadText := _,
    F_BadText := fun_mk (st := s_BadText___init) l_BadText c_BadText k_BadText,
    b_BadText := (fun_mk (st := s_BadText___init) l_BadText c_BadText k_BadText).binds (ps := ["self", "line"]) fun _ _ _ _ _ _ us hl => match us, hl with | [_, _], _ => rfl,
    x_BadText := ⟨⟨⟨_, _, _, _, _, _, _, _, _, _, _, _, _, _, _, L_BadText, R_BadText⟩, sa_BadText, ex_BadText, ty_BadText, kc_BadText⟩, ⟨ga_BadText, gg_BadText, ex_BadText, hd_BadText⟩, no_BadText, a_BadText, t_BadText⟩,
    e_BadText := ⟨ga_BadText, gg_BadText, ex_BadText, hd_BadText, cl_BadText, sp, tk, mo_BadText⟩,
    m_BadText := PySem.W.mg_of X G g_BadText,
    c_BadCell := C_BadCell,
    i_BadCell := f_BadCell,
    d_BadCell := _,
    F_BadCell := fun_mk (st := s_BadCell___init) l_BadCell c_BadCell k_BadCell,
    b_BadCell := (fun_mk (st := s_BadCell___init) l_BadCell c_BadCell k_BadCell).binds (ps := ["self", "cell"]) fun _ _ _ _ _ _ us hl => match us, hl with | [_, _], _ => rfl,
    x_BadCell := ⟨⟨⟨_, _, _, _, _, _, _, _, _, _, _, _, _, _, _, L_BadCell, R_BadCell⟩, sa_BadCell, ex_BadCell, ty_BadCell, kc_BadCell⟩, ⟨ga_BadCell, gg_BadCell, ex_BadCell, hd_BadCell⟩, no_BadCell, a_BadCell, t_BadCell⟩,
    e_BadCell := ⟨ga_BadCell, gg_BadCell, ex_BadCell, hd_BadCell, cl_BadCell, sp, tk, mo_BadCell⟩,
    m_BadCell := PySem.W.mg_of X G g_BadCell,
    c_NoCell := C_NoCell,
    i_NoCell := f_NoCell,
    d_NoCell := _,
    F_NoCell := fun_mk (st := s_NoCell___init) l_NoCell c_NoCell k_NoCell,
    b_NoCell := (fun_mk (st := s_NoCell___init) l_NoCell c_NoCell k_NoCell).binds (ps := ["self", "place"]) fun _ _ _ _ _ _ us hl => match us, hl with | [_, _], _ => rfl,
    x_NoCell := ⟨⟨⟨_, _, _, _, _, _, _, _, _, _, _, _, _, _, _, L_NoCell, R_NoCell⟩, sa_NoCell, ex_NoCell, ty_NoCell, kc_NoCell⟩, ⟨ga_NoCell, gg_NoCell, ex_NoCell, hd_NoCell⟩, no_NoCell, a_NoCell, t_NoCell⟩,
    e_NoCell := ⟨ga_NoCell, gg_NoCell, ex_NoCell, hd_NoCell, cl_NoCell, sp, tk, mo_NoCell⟩,
    m_NoCell := PySem.W.mg_of X G g_NoCell,
    c_BadBound := C_BadBound,
    i_BadBound := f_BadBound,
    d_BadBound := _,
    F_BadBound := fun_mk (st := s_BadBound___init) l_BadBound c_BadBound k_BadBound,
    b_BadBound := (fun_mk (st := s_BadBound___init) l_BadBound c_BadBound k_BadBound).binds (ps := ["self", "bound"]) fun _ _ _ _ _ _ us hl => match us, hl with | [_, _], _ => rfl,
    x_BadBound := ⟨⟨⟨_, _, _, _, _, _, _, _, _, _, _, _, _, _, _, L_BadBound, R_BadBound⟩, sa_BadBound, ex_BadBound, ty_BadBound, kc_BadBound⟩, ⟨ga_BadBound, gg_BadBound, ex_BadBound, hd_BadBound⟩, no_BadBound, a_BadBound, t_BadBound⟩,
    e_BadBound := ⟨ga_BadBound, gg_BadBound, ex_BadBound, hd_BadBound, cl_BadBound, sp, tk, mo_BadBound⟩,
    m_BadBound := PySem.W.mg_of X G g_BadBound,
    c_NoRule := C_NoRule,
    i_NoRule := f_NoRule,
    d_NoRule := _,
    F_NoRule := fun_mk (st := s_NoRule___init) l_NoRule c_NoRule k_NoRule,
    b_NoRule := (fun_mk (st := s_NoRule___init) l_NoRule c_NoRule k_NoRule).binds (ps := ["self", "rule"]) fun _ _ _ _ _ _ us hl => match us, hl with | [_, _], _ => rfl,
    x_NoRule := ⟨⟨⟨_, _, _, _, _, _, _, _, _, _, _, _, _, _, _, L_NoRule, R_NoRule⟩, sa_NoRule, ex_NoRule, ty_NoRule, kc_NoRule⟩, ⟨ga_NoRule, gg_NoRule, ex_NoRule, hd_NoRule⟩, no_NoRule, a_NoRule, t_NoRule⟩,
    e_NoRule := ⟨ga_NoRule, gg_NoRule, ex_NoRule, hd_NoRule, cl_NoRule, sp, tk, mo_NoRule⟩,
    m_NoRule := PySem.W.mg_of X G g_NoRule,
    c_TooGreat := C_TooGreat,
    q_TooGreat := xi_TooGreat,
    k_TooGreat := kc_TooGreat,
    e_TooGreat := ⟨ga_TooGreat, gg_TooGreat, ex_TooGreat, hd_TooGreat, cl_TooGreat, sp, tk, mo_TooGreat⟩,
    m_TooGreat := PySem.W.mg_of X G g_TooGreat,
    c_NothingToUndo := C_NothingToUndo,
    q_NothingToUndo := xi_NothingToUndo,
    k_NothingToUndo := kc_NothingToUndo,
    e_NothingToUndo := ⟨ga_NothingToUndo, gg_NothingToUndo, ex_NothingToUndo, hd_NothingToUndo, cl_NothingToUndo, sp, tk, mo_NothingToUndo⟩,
    m_NothingToUndo := PySem.W.mg_of X G g_NothingToUndo,
    f_law_state := f_law_state,
    d_law_state := _,
    F_law_state := fun_mk (st := s_law_state) l_law_state c_law_state k_law_state,
    b_law_state := (fun_mk (st := s_law_state) l_law_state c_law_state k_law_state).binds (ps := ["_law_cell_here"]) fun _ _ _ _ _ _ us hl => match us, hl with | [_], _ => rfl,
    m_law_state := PySem.W.mg_of X G a_law_state,
    f_law_draw := f_law_draw,
    d_law_draw := _,
    F_law_draw := fun_mk (st := s_law_draw) l_law_draw c_law_draw k_law_draw,
    b_law_draw := (fun_mk (st := s_law_draw) l_law_draw c_law_draw k_law_draw).binds (ps := ["_law_state_here", "_law_many"]) fun _ _ _ _ _ _ us hl => match us, hl with | [_, _], _ => rfl,
    m_law_draw := PySem.W.mg_of X G a_law_draw,
    f_law_cell := f_law_cell,
    d_law_cell := _,
    F_law_cell := fun_mk (st := s_law_cell) l_law_cell c_law_cell k_law_cell,
    b_law_cell := (fun_mk (st := s_law_cell) l_law_cell c_law_cell k_law_cell).binds (ps := ["_law_script", "_law_at"]) fun _ _ _ _ _ _ us hl => match us, hl with | [_, _], _ => rfl,
    m_law_cell := PySem.W.mg_of X G a_law_cell,
    f_law_numbered := f_law_numbered,
    d_law_numbered := _,
    F_law_numbered := fun_mk (st := s_law_numbered) l_law_numbered c_law_numbered k_law_numbered,
    b_law_numbered := (fun_mk (st := s_law_numbered) l_law_numbered c_law_numbered k_law_numbered).binds (ps := ["_law_thing"]) fun _ _ _ _ _ _ us hl => match us, hl with | [_], _ => rfl,
    m_law_numbered := PySem.W.mg_of X G a_law_numbered,
    f_law_others := f_law_others,
    d_law_others := _,
    F_law_others := fun_mk (st := s_law_others) l_law_others c_law_others k_law_others,
    b_law_others := (fun_mk (st := s_law_others) l_law_others c_law_others k_law_others).binds (ps := ["_law_thing"]) fun _ _ _ _ _ _ us hl => match us, hl with | [_], _ => rfl,
    m_law_others := PySem.W.mg_of X G a_law_others,
    f_law_kinds := f_law_kinds,
    d_law_kinds := _,
    F_law_kinds := fun_mk (st := s_law_kinds) l_law_kinds c_law_kinds k_law_kinds,
    b_law_kinds := (fun_mk (st := s_law_kinds) l_law_kinds c_law_kinds k_law_kinds).binds (ps := ["_law_e"]) fun _ _ _ _ _ _ us hl => match us, hl with | [_], _ => rfl,
    m_law_kinds := PySem.W.mg_of X G a_law_kinds,
    c_SplitError := C_SplitError,
    m_SplitError := PySem.W.mg_of X G g_SplitError,
    kitS := kitS,
    kitV := kitV,
    kit := kit }
  exact ⟨PySem.W.fnOf "law" "law" (defArgs s_law) (defBody s_law) (defScope s_law) .none kV_law dc_law pm_law an_law cd_law ct_law, fun s v => .of_eq rfl, fun base _ _ => ok_law T (fun_mk (st := s_law) l_law c_law k_law)⟩
theorem walk {l : PySem.W.OpenLaw} {q : Program} {loose : List Str} {XP : (Str → Option Value) → Heap → Prop} {YP : World → Heap → Prop} {d : DefRec} {K : Params → PySem.W.Frag} (hn : l.most = some 63) (hdf : d.params.defaults = [])
    (hY : ∀ (w : World) (h : Heap), YP w h → (K w.params).In h)
    (F : ∀ (w : World) (mg : Str → Option Value) (fa : Addr) (h : Heap), (K w.params).In h → h.Ns mainGlobals mg → mg d.name = some (.ref fa) →
      ∃ fd : FuncData, (∀ (s : Shared) (u : Value), BindsTo s fd ⟨[u], []⟩ [("_law_script", u)]) ∧ ∀ base : Heap, (K w.params).In base → base.Ns mainGlobals mg → FnOk l.prog w (K w.params) mg base CX0 4 fa fd ["_law_script"] (spLaw (K w.params))) :
    PySem.W.WalkO q loose XP YP l.row.toRowW d [] (fun f vs => PySem.call f vs) :=
  L2.walk_of (n := 63) (k := 4) (x := "_law_script") (CX := fun _ => CX0) (sp := fun w => spLaw (K w.params)) hn (by decide) hdf ⟨rfl, by decide, by decide⟩ hY F (fun _ _ a ns hl _ hS => ⟨a, ns, rfl, hS, hl, fun _ => rfl⟩) fun _ _ _ _ _ z => z
end K71

open PySem PySem.W PyProof.Rows in
set_option maxRecDepth 100000 in
set_option maxHeartbeats 0 in
theorem PySem.Challenge.cw_splitalike_k71_errors_stand_apart_holds : PySem.Challenge.rw_splitalike_k71_errors_stand_apart.Holds := by
  w_on; o_law; k_head; (case hw => w_witness2)
  k_fill
  refine K71.walk (l := PySem.Challenge.rw_splitalike_k71_errors_stand_apart) rfl rfl (fun w h Y => PySem.W.kIn_of Y) ?F
  case F =>
    intro w mg fa h KX G hmg
    refine' K71.all_mk KX G hmg ?g_SplitError ?g_BadReader ?a_BadReader ?l_BadReader ?c_BadReader ?k_BadReader ?t_BadReader ?L_BadReader ?R_BadReader ?sa_BadReader ?ty_BadReader ?no_BadReader ?ga_BadReader ?gg_BadReader ?ex_BadReader ?hd_BadReader ?cl_BadReader ?mo_BadReader ?kc_BadReader ?g_BadRing ?a_BadRing ?l_BadRing ?c_BadRing ?k_BadRing ?t_BadRing ?L_BadRing ?R_BadRing ?sa_BadRing ?ty_BadRing ?no_BadRing ?ga_BadRing ?gg_BadRing ?ex_BadRing ?hd_BadRing ?cl_BadRing ?mo_BadRing ?kc_BadRing ?g_BadBegin ?a_BadBegin ?l_BadBegin ?c_BadBegin ?k_BadBegin ?t_BadBegin ?L_BadBegin ?R_BadBegin ?sa_BadBegin ?ty_BadBegin ?no_BadBegin ?ga_BadBegin ?gg_BadBegin ?ex_BadBegin ?hd_BadBegin ?cl_BadBegin ?mo_BadBegin ?kc_BadBegin ?g_NoReader ?a_NoReader ?l_NoReader ?c_NoReader ?k_NoReader ?t_NoReader ?L_NoReader ?R_NoReader ?sa_NoReader ?ty_NoReader ?no_NoReader ?ga_NoReader ?gg_NoReader ?ex_NoReader ?hd_NoReader ?cl_NoReader ?mo_NoReader ?kc_NoReader ?g_TooMany ?a_TooMany ?l_TooMany ?c_TooMany ?k_TooMany ?t_TooMany ?L_TooMany ?R_TooMany ?sa_TooMany ?ty_TooMany ?no_TooMany ?ga_TooMany ?gg_TooMany ?ex_TooMany ?hd_TooMany ?cl_TooMany ?mo_TooMany ?kc_TooMany ?g_BadCount ?a_BadCount ?l_BadCount ?c_BadCount ?k_BadCount ?t_BadCount ?L_BadCount ?R_BadCount ?sa_BadCount ?ty_BadCount ?no_BadCount ?ga_BadCount ?gg_BadCount ?ex_BadCount ?hd_BadCount ?cl_BadCount ?mo_BadCount ?kc_BadCount ?g_NoLine ?a_NoLine ?l_NoLine ?c_NoLine ?k_NoLine ?t_NoLine ?L_NoLine ?R_NoLine ?sa_NoLine ?ty_NoLine ?no_NoLine ?ga_NoLine ?gg_NoLine ?ex_NoLine ?hd_NoLine ?cl_NoLine ?mo_NoLine ?kc_NoLine ?g_BadText ?a_BadText ?l_BadText ?c_BadText ?k_BadText ?t_BadText ?L_BadText ?R_BadText ?sa_BadText ?ty_BadText ?no_BadText ?ga_BadText ?gg_BadText ?ex_BadText ?hd_BadText ?cl_BadText ?mo_BadText ?kc_BadText ?g_BadCell ?a_BadCell ?l_BadCell ?c_BadCell ?k_BadCell ?t_BadCell ?L_BadCell ?R_BadCell ?sa_BadCell ?ty_BadCell ?no_BadCell ?ga_BadCell ?gg_BadCell ?ex_BadCell ?hd_BadCell ?cl_BadCell ?mo_BadCell ?kc_BadCell ?g_NoCell ?a_NoCell ?l_NoCell ?c_NoCell ?k_NoCell ?t_NoCell ?L_NoCell ?R_NoCell ?sa_NoCell ?ty_NoCell ?no_NoCell ?ga_NoCell ?gg_NoCell ?ex_NoCell ?hd_NoCell ?cl_NoCell ?mo_NoCell ?kc_NoCell ?g_BadBound ?a_BadBound ?l_BadBound ?c_BadBound ?k_BadBound ?t_BadBound ?L_BadBound ?R_BadBound ?sa_BadBound ?ty_BadBound ?no_BadBound ?ga_BadBound ?gg_BadBound ?ex_BadBound ?hd_BadBound ?cl_BadBound ?mo_BadBound ?kc_BadBound ?g_NoRule ?a_NoRule ?l_NoRule ?c_NoRule ?k_NoRule ?t_NoRule ?L_NoRule ?R_NoRule ?sa_NoRule ?ty_NoRule ?no_NoRule ?ga_NoRule ?gg_NoRule ?ex_NoRule ?hd_NoRule ?cl_NoRule ?mo_NoRule ?kc_NoRule ?g_TooGreat ?xi_TooGreat ?ga_TooGreat ?gg_TooGreat ?ex_TooGreat ?hd_TooGreat ?cl_TooGreat ?mo_TooGreat ?kc_TooGreat ?g_NothingToUndo ?xi_NothingToUndo ?ga_NothingToUndo ?gg_NothingToUndo ?ex_NothingToUndo ?hd_NothingToUndo ?cl_NothingToUndo ?mo_NothingToUndo ?kc_NothingToUndo ?sp ?tk ?a_law_state ?l_law_state ?c_law_state ?k_law_state ?a_law_draw ?l_law_draw ?c_law_draw ?k_law_draw ?a_law_cell ?l_law_cell ?c_law_cell ?k_law_cell ?a_law_numbered ?l_law_numbered ?c_law_numbered ?k_law_numbered ?a_law_others ?l_law_others ?c_law_others ?k_law_others ?a_law_kinds ?l_law_kinds ?c_law_kinds ?k_law_kinds ?a_law ?l_law ?c_law ?k_law ?z_int ?z_len ?z_max ?z_min ?z_range ?z_isinstance ?z_ValueError ?kitS ?kitV ?kit
    (case g_SplitError => k_is)
    (case g_BadReader => k_is)
    (case a_BadReader => k_is)
    (case l_BadReader => k_is)
    (case c_BadReader => k_is)
    (case k_BadReader => k_is)
    (case t_BadReader => k_is)
    (case L_BadReader => k_is)
    (case R_BadReader => decide +kernel)
    (case sa_BadReader => k_is)
    (case ty_BadReader => k_is)
    (case no_BadReader => k_is)
    (case ga_BadReader => k_is)
    (case gg_BadReader => k_is)
    (case ex_BadReader => k_is)
    (case hd_BadReader => k_is)
    (case cl_BadReader => k_is)
    (case mo_BadReader => k_is)
    (case kc_BadReader => k_is)
    (case g_BadRing => k_is)
    (case a_BadRing => k_is)
    (case l_BadRing => k_is)
    (case c_BadRing => k_is)
    (case k_BadRing => k_is)
    (case t_BadRing => k_is)
    (case L_BadRing => k_is)
    (case R_BadRing => decide +kernel)
    (case sa_BadRing => k_is)
    (case ty_BadRing => k_is)
    (case no_BadRing => k_is)
    (case ga_BadRing => k_is)
    (case gg_BadRing => k_is)
    (case ex_BadRing => k_is)
    (case hd_BadRing => k_is)
    (case cl_BadRing => k_is)
    (case mo_BadRing => k_is)
    (case kc_BadRing => k_is)
    (case g_BadBegin => k_is)
    (case a_BadBegin => k_is)
    (case l_BadBegin => k_is)
    (case c_BadBegin => k_is)
    (case k_BadBegin => k_is)
    (case t_BadBegin => k_is)
    (case L_BadBegin => k_is)
    (case R_BadBegin => decide +kernel)
    (case sa_BadBegin => k_is)
    (case ty_BadBegin => k_is)
    (case no_BadBegin => k_is)
    (case ga_BadBegin => k_is)
    (case gg_BadBegin => k_is)
    (case ex_BadBegin => k_is)
    (case hd_BadBegin => k_is)
    (case cl_BadBegin => k_is)
    (case mo_BadBegin => k_is)
    (case kc_BadBegin => k_is)
    (case g_NoReader => k_is)
    (case a_NoReader => k_is)
    (case l_NoReader => k_is)
    (case c_NoReader => k_is)
    (case k_NoReader => k_is)
    (case t_NoReader => k_is)
    (case L_NoReader => k_is)
    (case R_NoReader => decide +kernel)
    (case sa_NoReader => k_is)
    (case ty_NoReader => k_is)
    (case no_NoReader => k_is)
    (case ga_NoReader => k_is)
    (case gg_NoReader => k_is)
    (case ex_NoReader => k_is)
    (case hd_NoReader => k_is)
    (case cl_NoReader => k_is)
    (case mo_NoReader => k_is)
    (case kc_NoReader => k_is)
    (case g_TooMany => k_is)
    (case a_TooMany => k_is)
    (case l_TooMany => k_is)
    (case c_TooMany => k_is)
    (case k_TooMany => k_is)
    (case t_TooMany => k_is)
    (case L_TooMany => k_is)
    (case R_TooMany => decide +kernel)
    (case sa_TooMany => k_is)
    (case ty_TooMany => k_is)
    (case no_TooMany => k_is)
    (case ga_TooMany => k_is)
    (case gg_TooMany => k_is)
    (case ex_TooMany => k_is)
    (case hd_TooMany => k_is)
    (case cl_TooMany => k_is)
    (case mo_TooMany => k_is)
    (case kc_TooMany => k_is)
    (case g_BadCount => k_is)
    (case a_BadCount => k_is)
    (case l_BadCount => k_is)
    (case c_BadCount => k_is)
    (case k_BadCount => k_is)
    (case t_BadCount => k_is)
    (case L_BadCount => k_is)
    (case R_BadCount => decide +kernel)
    (case sa_BadCount => k_is)
    (case ty_BadCount => k_is)
    (case no_BadCount => k_is)
    (case ga_BadCount => k_is)
    (case gg_BadCount => k_is)
    (case ex_BadCount => k_is)
    (case hd_BadCount => k_is)
    (case cl_BadCount => k_is)
    (case mo_BadCount => k_is)
    (case kc_BadCount => k_is)
    (case g_NoLine => k_is)
    (case a_NoLine => k_is)
    (case l_NoLine => k_is)
    (case c_NoLine => k_is)
    (case k_NoLine => k_is)
    (case t_NoLine => k_is)
    (case L_NoLine => k_is)
    (case R_NoLine => decide +kernel)
    (case sa_NoLine => k_is)
    (case ty_NoLine => k_is)
    (case no_NoLine => k_is)
    (case ga_NoLine => k_is)
    (case gg_NoLine => k_is)
    (case ex_NoLine => k_is)
    (case hd_NoLine => k_is)
    (case cl_NoLine => k_is)
    (case mo_NoLine => k_is)
    (case kc_NoLine => k_is)
    (case g_BadText => k_is)
    (case a_BadText => k_is)
    (case l_BadText => k_is)
    (case c_BadText => k_is)
    (case k_BadText => k_is)
    (case t_BadText => k_is)
    (case L_BadText => k_is)
    (case R_BadText => decide +kernel)
    (case sa_BadText => k_is)
    (case ty_BadText => k_is)
    (case no_BadText => k_is)
    (case ga_BadText => k_is)
    (case gg_BadText => k_is)
    (case ex_BadText => k_is)
    (case hd_BadText => k_is)
    (case cl_BadText => k_is)
    (case mo_BadText => k_is)
    (case kc_BadText => k_is)
    (case g_BadCell => k_is)
    (case a_BadCell => k_is)
    (case l_BadCell => k_is)
    (case c_BadCell => k_is)
    (case k_BadCell => k_is)
    (case t_BadCell => k_is)
    (case L_BadCell => k_is)
    (case R_BadCell => decide +kernel)
    (case sa_BadCell => k_is)
    (case ty_BadCell => k_is)
    (case no_BadCell => k_is)
    (case ga_BadCell => k_is)
    (case gg_BadCell => k_is)
    (case ex_BadCell => k_is)
    (case hd_BadCell => k_is)
    (case cl_BadCell => k_is)
    (case mo_BadCell => k_is)
    (case kc_BadCell => k_is)
    (case g_NoCell => k_is)
    (case a_NoCell => k_is)
    (case l_NoCell => k_is)
    (case c_NoCell => k_is)
    (case k_NoCell => k_is)
    (case t_NoCell => k_is)
    (case L_NoCell => k_is)
    (case R_NoCell => decide +kernel)
    (case sa_NoCell => k_is)
    (case ty_NoCell => k_is)
    (case no_NoCell => k_is)
    (case ga_NoCell => k_is)
    (case gg_NoCell => k_is)
    (case ex_NoCell => k_is)
    (case hd_NoCell => k_is)
    (case cl_NoCell => k_is)
    (case mo_NoCell => k_is)
    (case kc_NoCell => k_is)
    (case g_BadBound => k_is)
    (case a_BadBound => k_is)
    (case l_BadBound => k_is)
    (case c_BadBound => k_is)
    (case k_BadBound => k_is)
    (case t_BadBound => k_is)
    (case L_BadBound => k_is)
    (case R_BadBound => decide +kernel)
    (case sa_BadBound => k_is)
    (case ty_BadBound => k_is)
    (case no_BadBound => k_is)
    (case ga_BadBound => k_is)
    (case gg_BadBound => k_is)
    (case ex_BadBound => k_is)
    (case hd_BadBound => k_is)
    (case cl_BadBound => k_is)
    (case mo_BadBound => k_is)
    (case kc_BadBound => k_is)
    (case g_NoRule => k_is)
    (case a_NoRule => k_is)
    (case l_NoRule => k_is)
    (case c_NoRule => k_is)
    (case k_NoRule => k_is)
    (case t_NoRule => k_is)
    (case L_NoRule => k_is)
    (case R_NoRule => decide +kernel)
    (case sa_NoRule => k_is)
    (case ty_NoRule => k_is)
    (case no_NoRule => k_is)
    (case ga_NoRule => k_is)
    (case gg_NoRule => k_is)
    (case ex_NoRule => k_is)
    (case hd_NoRule => k_is)
    (case cl_NoRule => k_is)
    (case mo_NoRule => k_is)
    (case kc_NoRule => k_is)
    (case g_TooGreat => k_is)
    (case xi_TooGreat => k_exc)
    (case ga_TooGreat => k_is)
    (case gg_TooGreat => k_is)
    (case ex_TooGreat => k_is)
    (case hd_TooGreat => k_is)
    (case cl_TooGreat => k_is)
    (case mo_TooGreat => k_is)
    (case kc_TooGreat => k_is)
    (case g_NothingToUndo => k_is)
    (case xi_NothingToUndo => k_exc)
    (case ga_NothingToUndo => k_is)
    (case gg_NothingToUndo => k_is)
    (case ex_NothingToUndo => k_is)
    (case hd_NothingToUndo => k_is)
    (case cl_NothingToUndo => k_is)
    (case mo_NothingToUndo => k_is)
    (case kc_NothingToUndo => k_is)
    (case sp => k_is)
    (case tk => k_is)
    (case a_law_state => k_is)
    (case l_law_state => k_is)
    (case c_law_state => k_is)
    (case k_law_state => k_is)
    (case a_law_draw => k_is)
    (case l_law_draw => k_is)
    (case c_law_draw => k_is)
    (case k_law_draw => k_is)
    (case a_law_cell => k_is)
    (case l_law_cell => k_is)
    (case c_law_cell => k_is)
    (case k_law_cell => k_is)
    (case a_law_numbered => k_is)
    (case l_law_numbered => k_is)
    (case c_law_numbered => k_is)
    (case k_law_numbered => k_is)
    (case a_law_others => k_is)
    (case l_law_others => k_is)
    (case c_law_others => k_is)
    (case k_law_others => k_is)
    (case a_law_kinds => k_is)
    (case l_law_kinds => k_is)
    (case c_law_kinds => k_is)
    (case k_law_kinds => k_is)
    (case a_law => k_is)
    (case l_law => k_is)
    (case c_law => k_is)
    (case k_law => k_is)
    (case z_int => k_is)
    (case z_len => k_is)
    (case z_max => k_is)
    (case z_min => k_is)
    (case z_range => k_is)
    (case z_isinstance => k_is)
    (case z_ValueError => k_is)
    (case kitS => exact of_decide_eq_true (by kernel_rfl))
    (case kitV => exact of_decide_eq_true (by kernel_rfl))
    (case kit => exact of_decide_eq_true (by kernel_rfl))
#print axioms PySem.Challenge.cw_splitalike_k71_errors_stand_apart_holds

