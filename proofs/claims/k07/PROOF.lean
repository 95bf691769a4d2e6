import PyProof.Rows.All
import Wide.All
import OpenK.AllK
import Wide.FinOn
import HandS.ForMost
import HandS.Evl
import PyProof.StrOps2
import HandS.Conv
import HandS.More
import HandS.DictComp
import KE.KStar
import HandS.Small
import KE.KeyNested
import HandS.Walk
import HandS.Wide
import HandS.TupAny
import HandS.TupMul
import HandS.Deep
import HandS.IsInst
import HandS.Flow
import KE.GoesEnum
import HandS.Defaults
import HandS.Property
import HandS.ClsMeth
import HandS.Zip
import HandS.MapJoin
import HandS.OwnEq
import HandS.Exc
import HandS.ExcOwn
import HandS.ExcInit
import HandS.ExcField
import HandS.ExcValue
import HandS.ExcIs
import KE.KExcIs
import HandS.WordsExc
import HandS.HeadHook3
import PySem.Challenge.RW_splitalike_k07_whole_rows_by_runs
set_option Elab.async false
set_option linter.all false
set_option maxRecDepth 100000
/-! Readings, one step at a time: what a reading asks, by its head. -/
namespace Rd
open PySem L2
section
variable {K : PySem.W.Frag} {σ : L2.St} {H : Hp} {ta tb tc te : TE} {t u : TT} {x y z v : V} {r r' : R2} {D : Ends} {s s1 s2 : TS} {Q : VK} {QB : Bool → Hp → Prop} {QA : List V → Hp → Prop} {QS : L2.St → Hp → Prop} {g : TG} {A A' : TA}
theorem i_var {i : Nat} (h : σ[i]? = some (some v)) (q : Q v H) : tVar i σ H Q := ⟨v, h, q⟩
theorem i_c (q : Q v H) : tC v σ H Q := q
theorem i_op (q : ta σ H fun x H1 => tb σ H1 fun y H2 => r x y H2 Q) : tOp r ta tb σ H Q := q
theorem i_un {r : V → Hp → VK → Prop} (q : ta σ H fun x H1 => r x H1 Q) : tUn r ta σ H Q := q
theorem i_rI0 {g : Int → Int → V} {i j : Int} (q : Q (g i j) H) : rI0 g (.int i) (.int j) H Q := ⟨i, j, rfl, rfl, q⟩
theorem i_rI {C : Int → Int → Prop} {g : Int → Int → V} {i j : Int} (c : C i j) (q : Q (g i j) H) : rI C g (.int i) (.int j) H Q := ⟨i, j, rfl, rfl, c, q⟩
theorem i_rEq (s : scal x y = true) (q : Q (.bl (decide (x = y))) H) : rEq x y H Q := ⟨s, q⟩
theorem i_rNe (s : scal x y = true) (q : Q (.bl (!decide (x = y))) H) : rNe x y H Q := ⟨s, q⟩
theorem i_test (q : ta σ H fun x H' => ∃ k, x = .bl k ∧ QB k H') : tTest ta σ H QB := q
theorem i_tB (q : ta σ H fun x H' => ∃ k, x = .bl k ∧ QB k H') : tB ta σ H QB := q
theorem i_bl {b : Bool} {R : Bool → Prop} (q : R b) : ∃ k, V.bl b = V.bl k ∧ R k := ⟨b, rfl, q⟩
theorem i_and (q : t σ H fun c H1 => if c = true then u σ H1 QB else QB false H1) : tAnd t u σ H QB := q
theorem i_or (q : t σ H fun c H1 => if c = true then QB true H1 else u σ H1 QB) : tOr t u σ H QB := q
theorem i_not (q : t σ H fun c H1 => QB (!c) H1) : tNot t σ H QB := q
theorem i_notV (q : ta σ H fun x H1 => ∃ c, x = .bl c ∧ Q (.bl (!c)) H1) : tNotV ta σ H Q := q
theorem i_andV (q : ta σ H fun x H1 => ∃ c, x = .bl c ∧ if c = true then tb σ H1 Q else Q (.bl false) H1) : tAndV ta tb σ H Q := q
theorem i_orV (q : ta σ H fun x H1 => ∃ c, x = .bl c ∧ if c = true then Q (.bl true) H1 else tb σ H1 Q) : tOrV ta tb σ H Q := q
theorem i_if (q : t σ H fun c H1 => if c = true then ta σ H1 Q else tb σ H1 Q) : tIf t ta tb σ H Q := q
theorem i_chain (q : ta σ H fun x H1 => tb σ H1 fun y H2 => r x y H2 fun z H3 => ∃ k, z = .bl k ∧ (if k = true then tc σ H3 fun w' H4 => r' y w' H4 Q else Q (.bl false) H3)) : tChain r r' ta tb tc σ H Q := q
theorem i_call {sp : Sp} {dvs : List V} {E : XK} (q : A σ H fun vs H1 => sp (vs ++ dvs) H1 Q E) : tCall sp dvs E A σ H Q := q
theorem i_nil (q : QA [] H) : tNil σ H QA := q
theorem i_cons (q : ta σ H fun x H1 => A σ H1 fun xs H2 => QA (x :: xs) H2) : tCons ta A σ H QA := q
theorem i_cb {r : List V → Hp → VK → Prop} (q : A σ H fun vs H1 => r vs H1 Q) : tCB r A σ H Q := q
theorem i_bm {T : String} {r : V → List V → Hp → VK → Prop} (q : ta σ H fun x H1 => tyV K T x H1 ∧ A σ H1 fun xs H2 => r x xs H2 Q) : tBM K T r ta A σ H Q := q
theorem i_bm0 {T : String} {r : V → List V → Hp → VK → Prop} (q : ta σ H fun x H1 => tyV K T x H1 ∧ r x [] H1 Q) : tBM0 K T r ta σ H Q := q
theorem i_tup (q : A σ H fun xs H1 => xs.length ≤ sizeLine ∧ ∀ p, H1 p = none → Q (.ref p) (upd H1 p (.tup xs))) : tTup A σ H Q := q
theorem i_lst (q : A σ H fun xs H1 => xs.length ≤ sizeLine ∧ ∀ p, H1 p = none → Q (.ref p) (upd H1 p (.lst xs))) : tLst A σ H Q := q
theorem i_seq (q : s1 { D with nx := s2 D } σ H) : tSeq s1 s2 D σ H := q
theorem i_asg (q : te σ H fun x H1 => g x σ H1 D.nx) : tAsg te g D σ H := q
theorem i_name {i : Nat} (q : QS (σ.set i (some v)) H) : gName i v σ H QS := q
theorem i_sub {ts : TSet} (q : ta σ H fun o H1 => tb σ H1 fun i H2 => ts o i v H2 fun H3 => QS σ H3) : gSub ta tb ts v σ H QS := q
theorem i_ret (q : te σ H D.rt) : tRet te D σ H := q
theorem i_drop (q : te σ H fun _ H1 => D.nx σ H1) : tDrop te D σ H := q
theorem i_ifS (q : t σ H fun b H1 => if b = true then s1 D σ H1 else s2 D σ H1) : tIfS t s1 s2 D σ H := q
theorem i_next (q : D.nx σ H) : tNext D σ H := q
theorem i_nx {f b c : L2.St → Hp → Prop} {r : VK} (q : f σ H) : Ends.nx ⟨f, r, b, c⟩ σ H := q
theorem i_rt {f b c : L2.St → Hp → Prop} {r : VK} (q : r v H) : Ends.rt ⟨f, r, b, c⟩ v H := q
theorem i_bk {f b c : L2.St → Hp → Prop} {r : VK} (q : b σ H) : Ends.bk ⟨f, r, b, c⟩ σ H := q
theorem i_ct {f b c : L2.St → Hp → Prop} {r : VK} (q : c σ H) : Ends.ct ⟨f, r, b, c⟩ σ H := q
theorem i_ixL {p : Addr} {xs : List V} {i : Int} (h : SqL K H p xs) (e : atI xs i = some v) (q : Q v H) : rIxL K (.ref p) (.int i) H Q := ⟨p, xs, i, v, rfl, rfl, h, e, q⟩
theorem i_ixT {p : Addr} {xs : List V} {i : Int} (h : SqT K H p xs) (e : atI xs i = some v) (q : Q v H) : rIxT K (.ref p) (.int i) H Q := ⟨p, xs, i, v, rfl, rfl, h, e, q⟩
theorem i_ixS {z : Str} {i : Int} {c : Nat} (h : z.length ≤ sizeLine) (e : atI z.cps.toList i = some c) (q : Q (.str ⟨#[c]⟩) H) : rIxS (.str z) (.int i) H Q := ⟨z, i, c, rfl, rfl, h, e, q⟩
theorem i_setL {p : Addr} {xs : List V} {k : Int} {j : Nat} {QH : Hp → Prop} (h : H p = some (.lst xs)) (e : ixN xs.length k = some j) (q : QH (upd H p (.lst (xs.set j v)))) : rSetL (.ref p) (.int k) v H QH := ⟨p, xs, k, j, rfl, rfl, h, e, q⟩
theorem i_int1 {i : Int} {R : Int → Prop} {R2 : Prop} (q : R i) : (∃ j, [V.int i] = [V.int j] ∧ R j) ∨ R2 := .inl ⟨i, rfl, q⟩
theorem i_intb {b : Bool} {R : Bool → Prop} {R2 : Prop} (q : R b) : R2 ∨ ∃ k, [V.bl b] = [V.bl k] ∧ R k := .inr ⟨b, rfl, q⟩
theorem i_len {p : Addr} {xs : List V} {R : List V → Prop} (h : SqL K H p xs) (q : R xs) : ∃ p' ys, [V.ref p] = [V.ref p'] ∧ (SqL K H p' ys ∨ SqT K H p' ys) ∧ R ys := ⟨p, xs, rfl, .inl h, q⟩
theorem i_lenT {p : Addr} {xs : List V} {R : List V → Prop} (h : SqT K H p xs) (q : R xs) : ∃ p' ys, [V.ref p] = [V.ref p'] ∧ (SqL K H p' ys ∨ SqT K H p' ys) ∧ R ys := ⟨p, xs, rfl, .inr h, q⟩
theorem i_max {i j : Int} {R : Int → Int → Prop} (q : R i j) : ∃ i' j', [V.int i, V.int j] = [V.int i', V.int j'] ∧ R i' j' := ⟨i, j, rfl, q⟩

theorem i_append {p : Addr} {xs : List V} (h : H p = some (.lst xs)) (hz : xs.length < sizeLine) (q : Q .non (upd H p (.lst (xs ++ [v])))) : rAppend (.ref p) [v] H Q := ⟨p, xs, v, rfl, rfl, h, hz, q⟩
theorem i_catL {p b : Addr} {xs zs : List V} (h1 : H p = some (.lst xs)) (h2 : H b = some (.lst zs)) (hz : xs.length + zs.length ≤ sizeLine) (q : ∀ a, H a = none → Q (.ref a) (upd H a (.lst (xs ++ zs)))) : rCat (.ref p) (.ref b) H Q := ⟨p, b, xs, zs, rfl, rfl, h1, h2, hz, q⟩
theorem i_gtup {p : Addr} {xs : List V} {n : Nat} {tg : TGs} (h : SqT K H p xs) (e : xs.length = n) (q : tg xs σ H QS) : gTup K n tg (.ref p) σ H QS := ⟨p, xs, rfl, h, e, q⟩
theorem i_gcons {tg : TG} {ug : TGs} {vs : List V} (q : tg v σ H fun σ' H' => ug vs σ' H' QS) : gCons tg ug (v :: vs) σ H QS := ⟨v, vs, rfl, q⟩
theorem i_gnil (q : QS σ H) : gNil [] σ H QS := ⟨rfl, q⟩
theorem i_yes {QB : Bool → Hp → Prop} (q : QB true H) : tYes σ H QB := q
theorem i_m1 {r : V → List V → Hp → VK → Prop} (q : ta σ H fun x H1 => (∃ a, x = .str a) ∧ tb σ H1 fun y H2 => r x [y] H2 Q) : tM1 r ta tb σ H Q := q
theorem i_m0 {r : V → List V → Hp → VK → Prop} (q : ta σ H fun x H1 => (∃ a, x = .str a) ∧ r x [] H1 Q) : tM0 r ta σ H Q := q
/-- what a comprehension asks behind its source -/
def LcAsk (J : L2.It) (g : TG) (t : TT) (te : TE) (vs : List Nat) (σ : L2.St) (Q : VK) (H1 : Hp) : Prop := ∀ D, H1 D = none → ∃ W : Nat → Nat → Hp → Prop, (∃ m, W 0 m (upd H1 D (.lst []))) ∧ ∀ i m H, W i m H →
  (J.stop i H ∧ Q (.ref D) H) ∨ (J.go i H ∧ ∃ Nx : Hp → Prop, (∀ H', Nx H' → ∃ m', m' < m ∧ W (i + 1) m' H') ∧ ∀ x H', J.yld i H x H' → g x (wipe σ vs) H' fun σ2 H2 => wipe σ2 vs = wipe σ vs ∧ t σ2 H2 fun b H3 =>
    if b = true then te σ2 H3 fun y H4 => ∃ acc, H4 D = some (.lst acc) ∧ acc.length < sizeLine ∧ Nx (upd H4 D (.lst (acc ++ [y]))) else Nx H3)
theorem i_lcR {vs : List Nat} (q : A σ H fun ws H1 => ∃ j : Int, ws = [.int j] ∧ -(2 ^ 62) ≤ j ∧ j < 2 ^ 62 ∧ LcAsk (Itr 0 j.toNat) g t te vs σ Q H1) : tLc (iRng1 A) g t te vs σ H Q := q
theorem i_lcR2 {vs : List Nat} (q : A σ H fun ws H1 => ∃ i j : Int, ws = [.int i, .int j] ∧ (-(2 ^ 62) ≤ i ∧ i < 2 ^ 62 ∧ -(2 ^ 62) ≤ j ∧ j < 2 ^ 62) ∧ LcAsk (Itr i (j - i).toNat) g t te vs σ Q H1) : tLc (iRng2 A) g t te vs σ H Q := q
theorem i_lcL {vs : List Nat} (q : ta σ H fun x H1 => ∃ a, x = .ref a ∧ (∃ xs, SqL K H1 a xs) ∧ LcAsk (Itl K a) g t te vs σ Q H1) : tLc (iList K ta) g t te vs σ H Q := q
theorem i_lcT {vs : List Nat} (q : ta σ H fun x H1 => ∃ a, x = .ref a ∧ (∃ xs, SqT K H1 a xs) ∧ LcAsk (Itt K a) g t te vs σ Q H1) : tLc (iTup K ta) g t te vs σ H Q := q
theorem lcR {n : Int} {vs : List Nat} (h1 : -(2 ^ 62) ≤ n) (h2 : n < 2 ^ 62) (q : ∀ D, H D = none → ∃ Pv : Nat → Hp → Prop, Pv 0 (upd H D (.lst [])) ∧
    (∀ (i : Nat) H2, (i : Int) < n → Pv i H2 → g (.int (i : Int)) (wipe σ vs) H2 fun σ2 H2 => wipe σ2 vs = wipe σ vs ∧ t σ2 H2 fun b H3 =>
      if b = true then te σ2 H3 fun y H4 => ∃ acc, H4 D = some (.lst acc) ∧ acc.length < sizeLine ∧ Pv (i + 1) (upd H4 D (.lst (acc ++ [y]))) else Pv (i + 1) H3) ∧ ∀ H2, Pv n.toNat H2 → Q (.ref D) H2) :
    ∃ j : Int, [V.int n] = [.int j] ∧ -(2 ^ 62) ≤ j ∧ j < 2 ^ 62 ∧ LcAsk (Itr 0 j.toNat) g t te vs σ Q H := by
  refine ⟨n, rfl, h1, h2, fun D hD => ?_⟩
  obtain ⟨Pv, p0, ps, pd⟩ := q D hD
  exact lc_range (lo := 0) (n := n.toNat) Pv p0 (fun i H2 hi p => by rw [Int.zero_add]; exact ps i H2 (by omega) p) pd
theorem lcR2 {m n : Int} {vs : List Nat} (h0 : 0 ≤ m) (h1 : m < 2 ^ 62) (h2 : -(2 ^ 62) ≤ n) (h3 : n < 2 ^ 62) (q : ∀ D, H D = none → ∃ Pv : Nat → Hp → Prop, Pv 0 (upd H D (.lst [])) ∧
    (∀ (i : Nat) H2, m + (i : Int) < n → Pv i H2 → g (.int (m + (i : Int))) (wipe σ vs) H2 fun σ2 H2 => wipe σ2 vs = wipe σ vs ∧ t σ2 H2 fun b H3 =>
      if b = true then te σ2 H3 fun y H4 => ∃ acc, H4 D = some (.lst acc) ∧ acc.length < sizeLine ∧ Pv (i + 1) (upd H4 D (.lst (acc ++ [y]))) else Pv (i + 1) H3) ∧ ∀ H2, Pv (n - m).toNat H2 → Q (.ref D) H2) :
    ∃ i j : Int, [V.int m, V.int n] = [.int i, .int j] ∧ (-(2 ^ 62) ≤ i ∧ i < 2 ^ 62 ∧ -(2 ^ 62) ≤ j ∧ j < 2 ^ 62) ∧ LcAsk (Itr i (j - i).toNat) g t te vs σ Q H := by
  refine ⟨m, n, rfl, ⟨by omega, h1, h2, h3⟩, fun D hD => ?_⟩
  obtain ⟨Pv, p0, ps, pd⟩ := q D hD
  exact lc_range (lo := m) (n := (n - m).toNat) Pv p0 (fun i H2 hi p => ps i H2 (by omega) p) pd
theorem lcL {a : Addr} {xs : List V} {vs : List Nat} (h : SqL K H a xs) (q : ∀ D, H D = none → ∃ Pv : Nat → Hp → Prop, Pv 0 (upd H D (.lst [])) ∧ (∀ i H2, i ≤ xs.length → Pv i H2 → SqL K H2 a xs) ∧
    (∀ (i : Nat) x H2, xs[i]? = some x → Pv i H2 → g x (wipe σ vs) H2 fun σ2 H2 => wipe σ2 vs = wipe σ vs ∧ t σ2 H2 fun b H3 =>
      if b = true then te σ2 H3 fun y H4 => ∃ acc, H4 D = some (.lst acc) ∧ acc.length < sizeLine ∧ Pv (i + 1) (upd H4 D (.lst (acc ++ [y]))) else Pv (i + 1) H3) ∧ ∀ H2, Pv xs.length H2 → Q (.ref D) H2) :
    ∃ a', V.ref a = .ref a' ∧ (∃ ys, SqL K H a' ys) ∧ LcAsk (Itl K a') g t te vs σ Q H := by
  refine ⟨a, rfl, ⟨xs, h⟩, fun D hD => ?_⟩
  obtain ⟨Pv, p0, pl, ps, pd⟩ := q D hD
  exact lc_list (xs := xs) Pv p0 pl ps pd
theorem lcT {a : Addr} {xs : List V} {vs : List Nat} (h : SqT K H a xs) (q : ∀ D, H D = none → ∃ Pv : Nat → Hp → Prop, Pv 0 (upd H D (.lst [])) ∧ (∀ i H2, i ≤ xs.length → Pv i H2 → SqT K H2 a xs) ∧
    (∀ (i : Nat) x H2, xs[i]? = some x → Pv i H2 → g x (wipe σ vs) H2 fun σ2 H2 => wipe σ2 vs = wipe σ vs ∧ t σ2 H2 fun b H3 =>
      if b = true then te σ2 H3 fun y H4 => ∃ acc, H4 D = some (.lst acc) ∧ acc.length < sizeLine ∧ Pv (i + 1) (upd H4 D (.lst (acc ++ [y]))) else Pv (i + 1) H3) ∧ ∀ H2, Pv xs.length H2 → Q (.ref D) H2) :
    ∃ a', V.ref a = .ref a' ∧ (∃ ys, SqT K H a' ys) ∧ LcAsk (Itt K a') g t te vs σ Q H := by
  refine ⟨a, rfl, ⟨xs, h⟩, fun D hD => ?_⟩
  obtain ⟨Pv, p0, pl, ps, pd⟩ := q D hD
  exact lc_tup (xs := xs) Pv p0 pl ps pd
/-- what a for asks behind its source -/
def ForAsk (J : L2.It) (g : TG) (tb : TS) (D : Ends) (σ : L2.St) (H1 : Hp) : Prop := ∃ W : Nat → Nat → L2.St → Hp → Prop, (∃ m, W 0 m σ H1) ∧ ∀ i m σ H, W i m σ H →
  (J.stop i H ∧ D.nx σ H) ∨ (J.go i H ∧ ∃ N : L2.St → Hp → Prop, (∀ σ' H', N σ' H' → ∃ m', m' < m ∧ W (i + 1) m' σ' H') ∧ ∀ x H', J.yld i H x H' → g x σ H' fun σ2 H2 => tb { D with nx := N, ct := N, bk := D.nx } σ2 H2)
theorem i_forR (q : A σ H fun ws H1 => ∃ j : Int, ws = [.int j] ∧ -(2 ^ 62) ≤ j ∧ j < 2 ^ 62 ∧ ForAsk (Itr 0 j.toNat) g s D σ H1) : tFor (iRng1 A) g s D σ H := q
theorem i_forL (q : ta σ H fun x H1 => ∃ a, x = .ref a ∧ (∃ xs, SqL K H1 a xs) ∧ ForAsk (Itl K a) g s D σ H1) : tFor (iList K ta) g s D σ H := q
theorem i_forT (q : ta σ H fun x H1 => ∃ a, x = .ref a ∧ (∃ xs, SqT K H1 a xs) ∧ ForAsk (Itt K a) g s D σ H1) : tFor (iTup K ta) g s D σ H := q
theorem forR {n : Int} (h1 : -(2 ^ 62) ≤ n) (h2 : n < 2 ^ 62) (Pv : Nat → L2.St → Hp → Prop) (p0 : Pv 0 σ H)
    (ps : ∀ (i : Nat) σ H, (i : Int) < n → Pv i σ H → g (.int (i : Int)) σ H fun σ2 H2 => s { D with nx := Pv (i + 1), ct := Pv (i + 1), bk := D.nx } σ2 H2) (pd : ∀ σ H, Pv n.toNat σ H → D.nx σ H) :
    ∃ j : Int, [V.int n] = [.int j] ∧ -(2 ^ 62) ≤ j ∧ j < 2 ^ 62 ∧ ForAsk (Itr 0 j.toNat) g s D σ H :=
  ⟨n, rfl, h1, h2, for_range (lo := 0) (n := n.toNat) Pv p0 (fun i σ H hi p => by rw [Int.zero_add]; exact ps i σ H (by omega) p) pd⟩
theorem forL {a : Addr} {xs : List V} (h : SqL K H a xs) (Pv : Nat → L2.St → Hp → Prop) (p0 : Pv 0 σ H) (pl : ∀ i σ H, i ≤ xs.length → Pv i σ H → SqL K H a xs)
    (ps : ∀ i x σ H, xs[i]? = some x → Pv i σ H → g x σ H fun σ2 H2 => s { D with nx := Pv (i + 1), ct := Pv (i + 1), bk := D.nx } σ2 H2) (pd : ∀ σ H, Pv xs.length σ H → D.nx σ H) :
    ∃ a', V.ref a = .ref a' ∧ (∃ ys, SqL K H a' ys) ∧ ForAsk (Itl K a') g s D σ H := ⟨a, rfl, ⟨xs, h⟩, for_list (xs := xs) Pv p0 pl ps pd⟩
theorem forT {a : Addr} {xs : List V} (h : SqT K H a xs) (Pv : Nat → L2.St → Hp → Prop) (p0 : Pv 0 σ H) (pl : ∀ i σ H, i ≤ xs.length → Pv i σ H → SqT K H a xs)
    (ps : ∀ i x σ H, xs[i]? = some x → Pv i σ H → g x σ H fun σ2 H2 => s { D with nx := Pv (i + 1), ct := Pv (i + 1), bk := D.nx } σ2 H2) (pd : ∀ σ H, Pv xs.length σ H → D.nx σ H) :
    ∃ a', V.ref a = .ref a' ∧ (∃ ys, SqT K H a' ys) ∧ ForAsk (Itt K a') g s D σ H := ⟨a, rfl, ⟨xs, h⟩, for_tup (xs := xs) Pv p0 pl ps pd⟩
/-- ways -/
theorem ite_d {p : Prop} [Decidable p] {a b : Prop} (h1 : p → a) (h2 : ¬ p → b) : if decide p = true then a else b := by
  by_cases h : p
  · rw [if_pos (decide_eq_true h)]; exact h1 h
  · rw [if_neg (by rw [decide_eq_false h]; exact Bool.false_ne_true)]; exact h2 h
theorem ite_nd {p : Prop} [Decidable p] {a b : Prop} (h1 : p → b) (h2 : ¬ p → a) : if (!decide p) = true then a else b := by
  by_cases h : p
  · rw [decide_eq_true h, if_neg (by decide)]; exact h1 h
  · rw [decide_eq_false h, if_pos (by decide)]; exact h2 h
theorem ite_b {c : Bool} {a b : Prop} (h1 : c = true → a) (h2 : c = false → b) : if c = true then a else b := by
  cases c
  · rw [if_neg Bool.false_ne_true]; exact h2 rfl
  · rw [if_pos rfl]; exact h1 rfl
theorem ite_vi {i j : Int} {a b : Prop} (h1 : i = j → a) (h2 : i ≠ j → b) : if decide (V.int i = V.int j) = true then a else b := ite_d (fun e => h1 (V.int.inj e)) fun n => h2 fun e => n (by rw [e])
theorem ite_T {a b : Prop} (h : a) : if true = true then a else b := by rw [if_pos rfl]; exact h
theorem ite_F {a b : Prop} (h : b) : if false = true then a else b := by rw [if_neg Bool.false_ne_true]; exact h
theorem mulL {i j : Int} (h1 : -(2 ^ 64) < i) (h2 : i < 2 ^ 64) : CMul i j := .inl ⟨h1, h2⟩
theorem mulR {i j : Int} (h1 : -(2 ^ 64) < j) (h2 : j < 2 ^ 64) : CMul i j := .inr ⟨h1, h2⟩
/-- fields of new things -/
theorem up_ne {H : Hp} {a b : Addr} {o : HO} {u : HO} (hn : H a = none) (h : H b = some u) : upd H a o b = some u := by rw [upd_ne (ne_of_none h hn)]; exact h
end
end Rd

set_option maxHeartbeats 4000000
/-! The heap without some addresses (what may change), a pen of draws, texts times ints. -/
namespace Hd
open PySem PySem.Spec PyProof.Rows L2 Evl
/-- the heap without the addresses of S -/
def hid (S : List Addr) (H : Hp) : Hp := fun b => if b ∈ S then none else H b
theorem hid_iff {S : List Addr} {H : Hp} {b : Addr} {o : HO} : hid S H b = some o ↔ b ∉ S ∧ H b = some o := by
  unfold hid
  by_cases h : b ∈ S
  · rw [if_pos h]
    constructor
    · intro z; cases z
    · intro z; exact absurd h z.1
  · rw [if_neg h]
    exact ⟨fun z => ⟨h, z⟩, fun z => z.2⟩
theorem hid_get {S : List Addr} {H : Hp} {b : Addr} {o : HO} (h : hid S H b = some o) : H b = some o := (hid_iff.mp h).2
theorem hid_sub {S : List Addr} {H : Hp} : Ex (hid S H) H := fun _ _ h => hid_get h
/-- an extension of the whole is one of the rest -/
theorem hid_ex {S : List Addr} {H H' : Hp} (e : Ex H H') : Ex (hid S H) (hid S H') := fun b o h => by
  obtain ⟨h1, h2⟩ := hid_iff.mp h
  exact hid_iff.mpr ⟨h1, e _ _ h2⟩
/-- more is hidden -/
theorem hid_more {S S' : List Addr} {H H' : Hp} (e : Ex (hid S H) (hid S H')) (hs : ∀ a ∈ S, a ∈ S') : Ex (hid S' H) (hid S' H') := fun b o h => by
  obtain ⟨h1, h2⟩ := hid_iff.mp h
  exact hid_iff.mpr ⟨h1, hid_get (e b o (hid_iff.mpr ⟨fun z => h1 (hs _ z), h2⟩))⟩
theorem hid_upd {S : List Addr} {H : Hp} {a : Addr} {o : HO} (ha : a ∈ S) : hid S (upd H a o) = hid S H := by
  funext b
  unfold hid
  by_cases h : b ∈ S
  · rw [if_pos h, if_pos h]
  · rw [if_neg h, if_neg h, upd_ne (fun z => h (by rw [z]; exact ha))]
theorem hid_new {S : List Addr} {H : Hp} {a : Addr} {o : HO} (h : H a = none) : Ex (hid S H) (hid S (upd H a o)) := hid_ex (Ex.new h)
/-- a pen: the list at p holds the list at q and a number; the list at q holds ints -/
def Pen (H : Hp) (p q : Addr) (s : Int) : Prop := 0 ≤ s ∧ ∃ ns : List Int, H p = some (.lst [.ref q, .int s]) ∧ H q = some (.lst (ns.map V.int)) ∧ ns ≠ [] ∧ ns.length ≤ 100
theorem Pen.ne {H : Hp} {p q : Addr} {s : Int} (h : Pen H p q s) : p ≠ q := by
  obtain ⟨_, ns, h1, h2, _, _⟩ := h
  intro e
  rw [e, h2] at h1
  cases ns with
  | nil => cases h1
  | cons n r => cases h1
theorem Pen.at {H H' : Hp} {p q : Addr} {s : Int} (h : Pen H p q s) (h1 : ∀ o, H p = some o → H' p = some o) (h2 : ∀ o, H q = some o → H' q = some o) : Pen H' p q s := by
  obtain ⟨a, ns, b, c, d, e⟩ := h
  exact ⟨a, ns, h1 _ b, h2 _ c, d, e⟩
theorem Pen.ex {H H' : Hp} {p q : Addr} {s : Int} (h : Pen H p q s) (e : Ex H H') : Pen H' p q s := h.at (fun o z => e _ _ z) (fun o z => e _ _ z)
/-- what is new is not the pen -/
theorem Pen.new {H : Hp} {p q a : Addr} {s : Int} (h : Pen H p q s) (n : H a = none) : a ∉ [p, q] := by
  obtain ⟨_, ns, b, c, _, _⟩ := h
  intro z
  rcases List.mem_cons.mp z with rfl | z
  · rw [n] at b; cases b
  · rcases List.mem_cons.mp z with rfl | z
    · rw [n] at c; cases c
    · cases z
theorem hid_pen_new {H : Hp} {p q a : Addr} {s : Int} {o : HO} (h : Pen H p q s) (n : H a = none) : hid [p, q] (upd H a o) a = some o := hid_iff.mpr ⟨h.new n, upd_same⟩
/-- the rest stands, and nothing that was free of it is known -/
def But2 (p q : Addr) (H H' : Hp) : Prop := ∀ b, b ≠ p → b ≠ q → H' b = H b
theorem But2.ex {p q : Addr} {H H' : Hp} (h : But2 p q H H') : Ex (hid [p, q] H) (hid [p, q] H') := fun b o z => by
  obtain ⟨h1, h2⟩ := hid_iff.mp z
  refine hid_iff.mpr ⟨h1, ?_⟩
  rw [h b (fun e => h1 (by rw [e]; exact List.mem_cons_self)) (fun e => h1 (by rw [e]; exact List.mem_cons_of_mem _ List.mem_cons_self))]
  exact h2
/-- text times int -/
def strRep (x : Str) (n : Nat) : Str := ⟨(List.replicate n x.cps.toList).flatten.toArray⟩
theorem fold_flat {l : List (Array Nat)} : ∀ {a : Array Nat}, (l.foldl (· ++ ·) a).toList = a.toList ++ (l.map (·.toList)).flatten := by
  induction l with
  | nil => intro a; simp
  | cons x r ih => intro a; rw [List.foldl_cons, ih]; simp [List.append_assoc]
theorem short {a b : Nat} (h1 : a ≤ 100) (h2 : b ≤ 100) : Builtin.Str.tooLong (a * b) = false := by
  have h : a * b ≤ 100 * 100 := Nat.mul_le_mul h1 h2
  unfold Builtin.Str.tooLong
  simp only [decide_eq_false_iff_not]
  rw [sizeLine_eq]
  omega
theorem op_mulS {X : Cx} : OpR X (binaryOp .Mult) (fun x y H Q => ∃ z k, x = .str z ∧ y = .int k ∧ 1 ≤ k ∧ k ≤ 100 ∧ z.length ≤ 100 ∧ Q (.str (strRep z k.toNat)) H) := by
  intro pins s σ H x y v u Q I rx ry h
  obtain ⟨z, k, rfl, rfl, h1, h2, h3, q⟩ := h
  obtain ⟨t, rfl⟩ := rx
  obtain ⟨t', rfl⟩ := ry
  refine PySem.P.mul_str ?_ (fun _ _ => ?_) (fun _ _ => ?_) ?_
  · simp only [Bool.or_eq_false_iff, decide_eq_false_iff_not]
    constructor <;> omega
  · have : (2 ^ 63 - 1 : Int) / k ≥ 100 := by
      have h0 : (100 : Int) ≤ (2 ^ 63 - 1) / k ↔ 100 * k ≤ 2 ^ 63 - 1 := Int.le_ediv_iff_mul_le (by omega)
      exact h0.mpr (by omega)
    omega
  · have : z.length * k.toNat ≤ 100 * 100 := Nat.mul_le_mul h3 (by omega)
    exact short h3 (by omega)
  · rw [if_neg (by omega)]
    split
    · rename_i hz
      have e : strRep z k.toNat = z := by
        rw [Bool.or_eq_true] at hz
        rcases hz with hz | hz
        · have : k = 1 := by simpa using hz
          subst this
          unfold strRep
          simp
        · have z0 : z.length = 0 := by simpa using hz
          have zc : z.cps = #[] := Array.eq_empty_of_size_eq_zero z0
          unfold strRep
          obtain ⟨c⟩ := z
          simp only at zc
          subst zc
          simp
      rw [e] at q
      exact ⟨.str z, H, I, ⟨t, rfl⟩, q⟩
    · have e : (⟨(List.replicate k.toNat z.cps).foldl (· ++ ·) #[]⟩ : Str) = strRep z k.toNat := by
        unfold strRep
        congr 1
        apply Array.toList_inj.mp
        rw [fold_flat]
        simp
      refine ⟨PySem.fits_reps (short h3 (by omega)), ?_⟩
      rw [e]
      exact ⟨.str (strRep z k.toNat), H, I.tok _, ⟨_, rfl⟩, q⟩
end Hd
namespace Hd
open PySem PySem.Spec PyProof.Rows L2 Evl
/-- a fresh list is changed: the rest of the old heap stands -/
theorem hid_mut {S : List Addr} {H0 H : Hp} {D : Addr} {o : HO} (e : Ex (hid S H0) (hid S H)) (n : H0 D = none) : Ex (hid S H0) (hid S (upd H D o)) := fun b u h => by
  obtain ⟨h1, h2⟩ := hid_iff.mp h
  obtain ⟨h3, h4⟩ := hid_iff.mp (e b u h)
  exact hid_iff.mpr ⟨h1, by rw [upd_ne (ne_of_none h2 n)]; exact h4⟩
theorem Pen.mut {H : Hp} {p q D : Addr} {s : Int} {o : HO} (h : Pen H p q s) (hD : D ∉ [p, q]) : Pen (upd H D o) p q s :=
  h.at (fun u z => by rw [upd_ne (fun e => hD (by rw [← e]; exact List.mem_cons_self))]; exact z) (fun u z => by rw [upd_ne (fun e => hD (by rw [← e]; exact List.mem_cons_of_mem _ List.mem_cons_self))]; exact z)
theorem But2.at {p q b : Addr} {H H' : Hp} {o : HO} (h : But2 p q H H') (hb : b ∉ [p, q]) (e : H b = some o) : H' b = some o := by
  rw [h b (fun z => hb (by rw [z]; exact List.mem_cons_self)) (fun z => hb (by rw [z]; exact List.mem_cons_of_mem _ List.mem_cons_self))]
  exact e
theorem nin {S : List Addr} {H : Hp} {b : Addr} {o : HO} (h : hid S H b = some o) : b ∉ S := (hid_iff.mp h).1
theorem join_signs : ∀ cs : List Nat, Txt.join (Str.ofString "") (cs.map fun c => (⟨#[c]⟩ : Str)) = ⟨cs.toArray⟩ := by
  intro cs
  have h : TL.tl (Txt.join (Str.ofString "") (cs.map fun c => (⟨#[c]⟩ : Str))) = cs := by
    rw [TL.join_eq, TL.tl_join]
    rw [show TL.tl (Str.ofString "") = [] from by decide +kernel]
    rw [List.map_map]
    induction cs with
    | nil => rfl
    | cons c r ih =>
      cases r with
      | nil => rfl
      | cons d r =>
        show [c] ++ ([] ++ TL.joinL [] _) = _
        rw [List.nil_append]
        exact congrArg (c :: ·) ih
  generalize Txt.join (Str.ofString "") (cs.map fun c => (⟨#[c]⟩ : Str)) = x at h
  obtain ⟨a⟩ := x
  have h' : a.toList = cs := h
  subst h'
  rfl
end Hd
namespace Hd
open PySem PySem.Spec PyProof.Rows L2 Evl
theorem inV_str (a : Str) (ns : List Str) : inV (.str a) (ns.map V.str) = decide (a ∈ ns) := by
  unfold inV
  rw [List.any_map]
  apply Bool.eq_iff_iff.mpr
  rw [List.any_eq_true, decide_eq_true_iff]
  constructor
  · rintro ⟨x, hx, e⟩
    have : x = a := by simpa [eqV] using e
    rwa [← this]
  · intro h
    exact ⟨a, h, by simp [eqV]⟩
theorem flat_str (ns : List Str) : (ns.map V.str).all flatV = true := by
  rw [List.all_map]
  exact List.all_eq_true.mpr fun _ _ => rfl
theorem inV_int (a : Int) (ns : List Int) : inV (.int a) (ns.map V.int) = decide (a ∈ ns) := by
  unfold inV
  rw [List.any_map]
  apply Bool.eq_iff_iff.mpr
  rw [List.any_eq_true, decide_eq_true_iff]
  constructor
  · rintro ⟨x, hx, e⟩
    have : x = a := by simpa [eqV] using e
    rwa [← this]
  · intro h
    exact ⟨a, h, by simp [eqV]⟩
theorem flat_int (ns : List Int) : (ns.map V.int).all flatV = true := by
  rw [List.all_map]
  exact List.all_eq_true.mpr fun _ _ => rfl
section
variable {K : PySem.W.Frag} {σ : L2.St} {H : Hp} {p : Addr} {a : Str} {ns : List Str} {Q : VK} {t : TT} {te : TE}
theorem i_inS (h : SqL K H p (ns.map V.str) ∨ SqT K H p (ns.map V.str)) (q : Q (.bl (decide (a ∈ ns))) H) : rIn K false (.str a) (.ref p) H Q :=
  ⟨p, _, rfl, h, rfl, flat_str ns, by rw [inV_str]; exact q⟩
theorem i_ninS (h : SqL K H p (ns.map V.str) ∨ SqT K H p (ns.map V.str)) (q : Q (.bl (!decide (a ∈ ns))) H) : rIn K true (.str a) (.ref p) H Q :=
  ⟨p, _, rfl, h, rfl, flat_str ns, by rw [inV_str]; exact q⟩
theorem el_lcR2 {ta : TA} {j : Nat} {vs : List Nat} {m n : Int} (f : Nat → Bool) (v : Nat → V) (h : EvA ta σ H [.int m, .int n]) (hm : 0 ≤ m ∧ m ≤ 40000) (hn : 0 ≤ n ∧ n ≤ 40000) (hw : ∀ x, wipe ((wipe σ vs).set j (some x)) vs = wipe σ vs)
    (ht : ∀ (i : Nat) H1, Ex H H1 → m + (i : Int) < n → EvT t ((wipe σ vs).set j (some (.int (m + (i : Int))))) H1 (f i)) (he : ∀ (i : Nat) H1, Ex H H1 → m + (i : Int) < n → f i = true → Ev te ((wipe σ vs).set j (some (.int (m + (i : Int))))) H1 (v i)) :
    EvL (tLc (iRng2 ta) (gName j) t te vs) σ H (given (n - m).toNat f v) := fun H0 e Q q => h H0 e _ fun H1 e1 => ⟨m, n, rfl, ⟨by omega, by omega, by omega, by omega⟩, fun Dl hD =>
  lc_range (lo := m) (n := (n - m).toNat) (Cw H1 f v Dl) ⟨hD, Ex.new hD, upd_same⟩ (fun i H' hi p => ⟨hw _, cw_turn p (by omega) (ht i H1 (e.trans e1) (by omega)) (fun hf => he i H1 (e.trans e1) (by omega) hf)⟩) (fun H' p => q Dl H' (fresh_back e1 p.1) (e1.trans p.2.1) p.2.2)⟩
end
theorem nodup_len {α : Type} [DecidableEq α] : ∀ {l l' : List α}, l.Nodup → (∀ a ∈ l, a ∈ l') → l.length ≤ l'.length
  | [], _, _, _ => Nat.zero_le _
  | a :: r, l', nd, h => by
    obtain ⟨n1, n2⟩ := List.nodup_cons.mp nd
    have hm : a ∈ l' := h a List.mem_cons_self
    have ih := nodup_len (l := r) (l' := l'.erase a) n2 (fun b hb => by
      have hne : b ≠ a := fun e => n1 (by rw [← e]; exact hb)
      exact (List.mem_erase_of_ne hne).mpr (h b (List.mem_cons_of_mem _ hb)))
    rw [List.length_erase_of_mem hm] at ih
    have : 0 < l'.length := List.length_pos_of_mem hm
    rw [List.length_cons]
    omega
theorem given_mem {n : Nat} {f : Nat → Bool} {v : Nat → V} {i : Nat} (hi : i < n) (hf : f i = true) : ∃ j, j < n ∧ f j = true ∧ (given n f v)[0]? = some (v j) ∧ 0 < (given n f v).length := by
  have h1 : i ∈ (List.range n).filter f := List.mem_filter.mpr ⟨List.mem_range.mpr hi, hf⟩
  unfold given
  cases e : (List.range n).filter f with
  | nil => rw [e] at h1; cases h1
  | cons j r =>
    have h2 : j ∈ (List.range n).filter f := by rw [e]; exact List.mem_cons_self
    obtain ⟨h3, h4⟩ := List.mem_filter.mp h2
    exact ⟨j, List.mem_range.mp h3, h4, rfl, by rw [List.map_cons, List.length_cons]; omega⟩
end Hd
namespace Hd
open PySem PySem.Spec PyProof.Rows L2 Evl
theorem lay_ints : ∀ ns : List Int, PyData.canLayAll0 (ns.map PyData.int) = true
  | [] => rfl
  | n :: r => by
    show (PyData.canLay0 (.int n) && PyData.canLayAll0 (r.map PyData.int)) = true
    rw [lay_ints r]
    rfl
theorem depth_ints : ∀ ns : List Int, PyData.depthAll (ns.map PyData.int) = 0
  | [] => rfl
  | n :: r => by
    show max (PyData.depth (.int n)) (PyData.depthAll (r.map PyData.int)) = 0
    rw [depth_ints r]
    rfl
theorem shaped_ints (ns : List Int) : SeqAt.shaped (.list (ns.map PyData.int)) = true := by
  unfold SeqAt.shaped
  have h1 : (PyData.list (ns.map PyData.int)).canLay0 = true := lay_ints ns
  have h2 : (PyData.list (ns.map PyData.int)).depth = 1 := by
    show PyData.depthAll (ns.map PyData.int) + 1 = 1
    rw [depth_ints]
  rw [h1, h2]
  rfl
theorem eqv_nil (ns : List Int) : PyData.eqv (.list (ns.map PyData.int)) (.list []) = decide (ns = []) := by
  cases ns with
  | nil => rfl
  | cons n r => rfl
/-- all items are places below n with P -/
def AllG (n : Nat) (P : Nat → Prop) (xs : List V) : Prop := ∀ v ∈ xs, ∃ g : Nat, v = .int (g : Int) ∧ g < n ∧ P g
theorem allG_ints {n : Nat} {P : Nat → Prop} : ∀ {xs : List V}, AllG n P xs → ∃ ns : List Int, xs = ns.map V.int
  | [], _ => ⟨[], rfl⟩
  | x :: r, h => by
    obtain ⟨g, e, _⟩ := h x List.mem_cons_self
    obtain ⟨ns, e2⟩ := allG_ints (xs := r) fun v hv => h v (List.mem_cons_of_mem _ hv)
    exact ⟨(g : Int) :: ns, by rw [e, e2]; rfl⟩
theorem allG_given {n m a : Nat} {f : Nat → Bool} {P : Nat → Prop} (h : ∀ i, i < m → f i = true → a + i < n ∧ P (a + i)) : AllG n P (given m f fun i => .int ((a : Int) + (i : Int))) := by
  intro v hv
  unfold given at hv
  obtain ⟨i, hi, rfl⟩ := List.mem_map.mp hv
  obtain ⟨h1, h2⟩ := List.mem_filter.mp hi
  obtain ⟨h3, h4⟩ := h i (List.mem_range.mp h1) h2
  exact ⟨a + i, by show V.int ((a : Int) + (i : Int)) = V.int ((a + i : Nat) : Int); rw [Int.natCast_add], h3, h4⟩
theorem allG_given0 {n m : Nat} {f : Nat → Bool} {P : Nat → Prop} (h : ∀ i, i < m → f i = true → i < n ∧ P i) : AllG n P (given m f fun i => .int (i : Int)) := by
  intro v hv
  unfold given at hv
  obtain ⟨i, hi, rfl⟩ := List.mem_map.mp hv
  obtain ⟨h1, h2⟩ := List.mem_filter.mp hi
  obtain ⟨h3, h4⟩ := h i (List.mem_range.mp h1) h2
  exact ⟨i, rfl, h3, h4⟩
theorem AllG.app {n : Nat} {P : Nat → Prop} {xs ys : List V} (h1 : AllG n P xs) (h2 : AllG n P ys) : AllG n P (xs ++ ys) := fun v hv => (List.mem_append.mp hv).elim (h1 v) (h2 v)
theorem AllG.rep {n k : Nat} {P : Nat → Prop} {xs : List V} (h : AllG n P xs) : AllG n P (List.replicate k xs).flatten := fun v hv => by
  obtain ⟨l, hl, hv⟩ := List.mem_flatten.mp hv
  rw [(List.mem_replicate.mp hl).2] at hv
  exact h v hv
theorem AllG.mono {n : Nat} {P P' : Nat → Prop} {xs : List V} (h : AllG n P xs) (hp : ∀ g, P g → P' g) : AllG n P' xs := fun v hv => by
  obtain ⟨g, a, b, c⟩ := h v hv
  exact ⟨g, a, b, hp g c⟩
theorem allG_rg {n : Nat} {a b : Int} (ha : 0 ≤ a) (hb : b ≤ n) : AllG n (fun g => a ≤ g) (rgV a b) := fun v hv => by
  unfold rgV at hv
  obtain ⟨i, hi, rfl⟩ := List.mem_map.mp hv
  have := List.mem_range.mp hi
  exact ⟨(a + (i : Nat)).toNat, by congr 1; omega, by omega, by omega⟩
section
variable {K : PySem.W.Frag} {σ : L2.St} {H : Hp} {Q : VK} {p : Addr}
theorem dp_ints' {K : PySem.W.Frag} {H : Hp} : ∀ bs : List Int, DpAll K H (bs.map V.int) (bs.map PyData.int)
  | [] => .nil
  | b :: r => .cons (.int b) (dp_ints' r)
/-- xs != [], xs == [] where xs are ints -/
theorem i_neNil {q : Addr} {ns : List Int} (h : H p = some (.lst (ns.map V.int))) (h2 : H q = some (.lst [])) (k : Q (.bl (!decide (ns = []))) H) : rNeD K (.ref p) (.ref q) H Q :=
  ⟨.list (ns.map PyData.int), .list [], .lst (SqL.of h) (dp_ints' ns), .lst (SqL.of h2) .nil, shaped_ints ns, rfl, by rw [eqv_nil]; exact k⟩
theorem i_eqNil {q : Addr} {ns : List Int} (h : H p = some (.lst (ns.map V.int))) (h2 : H q = some (.lst [])) (k : Q (.bl (decide (ns = []))) H) : rEqD K (.ref p) (.ref q) H Q :=
  ⟨.list (ns.map PyData.int), .list [], .lst (SqL.of h) (dp_ints' ns), .lst (SqL.of h2) .nil, shaped_ints ns, rfl, by rw [eqv_nil]; exact k⟩
theorem i_rep {xs : List V} {k : Int} (h : H p = some (.lst xs)) (h0 : 0 ≤ k) (h1 : k ≤ 100) (h2 : xs.length ≤ 1000) (q : ∀ a, H a = none → Q (.ref a) (upd H a (.lst (List.replicate k.toNat xs).flatten))) : rRep (.ref p) (.int k) H Q := by
  refine ⟨p, k, xs, rfl, rfl, h, by omega, by omega, ?_, q⟩
  have : xs.length * k.toNat ≤ 1000 * 100 := Nat.mul_le_mul h2 (by omega)
  exact Nat.le_trans this (by decide)
theorem i_lstRg {te : L2.St → Hp → (Int → Int → Hp → Prop) → Prop} (q : te σ H fun a b H1 => RgOk a b ∧ ∀ r, H1 r = none → Q (.ref r) (upd H1 r (.lst (rgV a b)))) : tLstRg te σ H Q := q
theorem i_rg1 {ta : TE} {QR : Int → Int → Hp → Prop} (q : ta σ H fun x H1 => ∃ n, x = .int n ∧ QR 0 n H1) : tRg1 ta σ H QR := q
theorem i_rg2 {ta tb : TE} {QR : Int → Int → Hp → Prop} (q : ta σ H fun x H1 => tb σ H1 fun y H2 => ∃ i j, x = .int i ∧ y = .int j ∧ QR i j H2) : tRg2 ta tb σ H QR := q
theorem i_ex1 {n : Int} {R : Int → Prop} (q : R n) : ∃ m, V.int n = V.int m ∧ R m := ⟨n, rfl, q⟩
theorem i_ex2 {n m : Int} {R : Int → Int → Prop} (q : R n m) : ∃ i j, V.int n = V.int i ∧ V.int m = V.int j ∧ R i j := ⟨n, m, rfl, rfl, q⟩
end
end Hd
namespace Hd
open PySem PySem.Spec PyProof.Rows L2 Evl
theorem hid_less {S S' : List Addr} {H : Hp} (hs : ∀ a ∈ S, a ∈ S') : Ex (hid S' H) (hid S H) := fun b o h => by
  obtain ⟨h1, h2⟩ := hid_iff.mp h
  exact hid_iff.mpr ⟨fun z => h1 (hs _ z), h2⟩
theorem sub2 {p q d : Addr} : ∀ a ∈ [p, q], a ∈ [p, q, d] := fun a h => by
  rcases List.mem_cons.mp h with h | h
  · exact List.mem_cons.mpr (.inl h)
  · exact List.mem_cons.mpr (.inr (List.mem_cons.mpr (.inl (List.mem_singleton.mp h))))
theorem in3 {p q d : Addr} : d ∈ [p, q, d] := List.mem_cons_of_mem _ (List.mem_cons_of_mem _ List.mem_cons_self)
theorem nin3 {p q d a : Addr} (h : a ∉ [p, q]) (hd : a ≠ d) : a ∉ [p, q, d] := fun z => by
  rcases List.mem_cons.mp z with z | z
  · exact h (by rw [z]; exact List.mem_cons_self)
  · rcases List.mem_cons.mp z with z | z
    · exact h (by rw [z]; exact List.mem_cons_of_mem _ List.mem_cons_self)
    · exact hd (List.mem_singleton.mp z)
end Hd
namespace Hd
open PySem PySem.Spec PyProof.Rows L2 Evl
section
variable {K : PySem.W.Frag} {σ : L2.St} {H : Hp} {Q : VK} {tk tv td ty : TE} {r : List (TE × TE)}
theorem i_rU {g : Int → V} {i : Int} (q : Q (g i) H) : rU g (.int i) H Q := ⟨i, rfl, q⟩
theorem i_pcons {QP : List (V × V) → Hp → Prop} (q : tk σ H fun x H1 => tv σ H1 fun y H2 => tPairs r σ H2 fun ps H3 => QP ((x, y) :: ps) H3) : tPairs ((tk, tv) :: r) σ H QP := q
theorem i_pnil {QP : List (V × V) → Hp → Prop} (q : QP [] H) : tPairs [] σ H QP := q
theorem i_disp (q : ∀ p, H p = none → tPairs r σ (upd H p (.dK [])) fun ps H2 => H2 p = some (.dK []) ∧ ∃ kvs : List (Key × V), ps = kvs.map (fun kv => (kV kv.1, kv.2)) ∧ kvs.length ≤ 15 ∧ Q (.ref p) (upd H2 p (.dK (mergeK [] kvs)))) : tDisp r σ H Q := q
theorem i_dget (q : td σ H fun x H1 => ty σ H1 fun y H2 => ∃ a v, x = .ref a ∧ DGet H2 a y (some v) ∧ Q v H2) : tDGet td ty σ H Q := q
theorem i_dg {a : Addr} {w : Str} {kvs : List (Key × V)} {v : V} {R : V → Prop} (h : H a = some (.dK kvs)) (e : valV kvs (Sum.inr w) = some v) (q : R v) : ∃ a' v', V.ref a = .ref a' ∧ DGet H a' (.str w) (some v') ∧ R v' :=
  ⟨a, v, rfl, by have := DGet.k (k := Sum.inr w) h; rw [e] at this; exact this, q⟩
end
end Hd

/-! Rules that the layer lacks: a walk over a list or a tuple, a starred list in a display. -/
namespace Nr
open PySem PySem.Spec PyProof.Rows L2 Evl
/-! ### a walk over what is a list or a tuple -/
def iSeq (K : PySem.W.Frag) (tl : TE) : TI := fun σ H R => tl σ H fun x H1 => ∃ a, x = .ref a ∧ (((∃ xs, SqL K H1 a xs) ∧ R (Itl K a) H1) ∨ ((∃ xs, SqT K H1 a xs) ∧ R (Itt K a) H1))
theorem pi_seq {X : Cx} {tg l : Expr} {tl : TE} (hl : PE X l tl) : PI X tg l (iSeq X.K tl) := by
  refine ⟨fun pins s σ H R I h => ?_⟩
  refine thn (hl.run pins s σ H _ I h) fun v s1 ⟨x, H1, I1, r1, a, e, q1⟩ => ?_
  subst e
  obtain rfl : v = Value.ref a := r1
  have fpn : ∀ b ∈ [s1.heap.objs.size], FpOk X pins H1 b := fun b hb => by
    rw [List.mem_singleton.mp hb]
    exact I1.fpOk (Nat.le_refl _) (I1.hok.fresh (Nat.le_refl _))
  rcases q1 with ⟨⟨xs, hq⟩, q⟩ | ⟨⟨xs, hq⟩, q⟩
  · obtain ⟨its, rv, p, hz⟩ := I1.list hq
    exact wpAny_pyIter_list p.isList ⟨s1.heap.objs.size, [s1.heap.objs.size], _, _, H1, rfl, I1.kept (t' := s1.toks) fun b o e => Heap.get?_push_of_some _ e, turn_list a _, ⟨_, Heap.get?_push_size _ rfl, rfl, rfl⟩, fpn, q⟩
  · obtain ⟨its, rv, p, hz⟩ := I1.tuple hq
    exact wpAny_pyIter_tuple (show s1.heap.IsTuple a its.toArray from p) ⟨s1.heap.objs.size, [s1.heap.objs.size], _, _, H1, rfl, I1.kept (t' := s1.toks) fun b o e => Heap.get?_push_of_some _ e, turn_tuple a _, ⟨_, Heap.get?_push_size _ rfl, rfl, rfl⟩, fpn, q⟩
section
variable {K : PySem.W.Frag} {σ : L2.St} {H : Hp} {ta te : TE} {t : TT} {g : TG} {s : TS} {D : Ends} {Q : VK}
theorem i_lcS {vs : List Nat} (q : ta σ H fun x H1 => ∃ a, x = .ref a ∧ (((∃ xs, SqL K H1 a xs) ∧ Rd.LcAsk (Itl K a) g t te vs σ Q H1) ∨ ((∃ xs, SqT K H1 a xs) ∧ Rd.LcAsk (Itt K a) g t te vs σ Q H1))) : tLc (iSeq K ta) g t te vs σ H Q := q
theorem i_forS (q : ta σ H fun x H1 => ∃ a, x = .ref a ∧ (((∃ xs, SqL K H1 a xs) ∧ Rd.ForAsk (Itl K a) g s D σ H1) ∨ ((∃ xs, SqT K H1 a xs) ∧ Rd.ForAsk (Itt K a) g s D σ H1))) : tFor (iSeq K ta) g s D σ H := q
/-- a list or a tuple of these items -/
def Sq (K : PySem.W.Frag) (H : Hp) (a : Addr) (xs : List V) : Prop := SqL K H a xs ∨ SqT K H a xs
theorem Sq.mono {H H' : Hp} {a : Addr} {xs : List V} (e : Ex H H') (h : Sq K H a xs) : Sq K H' a xs := h.elim (fun h => .inl (ex_l e h)) (fun h => .inr (ex_t e h))
/-- nothing that the loop makes touches the source: the invariant says that what was known is known -/
theorem lcS {H0 : Hp} {a : Addr} {xs : List V} {vs : List Nat} (h : Sq K H0 a xs) (e0 : Ex H0 H) (q : ∀ D, H D = none → ∃ Pv : Nat → Hp → Prop, Pv 0 (upd H D (.lst [])) ∧ (∀ i H2, Pv i H2 → Ex H0 H2) ∧
    (∀ (i : Nat) x H2, xs[i]? = some x → Pv i H2 → g x (wipe σ vs) H2 fun σ2 H2 => wipe σ2 vs = wipe σ vs ∧ t σ2 H2 fun b H3 =>
      if b = true then te σ2 H3 fun y H4 => ∃ acc, H4 D = some (.lst acc) ∧ acc.length < sizeLine ∧ Pv (i + 1) (upd H4 D (.lst (acc ++ [y]))) else Pv (i + 1) H3) ∧ ∀ H2, Pv xs.length H2 → Q (.ref D) H2) :
    ∃ a', V.ref a = .ref a' ∧ (((∃ ys, SqL K H a' ys) ∧ Rd.LcAsk (Itl K a') g t te vs σ Q H) ∨ ((∃ ys, SqT K H a' ys) ∧ Rd.LcAsk (Itt K a') g t te vs σ Q H)) := by
  refine ⟨a, rfl, ?_⟩
  rcases h with h | h
  · refine .inl ⟨⟨xs, ex_l e0 h⟩, fun D hD => ?_⟩
    obtain ⟨Pv, p0, pl, ps, pd⟩ := q D hD
    exact lc_list (xs := xs) Pv p0 (fun i H2 _ p => ex_l (pl i H2 p) h) ps pd
  · refine .inr ⟨⟨xs, ex_t e0 h⟩, fun D hD => ?_⟩
    obtain ⟨Pv, p0, pl, ps, pd⟩ := q D hD
    exact lc_tup (xs := xs) Pv p0 (fun i H2 _ p => ex_t (pl i H2 p) h) ps pd
theorem forS {H0 : Hp} {a : Addr} {xs : List V} (h : Sq K H0 a xs) (Pv : Nat → L2.St → Hp → Prop) (p0 : Pv 0 σ H) (pl : ∀ i σ H2, Pv i σ H2 → Ex H0 H2)
    (ps : ∀ i x σ H, xs[i]? = some x → Pv i σ H → g x σ H fun σ2 H2 => s { D with nx := Pv (i + 1), ct := Pv (i + 1), bk := D.nx } σ2 H2) (pd : ∀ σ H, Pv xs.length σ H → D.nx σ H) :
    ∃ a', V.ref a = .ref a' ∧ (((∃ ys, SqL K H a' ys) ∧ Rd.ForAsk (Itl K a') g s D σ H) ∨ ((∃ ys, SqT K H a' ys) ∧ Rd.ForAsk (Itt K a') g s D σ H)) := by
  refine ⟨a, rfl, ?_⟩
  rcases h with h | h
  · exact .inl ⟨⟨xs, ex_l (pl 0 σ H p0) h⟩, for_list (xs := xs) Pv p0 (fun i σ H2 _ p => ex_l (pl i σ H2 p) h) ps pd⟩
  · exact .inr ⟨⟨xs, ex_t (pl 0 σ H p0) h⟩, for_tup (xs := xs) Pv p0 (fun i σ H2 _ p => ex_t (pl i σ H2 p) h) ps pd⟩
end
/-! ### [*xs, ..] -/
section
variable {X : Cx} {pins : List (Addr × Obj)} {σ : L2.St} {H : Hp} {s : Shared}
/-- the items that a starred list hands on -/
theorem star_list {a : Addr} {xs : List V} {E : Value → Shared → Prop} {Q : List Value → Shared → Prop} (I : Inv X pins σ H s) (h : SqL X.K H a xs) (hQ : ∀ us s', Inv X pins σ H s' → Vals xs us → Q us s') :
    PySem.W.StarOf (model X.prog X.w) X.A E (.ref a) Q s := by
  obtain ⟨its, r, ⟨o, n, ho, hc, hd1, hd⟩, hz⟩ := I.list h
  have hT : s.TypeIs (.ref a) "list" := ⟨o, ho, hc⟩
  have hlen := r.length
  have walk : wpAny (model X.prog X.w) X.A (collect (.ref a)) Q E s := by
    refine wpAny_collect_seq a (.inl rfl) ho hc hd (fun h' hk => ?_) (by rw [List.size_toArray]; omega)
    rw [List.toList_toArray]
    exact hQ its _ (I.kept (t' := s.toks) hk) r
  unfold PySem.W.StarOf notIterableAtAll
  exact wpAny_bind (wpAny_specialOf hT PySem.F.slot_list_iter.lookup (wpAny_pure ⟨rfl, walk⟩))
def tStar (K : PySem.W.Frag) (te : TE) (tr : TA) : TA := fun σ H Q => te σ H fun x H1 => ∃ a xs, x = .ref a ∧ SqL K H1 a xs ∧ tr σ H1 fun ys H2 => Q (xs ++ ys) H2
theorem pa_star {e : Expr} {es : List Expr} {te : TE} {t : TA} {p : Pos} (he : PE X e te) (hr : PA X es t) (hs : starEach (.Starred e p :: es) X.env = (true, eval e X.env) :: starEach es X.env := by rfl) : PA X (.Starred e p :: es) (tStar X.K te t) := by
  refine ⟨fun pos pins s σ H Q I h => ?_⟩
  refine PySem.W.items_star (thn (he.run pins s σ H _ I h) fun v s1 ⟨x, H1, I1, r1, a, xs, e, hx, q⟩ => ?_) hs
  subst e
  obtain rfl : v = Value.ref a := r1
  refine star_list I1 hx fun us s2 I2 rv => ?_
  exact thn (hr.run pos pins s2 σ H1 _ I2 q) fun ws s3 ⟨ys, H3, I3, r3, q3⟩ => ⟨xs ++ ys, H3, I3, rv.append r3, q3⟩
theorem i_star {K : PySem.W.Frag} {te : TE} {t : TA} {Q : List V → Hp → Prop} (q : te σ H fun x H1 => ∃ a xs, x = .ref a ∧ SqL K H1 a xs ∧ t σ H1 fun ys H2 => Q (xs ++ ys) H2) : tStar K te t σ H Q := q
def rTup (K : PySem.W.Frag) : List V → Hp → VK → Prop := fun vs H Q => ∃ a ys, vs = [V.ref a] ∧ ((SqL K H a ys ∧ ∀ b, H b = none → Q (.ref b) (upd H b (.tup ys))) ∨ (SqT K H a ys ∧ Q (.ref a) H))
theorem call_tupR {X : Cx} : CallR X (.type "tuple") (rTup X.K) := call_tuple_of
theorem i_tupL {K : PySem.W.Frag} {H : Hp} {Q : VK} {a : Addr} {ys : List V} (h : SqL K H a ys) (q : ∀ b, H b = none → Q (.ref b) (upd H b (.tup ys))) : rTup K [.ref a] H Q := ⟨a, ys, rfl, .inl ⟨h, q⟩⟩
theorem i_tupT {K : PySem.W.Frag} {H : Hp} {Q : VK} {a : Addr} {ys : List V} (h : SqT K H a ys) (q : Q (.ref a) H) : rTup K [.ref a] H Q := ⟨a, ys, rfl, .inr ⟨h, q⟩⟩
theorem i_sl {r : V → Option Int → Option Int → Hp → VK → Prop} {te : TE} {tl th : TO} {σ : L2.St} {H : Hp} {Q : VK} (q : te σ H fun x H1 => tl σ H1 fun l H2 => th σ H2 fun u H3 => r x l u H3 Q) : tSl r te tl th σ H Q := q
theorem i_part {t : TE} {σ : L2.St} {H : Hp} {QO : Option Int → Hp → Prop} (q : t σ H fun x H1 => ∃ i, x = .int i ∧ QO (some i) H1) : tPart t σ H QO := q
theorem i_nop {σ : L2.St} {H : Hp} {QO : Option Int → Hp → Prop} (q : QO none H) : tNoPart σ H QO := q
theorem i_slT {K : PySem.W.Frag} {a : Addr} {xs : List V} {lo hi : Option Int} {H : Hp} {Q : VK} (h : SqT K H a xs) (c : ¬ (HT.sIx xs.length 0 lo = 0 ∧ HT.sIx xs.length xs.length hi = xs.length)) (q : ∀ p, H p = none → Q (.ref p) (upd H p (.tup (cutV xs lo hi)))) : rSlT K (.ref a) lo hi H Q := ⟨a, xs, rfl, h, c, q⟩
theorem ite_eF {c : Bool} {a b : Prop} (e : c = false) (h : b) : if c = true then a else b := by rw [if_neg (by rw [e]; exact Bool.false_ne_true)]; exact h
theorem ite_eT {c : Bool} {a b : Prop} (e : c = true) (h : a) : if c = true then a else b := by rw [if_pos e]; exact h
theorem i_tyL {K : PySem.W.Frag} {p : Addr} {xs : List V} {R : Prop} (h : H p = some (.lst xs)) (q : R) : tyV K "list" (.ref p) H ∧ R := ⟨.inl ⟨rfl, _, SqL.of h⟩, q⟩
end
end Nr

/-! Dicts whose keys are tuples of ints, texts and None (own). -/
namespace Nk
open PySem PySem.Spec PyProof.Rows L2
/-- a plain thing as a piece of a key -/
inductive Sc : V → NestedKey → Prop
  | non : Sc .non .none
  | num (i : Int) : Sc (.int i) (.num i)
  | text (x : Str) : Sc (.str x) (.text x)
def KeyT (H : Hp) (ks : List NestedKey) (t : Addr) : Prop := ∃ vs, H t = some (.tup vs) ∧ Paired Sc vs ks
theorem KeyT.mono {H H' : Hp} {ks : List NestedKey} {t : Addr} (h : KeyT H ks t) (e : ∀ b xs, H b = some (.tup xs) → H' b = some (.tup xs)) : KeyT H' ks t := by
  obtain ⟨vs, h1, h2⟩ := h
  exact ⟨vs, e _ _ h1, h2⟩
theorem sc_is {h : Heap} : ∀ {vs : List V} {ks : List NestedKey} {us : List Value}, Paired Sc vs ks → Vals vs us → NestedAll h ks us
  | _, _, _, .nil, .nil => .nil
  | _, _, _, .cons a t, .cons r q => by
    refine .cons ?_ (sc_is t q)
    cases a with
    | non => cases r; exact .none
    | num i => obtain ⟨t, rfl⟩ := r; exact .int i t
    | text x => obtain ⟨t, rfl⟩ := r; exact .text x t
theorem sc_dep : ∀ {vs : List V} {ks : List NestedKey}, Paired Sc vs ks → NestedKey.depthAll ks = 0
  | _, _, .nil => rfl
  | _, _, .cons a t => by
    show max _ (NestedKey.depthAll _) = 0
    rw [sc_dep t]
    cases a <;> rfl
section
variable {P : Program} {w : World} {H : Hp} {h : Heap} {t a : Addr} {ks : List NestedKey}
theorem KeyT.is (ok : HOk P w H h) (k : KeyT H ks t) : (nestedKind P w).is h (.tup ks) t := by
  obtain ⟨vs, h1, h2⟩ := k
  obtain ⟨_, its, r, o, h3, h4, n, h5⟩ := (show ObjOk P w H h t (.tup vs) from ok t _ h1)
  refine ⟨.tup h3 h4 h5 (by simpa using sc_is h2 r), ?_⟩
  show NestedKey.depthAll ks + 1 ≤ 8
  rw [sc_dep h2]
  decide
/-- the entries -/
abbrev Ent := List NestedKey × Addr × V
def EV : List Ent → List (NestedKey × Addr × Value) → Prop := Paired fun p q => q.1 = .tup p.1 ∧ p.2.1 = q.2.1 ∧ RelV p.2.2 q.2.2
def nkO (P : Program) (w : World) (a : Addr) (es : List Ent) : HO := .ext fun h => ∃ xs, EV es xs ∧ ∃ o ds ep, h.get? a = some o ∧ o.ExactDict ∧ o.data = .dict ds ep ∧ ds.toList = xs.map (entryOfKey (nestedKind P w))
/-- at a: such a dict -/
structure NkD (P : Program) (w : World) (H : Hp) (a : Addr) (es : List Ent) : Prop where
  at_ : H a = some (nkO P w a es)
  keys : ∀ x ∈ es, KeyT H x.1 x.2.1
  nd : (es.map (·.1)).Nodup
  low : (a == sysModules) = false
  len : es.length ≤ 1000
theorem nk_obj {es : List Ent} {xs : List (NestedKey × Addr × Value)} {H' : Hp} (r : EV es xs) {o : Obj} {ds : Array DictEntry} {ep : Nat} (h1 : h.get? a = some o) (h2 : o.ExactDict) (h3 : o.data = .dict ds ep) (h4 : ds.toList = xs.map (entryOfKey (nestedKind P w))) :
    ObjOk P w H' h a (nkO P w a es) :=
  ⟨⟨xs, r, o, ds, ep, h1, h2, h3, h4⟩, ⟨o, h1⟩, fun _ _ ⟨xs, r, o, ds, ep, h1, h2, h3, h4⟩ st => ⟨xs, r, o, ds, ep, st _ h1, h2, h3, h4⟩⟩
theorem ev_keys : ∀ {es : List Ent} {xs : List (NestedKey × Addr × Value)}, EV es xs → xs.map (·.1) = (es.map (·.1)).map .tup
  | _, _, .nil => rfl
  | _, _, .cons r t => by
    rw [List.map_cons, List.map_cons, List.map_cons, ev_keys t, r.1]
theorem nodup_tup : ∀ {l : List (List NestedKey)}, l.Nodup → (l.map NestedKey.tup).Nodup
  | [], _ => List.nodup_nil
  | k :: l, h => by
    rw [List.map_cons, List.nodup_cons]
    obtain ⟨h1, h2⟩ := List.nodup_cons.mp h
    refine ⟨fun hm => ?_, nodup_tup h2⟩
    obtain ⟨k', hk, e⟩ := List.mem_map.mp hm
    cases e
    exact h1 hk
theorem NkD.of {es : List Ent} (ok : HOk P w H h) (d : NkD P w H a es) : ∃ xs, EV es xs ∧ h.DictOfH (nestedKind P w) a xs := by
  obtain ⟨⟨xs, r, o, ds, ep, h1, h2, h3, h4⟩, _, _⟩ := (show ObjOk P w H h a (nkO P w a es) from ok a _ d.at_)
  refine ⟨xs, r, o, ds, ep, h1, h2, h3, h4, fun x hx => ?_, by rw [ev_keys r]; exact nodup_tup d.nd⟩
  have gen : ∀ {es : List Ent} {xs : List (NestedKey × Addr × Value)}, EV es xs → (∀ x ∈ es, KeyT H x.1 x.2.1) → ∀ x ∈ xs, (nestedKind P w).is h x.1 x.2.1 := by
    intro es xs r
    induction r with
    | nil => intro _ x hx; exact nomatch hx
    | @cons p q ps qs hq t ih =>
      intro hk x hx
      rcases List.mem_cons.mp hx with e | hx
      · subst e
        rw [hq.1, ← hq.2.1]
        exact (hk p List.mem_cons_self).is ok
      · exact ih (fun x hx => hk x (List.mem_cons_of_mem _ hx)) x hx
  exact gen r d.keys x hx
theorem ev_at {ks : List NestedKey} : ∀ {es : List Ent} {xs : List (NestedKey × Addr × Value)}, EV es xs → (atKey xs (.tup ks)).isSome = decide (ks ∈ es.map (·.1))
  | _, _, .nil => rfl
  | _, _, .cons (a := p) (b := q) r t => by
    unfold atKey
    rw [List.find?_cons]
    by_cases e : p.1 = ks
    · rw [show decide (q.1 = NestedKey.tup ks) = true from decide_eq_true (by rw [r.1, e])]
      rw [decide_eq_true (by rw [List.map_cons, e]; exact List.mem_cons_self)]
      rfl
    · rw [show decide (q.1 = NestedKey.tup ks) = false from decide_eq_false (fun z => e (by rw [r.1] at z; cases z; rfl))]
      have := ev_at t (ks := ks)
      unfold atKey at this
      show (Option.map _ (List.find? _ _)).isSome = _
      rw [this]
      refine decide_eq_decide.mpr ?_
      rw [List.map_cons, List.mem_cons]
      exact ⟨.inr, fun h => h.elim (fun z => absurd z.symm e) id⟩
theorem ev_snoc : ∀ {es : List Ent} {xs : List (NestedKey × Addr × Value)}, EV es xs → ∀ {x : V} {u : Value}, RelV x u → EV (es ++ [(ks, t, x)]) (xs ++ [(.tup ks, t, u)])
  | _, _, .nil, _, _, r => .cons ⟨rfl, rfl, r⟩ .nil
  | _, _, .cons q t, _, _, r => .cons q (ev_snoc t r)
theorem NkD.ex {H' : Hp} {es : List Ent} (d : NkD P w H a es) (e : Evl.Ex H H') : NkD P w H' a es := ⟨e _ _ d.at_, fun x hx => (d.keys x hx).mono fun b xs h => e _ _ h, d.nd, d.low, d.len⟩
end
section
variable {X : Cx}
theorem in1_room {A : Around} (h : A.units + 64 < cLine) : A.in1.units + 8 < cLine := by
  show A.units + 1 + 8 < cLine
  omega
def rInN (P : Program) (w : World) : R2 := fun x y H Q => ∃ t a es ks, x = .ref t ∧ y = .ref a ∧ NkD P w H a es ∧ KeyT H ks t ∧ Q (.bl (decide (ks ∈ es.map (·.1)))) H
theorem op_inN (hu : X.A.units + 64 < cLine) : OpR X (compareOp .In) (rInN X.prog X.w) := by
  intro pins s σ H x y v u Q I rx ry h
  obtain ⟨t, a, es, ks, rfl, rfl, d, k, q⟩ := h
  cases rx
  cases ry
  obtain ⟨xs, r, dd⟩ := d.of I.hok
  refine wpAny_in_heap (knd := nestedKind X.prog X.w) (k := .tup ks) (in1_room hu) (k.is I.hok) d.low dd ?_
  rw [ev_at r]
  exact ⟨.bl _, H, I.tok _, rfl, q⟩
/-- d[key] = v, the key new -/
def rSetN (P : Program) (w : World) : TSet := fun o i v H Q => ∃ t a es ks, o = .ref a ∧ i = .ref t ∧ NkD P w H a es ∧ KeyT H ks t ∧ ks ∉ es.map (·.1) ∧ es.length < 1000 ∧ Q (upd H a (nkO P w a (es ++ [(ks, t, v)])))
theorem set_dictN (hu : X.A.units + 64 < cLine) : PSet X (rSetN X.prog X.w) := by
  intro pins s σ H o i v ov iv u Q I ro ri rv h
  obtain ⟨t, a, es, ks, rfl, rfl, d, k, hn, hz, q⟩ := h
  cases ro
  cases ri
  obtain ⟨xs, r, dd⟩ := d.of I.hok
  have hl : xs.length ≤ sizeLine := by
    rw [← Paired.length r]
    exact Nat.le_trans d.len (by decide)
  have hnone : atKey xs (.tup ks) = none := by
    have := ev_at r (ks := ks)
    rw [decide_eq_false hn] at this
    cases z : atKey xs (.tup ks) with
    | none => rfl
    | some p => rw [z] at this; cases this
  refine wpAny_setItem_heap (knd := nestedKind X.prog X.w) (k := .tup ks) (hsz := hl) (in1_room hu) (k.is I.hok) dd fun h' dd' hs => ⟨_, ?_, q⟩
  rw [storedH_new hnone] at dd'
  obtain ⟨ob, ds, ep, h1, h2, h3, h4, _, _⟩ := dd'
  exact d_write I (by rw [d.at_]; exact True.intro) hs ⟨ob, h1⟩ (nk_obj (ev_snoc r rv) h1 h2 h3 h4)
/-- {} -/
def tDNewN (P : Program) (w : World) : TE := fun _ H Q => ∀ p, H p = none → (p == sysModules) = false → Q (.ref p) (upd H p (nkO P w p []))
theorem pe_dnewN {pos : Pos} : PE X (.Dict [] [] pos) (tDNewN X.prog X.w) := ⟨fun pins s σ H Q I h =>
  wpAny_Dict_empty ⟨.ref s.heap.objs.size, _, I.laid (a := s.heap.objs.size) (o := nkO X.prog X.w s.heap.objs.size []) (t' := s.toks) (fun _ _ q => Heap.get?_push_of_some _ q) (Nat.le_refl _)
    (nk_obj (ds := #[]) (ep := 0) .nil (Heap.get?_push_size _ rfl) ⟨rfl, rfl, rfl⟩ rfl rfl), rfl, h _ (I.hok.fresh (Nat.le_refl _)) (beq_eq_false_iff_ne.mpr (Ne.symm (Nat.ne_of_lt I.big)))⟩⟩
theorem i_dnewN {P : Program} {w : World} {σ : L2.St} {H : Hp} {Q : VK} (q : ∀ p, H p = none → (p == sysModules) = false → Q (.ref p) (upd H p (nkO P w p []))) : tDNewN P w σ H Q := q
theorem i_inN {P : Program} {w : World} {t a : Addr} {es : List Ent} {ks : List NestedKey} {H : Hp} {Q : VK} (d : NkD P w H a es) (k : KeyT H ks t) (q : Q (.bl (decide (ks ∈ es.map (·.1)))) H) : rInN P w (.ref t) (.ref a) H Q := ⟨t, a, es, ks, rfl, rfl, d, k, q⟩
theorem i_setN {P : Program} {w : World} {t a : Addr} {es : List Ent} {ks : List NestedKey} {v : V} {H : Hp} {Q : Hp → Prop} (d : NkD P w H a es) (k : KeyT H ks t) (hn : ks ∉ es.map (·.1)) (hz : es.length < 1000) (q : Q (upd H a (nkO P w a (es ++ [(ks, t, v)])))) : rSetN P w (.ref a) (.ref t) v H Q := ⟨t, a, es, ks, rfl, rfl, d, k, hn, hz, q⟩
end
end Nk

/-! Readings over data: what a value stands for, without the heap (own). -/
namespace Da
open PySem PySem.Spec PyProof.Rows L2 Evl Hd
/-- a tuple that is a key -/
def KeyS (K : PySem.W.Frag) (H : Hp) (ks : List NestedKey) (t : Addr) : Prop := ∃ vs, SqT K H t vs ∧ Paired Nk.Sc vs ks
/-- a value of a dict whose keys are tuples: a number, or two -/
inductive NV where
  | one (i : Int)
  | two (i j : Int)
  | tru
inductive NVR (K : PySem.W.Frag) (H : Hp) : V → NV → Prop
  | one {i : Int} : NVR K H (.int i) (.one i)
  | two {a : Addr} {i j : Int} : SqT K H a [.int i, .int j] → NVR K H (.ref a) (.two i j)
  | tru : NVR K H (.bl true) .tru
theorem NVR.mono {K : PySem.W.Frag} {H H' : Hp} {v : V} {z : NV} (e : Ex H H') (h : NVR K H v z) : NVR K H' v z := by
  cases h with
  | one => exact .one
  | two h => exact .two (ex_t e h)
  | tru => exact .tru
/-- the entries of a dict whose keys are tuples -/
structure NkR (K : PySem.W.Frag) (Hv : Hp) (xs : List Nk.Ent) (es : List (List NestedKey × NV)) : Prop where
  pair : Paired (fun (x : Nk.Ent) (e : List NestedKey × NV) => x.1 = e.1 ∧ NVR K Hv x.2.2 e.2) xs es
  keys : ∀ x ∈ xs, KeyS K Hv x.1 x.2.1
  nd : (es.map (·.1)).Nodup
  len : es.length ≤ 1000
theorem KeyS.mono {K : PySem.W.Frag} {H H' : Hp} {ks : List NestedKey} {t : Addr} (e : Ex H H') (h : KeyS K H ks t) : KeyS K H' ks t := let ⟨vs, h1, h2⟩ := h; ⟨vs, ex_t e h1, h2⟩
theorem pr_mono {K : PySem.W.Frag} {H H' : Hp} (e : Ex H H') : ∀ {xs : List Nk.Ent} {es : List (List NestedKey × NV)}, Paired (fun (x : Nk.Ent) (e : List NestedKey × NV) => x.1 = e.1 ∧ NVR K H x.2.2 e.2) xs es → Paired (fun (x : Nk.Ent) (e : List NestedKey × NV) => x.1 = e.1 ∧ NVR K H' x.2.2 e.2) xs es
  | _, _, .nil => .nil
  | _, _, .cons r t => .cons ⟨r.1, r.2.mono e⟩ (pr_mono e t)
theorem NkR.mono {K : PySem.W.Frag} {H H' : Hp} {xs : List Nk.Ent} {es : List (List NestedKey × NV)} (e : Ex H H') (h : NkR K H xs es) : NkR K H' xs es := ⟨pr_mono e h.pair, fun x hx => (h.keys x hx).mono e, h.nd, h.len⟩
inductive D where
  | non
  | bl (b : Bool)
  | int (i : Int)
  | str (x : Str)
  | tup (ds : List D)
  | lst (ds : List D)
  | dct (kvs : List (Key × D))
  | obj (C : Addr) (fs : List (Str × D))
  | val (v : V)
  | loc (a : Addr) (h : Nat)
  | lck (ns : List Int)
  | nkd (P : Program) (w : World) (es : List (List NestedKey × NV))
def nvD : NV → D
  | .one i => .int i
  | .two i j => .tup [.int i, .int j]
  | .tru => .bl true
def dNv : D → Option NV
  | .int i => some (.one i)
  | .tup [.int i, .int j] => some (.two i j)
  | .bl true => some .tru
  | _ => none
mutual
inductive Rep (K : PySem.W.Frag) (H : Hp) : V → D → Prop
  | non : Rep K H .non .non
  | bl {b : Bool} : Rep K H (.bl b) (.bl b)
  | int {i : Int} : Rep K H (.int i) (.int i)
  | str {x : Str} : Rep K H (.str x) (.str x)
  | tup {a : Addr} {xs : List V} {ds : List D} : SqT K H a xs → RepL K H xs ds → ds.length ≤ sizeLine → Rep K H (.ref a) (.tup ds)
  | lst {a : Addr} {xs : List V} {ds : List D} : H a = some (.lst xs) → RepL K H xs ds → ds.length ≤ sizeLine → Rep K H (.ref a) (.lst ds)
  | dct {a : Addr} {ks : List (Key × V)} {kvs : List (Key × D)} : H a = some (.dK ks) → RepK K H ks kvs → kvs.length ≤ sizeLine → Rep K H (.ref a) (.dct kvs)
  | obj {a C dx : Addr} {fs : List (Str × V)} {gs : List (Str × D)} : H a = some (.ins C dx fs) → RepF K H fs gs → Rep K H (.ref a) (.obj C gs)
  | val {v : V} : Rep K H v (.val v)
  | loc {a : Addr} {h : Nat} : Rep K H (.ref a) (.loc a h)
  | lck {a : Addr} {ns : List Int} : SqL K H a (ns.map V.int) → Rep K H (.ref a) (.lck ns)
  | nkd {P : Program} {w : World} {a : Addr} {xs : List Nk.Ent} {es : List (List NestedKey × NV)} : H a = some (Nk.nkO P w a xs) → NkR K H xs es → (a == sysModules) = false → Rep K H (.ref a) (.nkd P w es)
inductive RepL (K : PySem.W.Frag) (H : Hp) : List V → List D → Prop
  | nil : RepL K H [] []
  | cons {v : V} {d : D} {vs : List V} {ds : List D} : Rep K H v d → RepL K H vs ds → RepL K H (v :: vs) (d :: ds)
inductive RepK (K : PySem.W.Frag) (H : Hp) : List (Key × V) → List (Key × D) → Prop
  | nil : RepK K H [] []
  | cons {k : Key} {v : V} {d : D} {vs : List (Key × V)} {ds : List (Key × D)} : Rep K H v d → RepK K H vs ds → RepK K H ((k, v) :: vs) ((k, d) :: ds)
inductive RepF (K : PySem.W.Frag) (H : Hp) : List (Str × V) → List (Str × D) → Prop
  | nil : RepF K H [] []
  | cons {k : Str} {v : V} {d : D} {vs : List (Str × V)} {ds : List (Str × D)} : Rep K H v d → RepF K H vs ds → RepF K H ((k, v) :: vs) ((k, d) :: ds)
end
theorem NVR.rep {K : PySem.W.Frag} {H : Hp} {v : V} {z : NV} (h : NVR K H v z) : Rep K H v (nvD z) := by
  cases h with
  | one => exact .int
  | two h => exact .tup h (.cons .int (.cons .int .nil)) (by show 2 ≤ sizeLine; decide)
  | tru => exact .bl
theorem Rep.nv {K : PySem.W.Frag} {H : Hp} {v : V} {d : D} {z : NV} (r : Rep K H v d) (e : dNv d = some z) : NVR K H v z := by
  cases r with
  | int => cases e; exact .one
  | @bl b => cases b with
    | true => cases e; exact .tru
    | false => cases e
  | tup h q n =>
    cases q with
    | nil => cases e
    | cons h1 q =>
      cases h1 with
      | int =>
        cases q with
        | nil => cases e
        | cons h2 q =>
          cases h2 with
          | int =>
            cases q with
            | nil => cases e; exact .two h
            | cons h3 q => cases e
          | _ => cases e
      | _ => cases e
  | _ => cases e
def lookK : List (Key × D) → Key → Option D
  | [], _ => none
  | (k', d) :: r, k => if k' = k then some d else lookK r k
section
variable {K : PySem.W.Frag} {H H' : Hp}
mutual
theorem Rep.mono (e : Ex H H') : ∀ {v : V} {d : D}, Rep K H v d → Rep K H' v d
  | _, _, .non => .non
  | _, _, .bl => .bl
  | _, _, .int => .int
  | _, _, .str => .str
  | _, _, .tup h r n => .tup (ex_t e h) (RepL.mono e r) n
  | _, _, .lst h r n => .lst (e _ _ h) (RepL.mono e r) n
  | _, _, .dct h r n => .dct (e _ _ h) (RepK.mono e r) n
  | _, _, .obj h r => .obj (e _ _ h) (RepF.mono e r)
  | _, _, .val => .val
  | _, _, .loc => .loc
  | _, _, .lck h => .lck (ex_l e h)
  | _, _, .nkd h r l => .nkd (e _ _ h) (r.mono e) l
theorem RepL.mono (e : Ex H H') : ∀ {vs : List V} {ds : List D}, RepL K H vs ds → RepL K H' vs ds
  | _, _, .nil => .nil
  | _, _, .cons h r => .cons (Rep.mono e h) (RepL.mono e r)
theorem RepK.mono (e : Ex H H') : ∀ {vs : List (Key × V)} {ds : List (Key × D)}, RepK K H vs ds → RepK K H' vs ds
  | _, _, .nil => .nil
  | _, _, .cons h r => .cons (Rep.mono e h) (RepK.mono e r)
theorem RepF.mono (e : Ex H H') : ∀ {vs : List (Str × V)} {ds : List (Str × D)}, RepF K H vs ds → RepF K H' vs ds
  | _, _, .nil => .nil
  | _, _, .cons h r => .cons (Rep.mono e h) (RepF.mono e r)
end
theorem RepL.len : ∀ {vs : List V} {ds : List D}, RepL K H vs ds → vs.length = ds.length
  | _, _, .nil => rfl
  | _, _, .cons _ r => congrArg (· + 1) (RepL.len r)
theorem RepK.len : ∀ {vs : List (Key × V)} {ds : List (Key × D)}, RepK K H vs ds → vs.length = ds.length
  | _, _, .nil => rfl
  | _, _, .cons _ r => congrArg (· + 1) (RepK.len r)
theorem RepL.app : ∀ {vs ws : List V} {ds es : List D}, RepL K H vs ds → RepL K H ws es → RepL K H (vs ++ ws) (ds ++ es)
  | _, _, _, _, .nil, s => s
  | _, _, _, _, .cons h r, s => .cons h (RepL.app r s)
theorem RepL.get : ∀ {vs : List V} {ds : List D}, RepL K H vs ds → ∀ {i : Nat} {d : D}, ds[i]? = some d → ∃ v, vs[i]? = some v ∧ Rep K H v d
  | _, _, .nil, i, d, h => by simp at h
  | _, _, .cons h r, 0, d, e => by cases e; exact ⟨_, rfl, h⟩
  | _, _, .cons h r, i + 1, d, e => RepL.get r (i := i) (by simpa using e)
theorem RepL.get' : ∀ {vs : List V} {ds : List D}, RepL K H vs ds → ∀ {i : Nat} {v : V}, vs[i]? = some v → ∃ d, ds[i]? = some d ∧ Rep K H v d
  | _, _, .nil, i, d, h => by simp at h
  | _, _, .cons h r, 0, d, e => by cases e; exact ⟨_, rfl, h⟩
  | _, _, .cons h r, i + 1, d, e => RepL.get' r (i := i) (by simpa using e)
theorem RepL.set : ∀ {vs : List V} {ds : List D}, RepL K H vs ds → ∀ {i : Nat} {v : V} {d : D}, Rep K H v d → RepL K H (vs.set i v) (ds.set i d)
  | _, _, .nil, _, _, _, _ => .nil
  | _, _, .cons _ r, 0, _, _, q => .cons q r
  | _, _, .cons h r, _ + 1, _, _, q => .cons h (RepL.set r q)
theorem RepL.take : ∀ {vs : List V} {ds : List D} (n : Nat), RepL K H vs ds → RepL K H (vs.take n) (ds.take n)
  | _, _, 0, _ => by simp only [List.take_zero]; exact .nil
  | _, _, _ + 1, .nil => .nil
  | _, _, n + 1, .cons h r => .cons h (RepL.take n r)
theorem RepL.drop : ∀ {vs : List V} {ds : List D} (n : Nat), RepL K H vs ds → RepL K H (vs.drop n) (ds.drop n)
  | _, _, 0, r => r
  | _, _, _ + 1, .nil => .nil
  | _, _, n + 1, .cons _ r => RepL.drop n r
theorem RepL.rep {vs : List V} {ds : List D} (r : RepL K H vs ds) : ∀ k : Nat, RepL K H (List.replicate k vs).flatten (List.replicate k ds).flatten
  | 0 => .nil
  | k + 1 => by
    rw [List.replicate_succ, List.replicate_succ, List.flatten_cons, List.flatten_cons]
    exact r.app (RepL.rep r k)
theorem RepL.rev : ∀ {vs : List V} {ds : List D}, RepL K H vs ds → RepL K H vs.reverse ds.reverse
  | _, _, .nil => .nil
  | _, _, .cons h r => by
    rw [List.reverse_cons, List.reverse_cons]
    exact (RepL.rev r).app (.cons h .nil)
theorem RepL.dropLast : ∀ {vs : List V} {ds : List D}, RepL K H vs ds → RepL K H vs.dropLast ds.dropLast := fun {vs ds} r => by
  rw [List.dropLast_eq_take, List.dropLast_eq_take, r.len]
  exact r.take _
theorem RepL.ints : ∀ {ns : List Int}, RepL K H (ns.map V.int) (ns.map D.int)
  | [] => .nil
  | _ :: _ => .cons .int RepL.ints
theorem RepL.of_ints : ∀ {vs : List V} {ns : List Int}, RepL K H vs (ns.map D.int) → vs = ns.map V.int
  | _, [], .nil => rfl
  | _, _ :: _, .cons .int r => by rw [List.map_cons, RepL.of_ints r]
theorem RepL.of_strs : ∀ {vs : List V} {ns : List Str}, RepL K H vs (ns.map D.str) → vs = ns.map V.str
  | _, [], .nil => rfl
  | _, _ :: _, .cons .str r => by rw [List.map_cons, RepL.of_strs r]
theorem RepL.of_bls : ∀ {vs : List V} {ns : List Bool}, RepL K H vs (ns.map D.bl) → vs = ns.map V.bl
  | _, [], .nil => rfl
  | _, _ :: _, .cons .bl r => by rw [List.map_cons, RepL.of_bls r]
theorem RepK.val : ∀ {vs : List (Key × V)} {ds : List (Key × D)}, RepK K H vs ds → ∀ {k : Key} {d : D}, lookK ds k = some d → ∃ v, valV vs k = some v ∧ Rep K H v d := by
  intro vs ds r
  induction vs generalizing ds with
  | nil => intro k d h; cases r; cases h
  | cons x xs ih =>
    intro k d h
    cases r with
    | @cons k' v d' _ ds' h1 r =>
      unfold lookK at h
      by_cases e : k' = k
      · rw [if_pos e] at h
        cases h
        exact ⟨v, by unfold valV; simp [e], h1⟩
      · rw [if_neg e] at h
        obtain ⟨v', e1, e2⟩ := ih r h
        refine ⟨v', ?_, e2⟩
        rw [← e1]
        unfold valV
        rw [List.find?_cons]
        simp only [decide_eq_false e]
theorem RepK.val_none : ∀ {vs : List (Key × V)} {ds : List (Key × D)}, RepK K H vs ds → ∀ {k : Key}, lookK ds k = none → valV vs k = none := by
  intro vs ds r
  induction vs generalizing ds with
  | nil => intro k h; rfl
  | cons x xs ih =>
    intro k h
    cases r with
    | @cons k' v d' _ ds' h1 r =>
      unfold lookK at h
      by_cases e : k' = k
      · rw [if_pos e] at h
        cases h
      · rw [if_neg e] at h
        rw [← ih r h]
        unfold valV
        rw [List.find?_cons]
        simp only [decide_eq_false e]
theorem RepF.look : ∀ {vs : List (Str × V)} {ds : List (Str × D)}, RepF K H vs ds → ∀ {k : Str} {d : D}, ds.lookup k = some d → ∃ v, vs.lookup k = some v ∧ Rep K H v d := by
  intro vs ds r
  induction vs generalizing ds with
  | nil => intro k d h; cases r; cases h
  | cons x xs ih =>
    intro k d h
    cases r with
    | @cons k' v d' _ ds' h1 r =>
      rw [List.lookup_cons] at h ⊢
      cases e : (k == k') with
      | true =>
        rw [e] at h
        cases h
        exact ⟨v, rfl, h1⟩
      | false =>
        rw [e] at h
        exact ih r h
theorem RepF.look_none : ∀ {vs : List (Str × V)} {ds : List (Str × D)}, RepF K H vs ds → ∀ {k : Str}, ds.lookup k = none → vs.lookup k = none := by
  intro vs ds r
  induction vs generalizing ds with
  | nil => intro k h; rfl
  | cons x xs ih =>
    intro k h
    cases r with
    | @cons k' v d' _ ds' h1 r =>
      rw [List.lookup_cons] at h ⊢
      cases e : (k == k') with
      | true =>
        rw [e] at h
        cases h
      | false =>
        rw [e] at h
        exact ih r h
end
end Da

/-! The state: what a def itself may still change, what is hidden, how many draws were made (own). -/
namespace Da
open PySem PySem.Spec PyProof.Rows L2 Evl Hd
/-- what may be changed -/
inductive MO where
  | lst (ds : List D)
  | dct (kvs : List (Key × D))
  | obj (C : Addr) (fs : List (Str × D))
  | nk (P : Program) (w : World) (es : List (List NestedKey × NV))
structure Ent where
  h : Nat
  a : Addr
  o : MO
  fz : Bool
structure S where
  M : List Ent
  n : Nat
  pn : Option (Addr × Addr)
def mget : List Ent → Nat → Option Ent
  | [], _ => none
  | e :: r, h => match Nat.beq e.h h with
    | true => some e
    | false => mget r h
def mset : List Ent → Nat → MO → List Ent
  | [], _, _ => []
  | e :: r, h, o => match Nat.beq e.h h with
    | true => ⟨e.h, e.a, o, e.fz⟩ :: r
    | false => e :: mset r h o
def mfrz : List Ent → Nat → List Ent
  | [], _ => []
  | e :: r, h => match Nat.beq e.h h with
    | true => ⟨e.h, e.a, e.o, true⟩ :: r
    | false => e :: mfrz r h
def mdel : List Ent → Nat → List Ent
  | [], _ => []
  | e :: r, h => match Nat.beq e.h h with
    | true => r
    | false => e :: mdel r h
def S.hidM (s : S) (a : Addr) : Bool := s.M.any fun e => !e.fz && e.a == a
def S.hidP (s : S) (a : Addr) : Bool := match s.pn with
  | none => false
  | some (p, q) => a == p || a == q
abbrev Fr := Addr → Bool
def S.hid (s : S) (F : Fr) (a : Addr) : Bool := F a || s.hidM a || s.hidP a
def vis (F : Fr) (s : S) (H : Hp) : Hp := fun a => if s.hid F a = true then none else H a
theorem vis_iff {F : Fr} {s : S} {H : Hp} {a : Addr} {o : HO} : vis F s H a = some o ↔ s.hid F a = false ∧ H a = some o := by
  unfold vis
  cases s.hid F a
  · rw [if_neg Bool.false_ne_true]
    exact ⟨fun h => ⟨rfl, h⟩, fun h => h.2⟩
  · rw [if_pos rfl]
    exact ⟨fun h => (by cases h), fun h => (by cases h.1)⟩
theorem vis_ex {F : Fr} {s : S} {H : Hp} : Ex (vis F s H) H := fun _ _ h => (vis_iff.mp h).2
def RepO (K : PySem.W.Frag) (Hv H : Hp) (a : Addr) : MO → Prop
  | .lst ds => ∃ xs, H a = some (.lst xs) ∧ RepL K Hv xs ds ∧ ds.length ≤ sizeLine
  | .dct kvs => ∃ ks, H a = some (.dK ks) ∧ RepK K Hv ks kvs ∧ kvs.length ≤ sizeLine
  | .obj C fs => ∃ dx vs, H a = some (.ins C dx vs) ∧ RepF K Hv vs fs
  | .nk P w es => ∃ xs, H a = some (Nk.nkO P w a xs) ∧ NkR K Hv xs es ∧ (a == sysModules) = false
theorem RepO.mono {K : PySem.W.Frag} {Hv Hv' H H' : Hp} {a : Addr} (e : Ex Hv Hv') (h : H' a = H a) : ∀ {o : MO}, RepO K Hv H a o → RepO K Hv' H' a o
  | .lst _, ⟨xs, h1, h2, h3⟩ => ⟨xs, h.trans h1, h2.mono e, h3⟩
  | .dct _, ⟨xs, h1, h2, h3⟩ => ⟨xs, h.trans h1, h2.mono e, h3⟩
  | .obj _ _, ⟨dx, xs, h1, h2⟩ => ⟨dx, xs, h.trans h1, h2.mono e⟩
  | .nk _ _ _, ⟨xs, h1, h2, h3⟩ => ⟨xs, h.trans h1, h2.mono e, h3⟩
theorem RepO.some {K : PySem.W.Frag} {Hv H : Hp} {a : Addr} : ∀ {o : MO}, RepO K Hv H a o → H a ≠ none
  | .lst _, ⟨_, h, _⟩ => by rw [h]; exact fun z => nomatch z
  | .dct _, ⟨_, h, _⟩ => by rw [h]; exact fun z => nomatch z
  | .obj _ _, ⟨_, _, h, _⟩ => by rw [h]; exact fun z => nomatch z
  | .nk _ _ _, ⟨_, h, _⟩ => by rw [h]; exact fun z => nomatch z
structure OkS (K : PySem.W.Frag) (F : Fr) (s : S) (H : Hp) : Prop where
  ents : ∀ e ∈ s.M, RepO K (vis F s H) H e.a e.o
  nd : (s.M.map (·.a)).Nodup
  pen : ∀ p q, s.pn = some (p, q) → (∃ z, Pen H p q z ∧ z ≤ s.n) ∧ ∀ e ∈ s.M, e.a ≠ p ∧ e.a ≠ q
  fr : ∀ a, F a = true → H a ≠ none
  frM : ∀ e ∈ s.M, F e.a = false
  frP : ∀ p q, s.pn = some (p, q) → F p = false ∧ F q = false
/-- one state behind another: what was seen is seen, what belongs to the callers is as it was -/
structure Tr (F : Fr) (s : S) (H : Hp) (s' : S) (H' : Hp) : Prop where
  ex : Ex (vis F s H) (vis F s' H')
  fr : ∀ a, F a = true → H' a = H a
  pn : s'.pn = s.pn
theorem Tr.refl {F : Fr} {s : S} {H : Hp} : Tr F s H s H := ⟨Ex.refl _, fun _ _ => rfl, rfl⟩
theorem Tr.trans {F : Fr} {s s1 s2 : S} {H H1 H2 : Hp} (a : Tr F s H s1 H1) (b : Tr F s1 H1 s2 H2) : Tr F s H s2 H2 :=
  ⟨a.ex.trans b.ex, fun c h => (b.fr c h).trans (a.fr c h), b.pn.trans a.pn⟩
theorem mget_mem : ∀ {M : List Ent} {h : Nat} {e : Ent}, mget M h = some e → e ∈ M ∧ e.h = h
  | [], h, e, q => by cases q
  | x :: r, h, e, q => by
    unfold mget at q
    split at q
    · rename_i hb
      cases q
      exact ⟨List.mem_cons_self, Nat.eq_of_beq_eq_true hb⟩
    · obtain ⟨h1, h2⟩ := mget_mem (M := r) q
      exact ⟨List.mem_cons_of_mem _ h1, h2⟩
/-- nothing that is new is hidden -/
theorem OkS.new_hid {K : PySem.W.Frag} {F : Fr} {s : S} {H : Hp} (h : OkS K F s H) {p : Addr} (n : H p = none) : s.hid F p = false := by
  unfold S.hid
  have h1 : F p = false := by
    cases e : F p with
    | false => rfl
    | true => exact absurd n (h.fr p e)
  have h2 : s.hidM p = false := by
    unfold S.hidM
    rw [List.any_eq_false]
    intro e he
    have : e.a ≠ p := fun z => (h.ents e he).some (by rw [z]; exact n)
    simp [this]
  have h3 : s.hidP p = false := by
    unfold S.hidP
    cases e : s.pn with
    | none => rfl
    | some pq =>
      obtain ⟨a, b⟩ := pq
      obtain ⟨⟨z, ⟨_, ns, h4, h5, _⟩, _⟩, _⟩ := h.pen a b e
      have n1 : p ≠ a := fun z => by rw [z, h4] at n; cases n
      have n2 : p ≠ b := fun z => by rw [z, h5] at n; cases n
      simp [n1, n2]
  rw [h1, h2, h3]
  rfl
theorem OkS.pen_upd {K : PySem.W.Frag} {F : Fr} {s : S} {H : Hp} (h : OkS K F s H) {p q a : Addr} {z : Int} {o : HO} (hp : Pen H p q z) (n1 : a ≠ p) (n2 : a ≠ q) : Pen (upd H a o) p q z :=
  hp.at (fun u e => by rw [upd_ne (Ne.symm n1)]; exact e) (fun u e => by rw [upd_ne (Ne.symm n2)]; exact e)
/-- a new object that is never changed again -/
theorem OkS.new {K : PySem.W.Frag} {F : Fr} {s : S} {H : Hp} (h : OkS K F s H) {p : Addr} {o : HO} (n : H p = none) : OkS K F s (upd H p o) ∧ Tr F s H s (upd H p o) ∧ vis F s (upd H p o) p = some o := by
  have hh := h.new_hid n
  have ex : Ex (vis F s H) (vis F s (upd H p o)) := fun a u e => by
    obtain ⟨h1, h2⟩ := vis_iff.mp e
    exact vis_iff.mpr ⟨h1, Ex.new n _ _ h2⟩
  have ne : ∀ a, H a ≠ none → a ≠ p := fun a ha z => ha (by rw [z]; exact n)
  refine ⟨⟨fun e he => (h.ents e he).mono ex (upd_ne (ne _ (h.ents e he).some)), h.nd, fun a b e => ?_, fun a ha => by rw [upd_ne (ne _ (h.fr a ha))]; exact h.fr a ha, h.frM, h.frP⟩, ⟨ex, fun a ha => upd_ne (ne _ (h.fr a ha)), rfl⟩, vis_iff.mpr ⟨hh, upd_same⟩⟩
  obtain ⟨⟨z, hz, hzn⟩, hm⟩ := h.pen a b e
  have hz2 := hz
  obtain ⟨_, ns, h4, h5, _⟩ := hz2
  exact ⟨⟨z, h.pen_upd hz (Ne.symm (ne a (by rw [h4]; exact fun z => nomatch z))) (Ne.symm (ne b (by rw [h5]; exact fun z => nomatch z))), hzn⟩, hm⟩
theorem mdel_sub : ∀ {M : List Ent} {h : Nat} {e : Ent}, e ∈ mdel M h → e ∈ M
  | [], h, e, q => by cases q
  | x :: r, h, e, q => by
    unfold mdel at q
    split at q
    · exact List.mem_cons_of_mem _ q
    · rcases List.mem_cons.mp q with q | q
      · rw [q]; exact List.mem_cons_self
      · exact List.mem_cons_of_mem _ (mdel_sub q)
theorem mdel_nd : ∀ {M : List Ent} {h : Nat}, (M.map (·.a)).Nodup → ((mdel M h).map (·.a)).Nodup
  | [], _, _ => List.nodup_nil
  | x :: r, h, q => by
    rw [List.map_cons, List.nodup_cons] at q
    unfold mdel
    split
    · exact q.2
    · rw [List.map_cons, List.nodup_cons]
      refine ⟨fun z => ?_, mdel_nd q.2⟩
      obtain ⟨e, he, ee⟩ := List.mem_map.mp z
      exact q.1 (List.mem_map.mpr ⟨e, mdel_sub he, ee⟩)
/-- a handle is forgotten: its object is seen from now on -/
def S.drop (s : S) (h : Nat) : S := { s with M := mdel s.M h }
theorem hid_sub {F : Fr} {s s' : S} (hM : ∀ e ∈ s'.M, e.fz = false → ∃ e' ∈ s.M, e'.a = e.a ∧ e'.fz = false) (hP : s'.pn = s.pn) {a : Addr} (h : s.hid F a = false) : s'.hid F a = false := by
  unfold S.hid at h ⊢
  simp only [Bool.or_eq_false_iff] at h ⊢
  obtain ⟨⟨h1, h2⟩, h3⟩ := h
  refine ⟨⟨h1, ?_⟩, by unfold S.hidP at h3 ⊢; rw [hP]; exact h3⟩
  unfold S.hidM at h2 ⊢
  rw [List.any_eq_false] at h2 ⊢
  intro e he hx
  rw [Bool.and_eq_true, Bool.not_eq_true', beq_iff_eq] at hx
  obtain ⟨e', m', ea, ef⟩ := hM e he hx.1
  refine h2 e' m' ?_
  rw [Bool.and_eq_true, Bool.not_eq_true', beq_iff_eq]
  exact ⟨ef, by rw [ea]; exact hx.2⟩
theorem OkS.less {K : PySem.W.Frag} {F : Fr} {s s' : S} {H : Hp} (h : OkS K F s H) (hM : ∀ e ∈ s'.M, ∃ e' ∈ s.M, e'.a = e.a ∧ e'.o = e.o ∧ (e.fz = false → e'.fz = false)) (hnd : (s'.M.map (·.a)).Nodup) (hP : s'.pn = s.pn) (hn : s.n ≤ s'.n) : OkS K F s' H ∧ Tr F s H s' H := by
  have ex : Ex (vis F s H) (vis F s' H) := fun a u e => by
    obtain ⟨h1, h2⟩ := vis_iff.mp e
    exact vis_iff.mpr ⟨hid_sub (fun e he hf => let ⟨e', m, q1, _, q3⟩ := hM e he; ⟨e', m, q1, q3 hf⟩) hP h1, h2⟩
  refine ⟨⟨fun e he => ?_, hnd, fun p q e => ?_, h.fr, fun e he => ?_, fun p q e => h.frP p q (by rw [← hP]; exact e)⟩, ⟨ex, fun _ _ => rfl, hP⟩⟩
  · obtain ⟨e', m, q1, q2, _⟩ := hM e he
    have := h.ents e' m
    rw [q1, q2] at this
    exact this.mono ex rfl
  · obtain ⟨⟨z, h1, h2⟩, h3⟩ := h.pen p q (by rw [← hP]; exact e)
    refine ⟨⟨z, h1, Int.le_trans h2 (by exact_mod_cast hn)⟩, fun e he => ?_⟩
    obtain ⟨e', m, q1, _⟩ := hM e he
    rw [← q1]
    exact h3 e' m
  · obtain ⟨e', m, q1, _⟩ := hM e he
    rw [← q1]
    exact h.frM e' m
theorem OkS.drop {K : PySem.W.Frag} {F : Fr} {s : S} {H : Hp} (h : OkS K F s H) (k : Nat) : OkS K F (s.drop k) H ∧ Tr F s H (s.drop k) H :=
  h.less (fun e he => ⟨e, mdel_sub he, rfl, rfl, id⟩) (mdel_nd h.nd) rfl (Nat.le_refl _)
theorem mfrz_mem : ∀ {M : List Ent} {h : Nat} {e : Ent}, e ∈ mfrz M h → ∃ e' ∈ M, e'.a = e.a ∧ e'.o = e.o ∧ (e.fz = false → e'.fz = false)
  | [], h, e, q => by cases q
  | x :: r, h, e, q => by
    unfold mfrz at q
    split at q
    · rcases List.mem_cons.mp q with q | q
      · exact ⟨x, List.mem_cons_self, by rw [q], by rw [q], fun z => by rw [q] at z; cases z⟩
      · exact ⟨e, List.mem_cons_of_mem _ q, rfl, rfl, id⟩
    · rcases List.mem_cons.mp q with q | q
      · exact ⟨x, List.mem_cons_self, by rw [q], by rw [q], fun z => by rw [q] at z; exact z⟩
      · obtain ⟨e', m, q⟩ := mfrz_mem q
        exact ⟨e', List.mem_cons_of_mem _ m, q⟩
theorem mfrz_map : ∀ {M : List Ent} {h : Nat}, (mfrz M h).map (·.a) = M.map (·.a)
  | [], _ => rfl
  | x :: r, h => by
    unfold mfrz
    split
    · rfl
    · rw [List.map_cons, List.map_cons, mfrz_map]
def S.frz (s : S) (h : Nat) : S := { s with M := mfrz s.M h }
theorem OkS.frz {K : PySem.W.Frag} {F : Fr} {s : S} {H : Hp} (h : OkS K F s H) (k : Nat) : OkS K F (s.frz k) H ∧ Tr F s H (s.frz k) H :=
  h.less (fun e he => mfrz_mem he) (by show ((mfrz s.M k).map (·.a)).Nodup; rw [mfrz_map]; exact h.nd) rfl (Nat.le_refl _)
def S.at (s : S) (n : Nat) : S := { s with n := n }
theorem OkS.up {K : PySem.W.Frag} {F : Fr} {s : S} {H : Hp} (h : OkS K F s H) {n : Nat} (hn : s.n ≤ n) : OkS K F (s.at n) H ∧ Tr F s H (s.at n) H :=
  h.less (fun e he => ⟨e, he, rfl, rfl, id⟩) h.nd rfl hn
theorem any_frz {e : Ent} : ∀ {M : List Ent} {h : Nat}, (M.map (·.a)).Nodup → mget M h = some e → ((mfrz M h).any fun x => !x.fz && x.a == e.a) = false
  | [], h, nd, hg => by cases hg
  | x :: r, h, nd, hg => by
    rw [List.map_cons, List.nodup_cons] at nd
    unfold mget at hg
    unfold mfrz
    cases hb : Nat.beq x.h h with
    | true =>
      rw [hb] at hg
      cases hg
      show ((⟨e.h, e.a, e.o, true⟩ :: r).any fun x => !x.fz && x.a == e.a) = false
      rw [List.any_cons]
      show ((!true && e.a == e.a) || r.any fun x => !x.fz && x.a == e.a) = false
      rw [Bool.not_true, Bool.false_and, Bool.false_or, List.any_eq_false]
      intro e' he' hx
      rw [Bool.and_eq_true, beq_iff_eq] at hx
      exact nd.1 (List.mem_map.mpr ⟨e', he', hx.2⟩)
    | false =>
      rw [hb] at hg
      show ((x :: mfrz r h).any fun x => !x.fz && x.a == e.a) = false
      rw [List.any_cons]
      have hne : (x.a == e.a) = false := beq_eq_false_iff_ne.mpr fun z => nd.1 (List.mem_map.mpr ⟨e, (mget_mem hg).1, z.symm⟩)
      rw [hne, Bool.and_false, Bool.false_or]
      exact any_frz nd.2 hg
/-- frozen: it is seen -/
theorem OkS.frz_vis {K : PySem.W.Frag} {F : Fr} {s : S} {H : Hp} (h : OkS K F s H) {k : Nat} {e : Ent} (hg : mget s.M k = some e) {o : HO} (ho : H e.a = some o) : vis F (s.frz k) H e.a = some o := by
  obtain ⟨hm, _⟩ := mget_mem hg
  refine vis_iff.mpr ⟨?_, ho⟩
  unfold S.hid
  have h1 : F e.a = false := h.frM e hm
  have h2 : (s.frz k).hidM e.a = false := any_frz h.nd hg
  have h3 : (s.frz k).hidP e.a = false := by
    unfold S.hidP
    show (match s.pn with | none => false | some (p, q) => e.a == p || e.a == q) = false
    cases e2 : s.pn with
    | none => rfl
    | some pq =>
      obtain ⟨p, q⟩ := pq
      obtain ⟨h3, h4⟩ := (h.pen p q e2).2 e hm
      simp [h3, h4]
  rw [h1, h2, h3]
  rfl
/-- a new object that may be changed -/
def S.own (s : S) (h : Nat) (a : Addr) (o : MO) : S := { s with M := ⟨h, a, o, false⟩ :: s.M }
theorem OkS.own {K : PySem.W.Frag} {F : Fr} {s : S} {H : Hp} (h : OkS K F s H) {k : Nat} {p : Addr} {o : HO} {m : MO} (n : H p = none) (hr : ∀ Hv, Ex (vis F s H) Hv → RepO K Hv (upd H p o) p m) : OkS K F (s.own k p m) (upd H p o) ∧ Tr F s H (s.own k p m) (upd H p o) := by
  have hh := h.new_hid n
  have ne : ∀ a, H a ≠ none → a ≠ p := fun a ha z => ha (by rw [z]; exact n)
  have ex : Ex (vis F s H) (vis F (s.own k p m) (upd H p o)) := fun a u e => by
    obtain ⟨h1, h2⟩ := vis_iff.mp e
    refine vis_iff.mpr ⟨?_, Ex.new n _ _ h2⟩
    unfold S.hid at h1 ⊢
    simp only [Bool.or_eq_false_iff] at h1 ⊢
    refine ⟨⟨h1.1.1, ?_⟩, h1.2⟩
    show (List.any (⟨k, p, m, false⟩ :: s.M) fun e => !e.fz && e.a == a) = false
    rw [List.any_cons]
    have hpa : (p == a) = false := by
      rw [beq_eq_false_iff_ne]
      exact fun z => ne a (by rw [h2]; exact fun z => nomatch z) z.symm
    show (!false && (p == a) || s.M.any fun e => !e.fz && e.a == a) = false
    rw [hpa]
    exact h1.1.2
  refine ⟨⟨fun e he => ?_, ?_, fun a b e => ?_, fun a ha => by rw [upd_ne (ne _ (h.fr a ha))]; exact h.fr a ha, fun e he => ?_, h.frP⟩, ⟨ex, fun a ha => upd_ne (ne _ (h.fr a ha)), rfl⟩⟩
  · rcases List.mem_cons.mp he with he | he
    · rw [he]
      exact hr _ ex
    · exact (h.ents e he).mono ex (upd_ne (ne _ (h.ents e he).some))
  · show ((⟨k, p, m, false⟩ :: s.M : List Ent).map (·.a)).Nodup
    rw [List.map_cons, List.nodup_cons]
    refine ⟨fun z => ?_, h.nd⟩
    obtain ⟨e, he, ee⟩ := List.mem_map.mp z
    exact (h.ents e he).some (by rw [ee]; exact n)
  · obtain ⟨⟨z, hz, hzn⟩, hm⟩ := h.pen a b e
    have hz2 := hz
    obtain ⟨_, ns, h4, h5, _⟩ := hz2
    have np := ne a (by rw [h4]; exact fun z => nomatch z)
    have nq := ne b (by rw [h5]; exact fun z => nomatch z)
    refine ⟨⟨z, h.pen_upd hz (Ne.symm np) (Ne.symm nq), hzn⟩, fun e he => ?_⟩
    rcases List.mem_cons.mp he with he | he
    · rw [he]; exact ⟨Ne.symm np, Ne.symm nq⟩
    · exact hm e he
  · rcases List.mem_cons.mp he with he | he
    · rw [he]
      have hh2 := hh
      unfold S.hid at hh2
      simp only [Bool.or_eq_false_iff] at hh2
      exact hh2.1.1
    · exact h.frM e he
def S.put (s : S) (h : Nat) (o : MO) : S := { s with M := mset s.M h o }
theorem mset_map : ∀ {M : List Ent} {h : Nat} {o : MO}, (mset M h o).map (·.a) = M.map (·.a)
  | [], _, _ => rfl
  | x :: r, h, o => by
    unfold mset
    split
    · rfl
    · rw [List.map_cons, List.map_cons, mset_map]
theorem mset_any : ∀ {M : List Ent} {h : Nat} {o : MO} {a : Addr}, ((mset M h o).any fun e => !e.fz && e.a == a) = (M.any fun e => !e.fz && e.a == a)
  | [], _, _, _ => rfl
  | x :: r, h, o, a => by
    unfold mset
    split
    · rfl
    · rw [List.any_cons, List.any_cons, mset_any]
theorem mset_mem : ∀ {M : List Ent} {h : Nat} {o : MO} {e0 : Ent}, (M.map (·.a)).Nodup → mget M h = some e0 → ∀ {e : Ent}, e ∈ mset M h o → e = ⟨e0.h, e0.a, o, e0.fz⟩ ∨ (e ∈ M ∧ e.a ≠ e0.a)
  | [], h, o, e0, nd, hg, e, he => by cases hg
  | x :: r, h, o, e0, nd, hg, e, he => by
    rw [List.map_cons, List.nodup_cons] at nd
    unfold mget at hg
    unfold mset at he
    cases hb : Nat.beq x.h h with
    | true =>
      rw [hb] at hg he
      cases hg
      rcases List.mem_cons.mp he with he | he
      · exact .inl he
      · exact .inr ⟨List.mem_cons_of_mem _ he, fun z => nd.1 (List.mem_map.mpr ⟨e, he, z⟩)⟩
    | false =>
      rw [hb] at hg he
      rcases List.mem_cons.mp he with he | he
      · rw [he]
        exact .inr ⟨List.mem_cons_self, fun z => nd.1 (List.mem_map.mpr ⟨e0, (mget_mem hg).1, z.symm⟩)⟩
      · rcases mset_mem nd.2 hg he with q | q
        · exact .inl q
        · exact .inr ⟨List.mem_cons_of_mem _ q.1, q.2⟩
/-- one of one's own objects is changed -/
theorem OkS.put {K : PySem.W.Frag} {F : Fr} {s : S} {H : Hp} (h : OkS K F s H) {k : Nat} {e : Ent} {o : HO} {m : MO} (hg : mget s.M k = some e) (hf : e.fz = false) (hr : ∀ Hv, Ex (vis F s H) Hv → RepO K Hv (upd H e.a o) e.a m) : OkS K F (s.put k m) (upd H e.a o) ∧ Tr F s H (s.put k m) (upd H e.a o) := by
  obtain ⟨hm, _⟩ := mget_mem hg
  have hhid : ∀ a, (s.put k m).hid F a = s.hid F a := fun a => by
    unfold S.hid S.hidM
    show (F a || (mset s.M k m).any (fun e => !e.fz && e.a == a) || s.hidP a) = _
    rw [mset_any]
  have hea : s.hid F e.a = true := by
    unfold S.hid S.hidM
    have : (s.M.any fun x => !x.fz && x.a == e.a) = true := List.any_eq_true.mpr ⟨e, hm, by rw [hf]; simp⟩
    rw [this]
    simp
  have ex : Ex (vis F s H) (vis F (s.put k m) (upd H e.a o)) := fun a u q => by
    obtain ⟨h1, h2⟩ := vis_iff.mp q
    refine vis_iff.mpr ⟨by rw [hhid]; exact h1, ?_⟩
    rw [upd_ne fun z => by rw [z, hea] at h1; cases h1]
    exact h2
  refine ⟨⟨fun e' he' => ?_, by show ((mset s.M k m).map (·.a)).Nodup; rw [mset_map]; exact h.nd, fun a b q => ?_, fun a ha => ?_, fun e' he' => ?_, h.frP⟩, ⟨ex, fun a ha => upd_ne fun z => ?_, rfl⟩⟩
  · rcases mset_mem h.nd hg he' with q | q
    · rw [q]
      exact hr _ ex
    · exact (h.ents e' q.1).mono ex (upd_ne q.2)
  · obtain ⟨⟨z, hz, hzn⟩, hx⟩ := h.pen a b q
    refine ⟨⟨z, h.pen_upd hz (hx e hm).1 (hx e hm).2, hzn⟩, fun e' he' => ?_⟩
    rcases mset_mem h.nd hg he' with q | q
    · rw [q]; exact hx e hm
    · exact hx e' q.1
  · by_cases z : a = e.a
    · rw [z, upd_same]; exact fun z => nomatch z
    · rw [upd_ne z]; exact h.fr a ha
  · rcases mset_mem h.nd hg he' with q | q
    · rw [q]; exact h.frM e hm
    · exact h.frM e' q.1
  · rw [z, h.frM e hm] at ha
    cases ha
end Da

/-! Readings over data: the judgements, names, statements (own). -/
namespace Da
open PySem PySem.Spec PyProof.Rows L2 Evl Hd
abbrev Ga := List (Option D)
abbrev QD := D → S → Prop
abbrev WE := Ga → S → QD → Prop
abbrev WT := Ga → S → (Bool → S → Prop) → Prop
abbrev WA := Ga → S → (List D → S → Prop) → Prop
abbrev WO := Ga → S → (Option Int → S → Prop) → Prop
abbrev WG := D → Ga → S → (Ga → S → Prop) → Prop
abbrev WGs := List D → Ga → S → (Ga → S → Prop) → Prop
structure DE where
  nx : Ga → S → Prop
  rt : QD
  bk : Ga → S → Prop
  ct : Ga → S → Prop
abbrev WS := DE → Ga → S → Prop
def look : Ga → Nat → Option D
  | [], _ => none
  | x :: _, 0 => x
  | _ :: r, n + 1 => look r n
def setG : Ga → Nat → Option D → Ga
  | [], _, _ => []
  | _ :: r, 0, d => d :: r
  | x :: r, n + 1, d => x :: setG r n d
def wipeG (Γ : Ga) : List Nat → Ga
  | [] => Γ
  | v :: vs => setG (wipeG Γ vs) v none
theorem setG_len : ∀ {Γ : Ga} {i : Nat} {d : Option D}, (setG Γ i d).length = Γ.length
  | [], _, _ => rfl
  | _ :: _, 0, _ => rfl
  | _ :: r, n + 1, d => congrArg (· + 1) (setG_len (Γ := r) (i := n) (d := d))
theorem look_set : ∀ {Γ : Ga} {i j : Nat} {d : Option D} {e : D}, look (setG Γ i d) j = some e → (j = i ∧ d = some e) ∨ (j ≠ i ∧ look Γ j = some e)
  | [], _, _, _, _, h => by cases h
  | _ :: _, 0, 0, _, _, h => .inl ⟨rfl, h⟩
  | _ :: _, 0, _ + 1, _, _, h => .inr ⟨by omega, h⟩
  | _ :: _, _ + 1, 0, _, _, h => .inr ⟨by omega, h⟩
  | _ :: r, i + 1, j + 1, d, e, h => by
    rcases look_set (Γ := r) (i := i) (j := j) (d := d) (e := e) h with ⟨h1, h2⟩ | ⟨h1, h2⟩
    · exact .inl ⟨by omega, h2⟩
    · exact .inr ⟨by omega, h2⟩
theorem look_lt : ∀ {Γ : Ga} {i : Nat} {d : D}, look Γ i = some d → i < Γ.length
  | [], _, _, h => by cases h
  | _ :: _, 0, _, _ => Nat.succ_pos _
  | _ :: r, i + 1, d, h => Nat.succ_lt_succ (look_lt (Γ := r) h)
structure RepG (K : PySem.W.Frag) (Hv : Hp) (σ : L2.St) (Γ : Ga) : Prop where
  len : σ.length = Γ.length
  at_ : ∀ i d, look Γ i = some d → ∃ v, σ[i]? = some (some v) ∧ Rep K Hv v d
section
variable {K : PySem.W.Frag} {F : Fr} {s s' : S} {H H' Hv Hv' : Hp} {σ : L2.St} {Γ : Ga}
theorem RepG.mono (e : Ex Hv Hv') (g : RepG K Hv σ Γ) : RepG K Hv' σ Γ := ⟨g.len, fun i d h => let ⟨v, h1, h2⟩ := g.at_ i d h; ⟨v, h1, h2.mono e⟩⟩
theorem RepG.set {i : Nat} {v : V} {d : D} (g : RepG K Hv σ Γ) (r : Rep K Hv v d) : RepG K Hv (σ.set i (some v)) (setG Γ i (some d)) := by
  refine ⟨by rw [List.length_set, setG_len]; exact g.len, fun j e h => ?_⟩
  have hj := look_lt h
  rw [setG_len] at hj
  rcases look_set h with ⟨h1, h2⟩ | ⟨h1, h2⟩
  · cases h2
    exact ⟨v, by rw [h1, List.getElem?_set_self (by rw [g.len]; rw [h1] at hj; exact hj)], r⟩
  · obtain ⟨u, h3, h4⟩ := g.at_ j e h2
    exact ⟨u, by rw [List.getElem?_set_ne (Ne.symm h1)]; exact h3, h4⟩
theorem RepG.forget {i : Nat} (g : RepG K Hv σ Γ) : RepG K Hv σ (setG Γ i none) := by
  refine ⟨by rw [setG_len]; exact g.len, fun j e h => ?_⟩
  rcases look_set h with ⟨_, h2⟩ | ⟨_, h2⟩
  · cases h2
  · exact g.at_ j e h2
theorem RepG.none {i : Nat} {x : Option V} (g : RepG K Hv σ Γ) : RepG K Hv (σ.set i x) (setG Γ i none) := by
  refine ⟨by rw [List.length_set, setG_len]; exact g.len, fun j e h => ?_⟩
  rcases look_set h with ⟨_, h2⟩ | ⟨h1, h2⟩
  · cases h2
  · obtain ⟨u, h3, h4⟩ := g.at_ j e h2
    exact ⟨u, by rw [List.getElem?_set_ne (Ne.symm h1)]; exact h3, h4⟩
theorem RepG.wipe (g : RepG K Hv σ Γ) : ∀ {vs : List Nat}, RepG K Hv (L2.wipe σ vs) (wipeG Γ vs)
  | [] => g
  | _ :: _ => RepG.none (RepG.wipe g)
/-- all that holds at a point: the slots, the state -/
structure At (K : PySem.W.Frag) (F : Fr) (s : S) (H : Hp) (σ : L2.St) (Γ : Ga) : Prop where
  g : RepG K (vis F s H) σ Γ
  ok : OkS K F s H
theorem At.to (a : At K F s H σ Γ) (t : Tr F s H s' H') (ok : OkS K F s' H') : At K F s' H' σ Γ := ⟨a.g.mono t.ex, ok⟩
end
/-- the two ways of a test -/
structure Br (c : Bool) (A B : Prop) : Prop where
  t : c = true → A
  f : c = false → B
theorem Br.ite {c : Bool} {A B A' B' : Prop} (h : Br c A B) (ha : c = true → A → A') (hb : c = false → B → B') : if c = true then A' else B' := by
  cases c
  · rw [if_neg Bool.false_ne_true]; exact hb rfl (h.f rfl)
  · rw [if_pos rfl]; exact ha rfl (h.t rfl)
/-- what a thing at hand shows -/
def viewM : MO → D
  | .lst ds => .lst ds
  | .dct kvs => .dct kvs
  | .obj C fs => .obj C fs
  | .nk P w es => .nkd P w es
def seeP (s : S) (d : D) (k : D → Prop) : Prop := match d with
  | .loc a h => match mget s.M h with
    | some e => e.a = a ∧ k (viewM e.o)
    | none => False
  | .non => k .non
  | .bl b => k (.bl b)
  | .int i => k (.int i)
  | .str x => k (.str x)
  | .tup ds => k (.tup ds)
  | .lst ds => k (.lst ds)
  | .dct kvs => k (.dct kvs)
  | .obj C fs => k (.obj C fs)
  | .val v => k (.val v)
  | .lck ns => k (.lck ns)
  | .nkd P w es => k (.nkd P w es)
/-- handed on: from now on it is not changed -/
def escP (s : S) (d : D) (k : D → S → Prop) : Prop := match d with
  | .loc a h => match mget s.M h with
    | some e => e.a = a ∧ k (viewM e.o) (s.frz h)
    | none => False
  | .non => k .non s
  | .bl b => k (.bl b) s
  | .int i => k (.int i) s
  | .str x => k (.str x) s
  | .tup ds => k (.tup ds) s
  | .lst ds => k (.lst ds) s
  | .dct kvs => k (.dct kvs) s
  | .obj C fs => k (.obj C fs) s
  | .val v => k (.val v) s
  | .lck ns => k (.lck ns) s
  | .nkd P w es => k (.nkd P w es) s
def escA (s : S) : List D → (List D → S → Prop) → Prop
  | [], k => k [] s
  | d :: r, k => escP s d fun d' s1 => escA s1 r fun r' s2 => k (d' :: r') s2
def RepW (K : PySem.W.Frag) (Hv H : Hp) (v : V) : D → Prop
  | .lst ds => ∃ a xs, v = .ref a ∧ H a = some (.lst xs) ∧ RepL K Hv xs ds ∧ ds.length ≤ sizeLine
  | .tup ds => Rep K Hv v (.tup ds)
  | .dct kvs => ∃ a ks, v = .ref a ∧ H a = some (.dK ks) ∧ RepK K Hv ks kvs ∧ kvs.length ≤ sizeLine
  | .obj C gs => ∃ a dx fs, v = .ref a ∧ H a = some (.ins C dx fs) ∧ RepF K Hv fs gs
  | .non => v = .non
  | .bl b => v = .bl b
  | .int i => v = .int i
  | .str x => v = .str x
  | .val x => v = x
  | .loc a _ => v = .ref a
  | .lck ns => Rep K Hv v (.lck ns)
  | .nkd P w es => ∃ a xs, v = .ref a ∧ H a = some (Nk.nkO P w a xs) ∧ NkR K Hv xs es ∧ (a == sysModules) = false
section
variable {K : PySem.W.Frag} {F : Fr} {s s' : S} {H H' Hv Hv' : Hp} {σ : L2.St} {Γ : Ga} {v : V} {d : D}
theorem Rep.w (e : Ex Hv H) (r : Rep K Hv v d) : RepW K Hv H v d := by
  cases r with
  | non => rfl
  | bl => rfl
  | int => rfl
  | str => rfl
  | tup h r n => exact .tup h r n
  | lst h r n => exact ⟨_, _, rfl, e _ _ h, r, n⟩
  | dct h r n => exact ⟨_, _, rfl, e _ _ h, r, n⟩
  | obj h r => exact ⟨_, _, _, rfl, e _ _ h, r⟩
  | val => rfl
  | loc => rfl
  | lck h => exact .lck h
  | nkd h r l => exact ⟨_, _, rfl, e _ _ h, r, l⟩
theorem RepW.tup {Hv H : Hp} {v : V} {ds : List D} (e : Ex Hv H) (r : RepW K Hv H v (.tup ds)) : ∃ a xs, v = .ref a ∧ SqT K H a xs ∧ RepL K Hv xs ds ∧ ds.length ≤ sizeLine := by
  cases r with
  | tup h1 h2 h3 => exact ⟨_, _, rfl, ex_t e h1, h2, h3⟩
theorem RepO.w {a : Addr} : ∀ {o : MO}, RepO K Hv H a o → RepW K Hv H (.ref a) (viewM o)
  | .lst _, ⟨xs, h1, h2, h3⟩ => ⟨a, xs, rfl, h1, h2, h3⟩
  | .dct _, ⟨xs, h1, h2, h3⟩ => ⟨a, xs, rfl, h1, h2, h3⟩
  | .obj _ _, ⟨dx, xs, h1, h2⟩ => ⟨a, dx, xs, rfl, h1, h2⟩
  | .nk _ _ _, ⟨xs, h1, h2, h3⟩ => ⟨a, xs, rfl, h1, h2, h3⟩
theorem RepO.r {a : Addr} (hv : Hv a = H a) : ∀ {o : MO}, RepO K Hv H a o → Rep K Hv (.ref a) (viewM o)
  | .lst _, ⟨xs, h1, h2, h3⟩ => .lst (hv.trans h1) h2 h3
  | .dct _, ⟨xs, h1, h2, h3⟩ => .dct (hv.trans h1) h2 h3
  | .obj _ _, ⟨dx, xs, h1, h2⟩ => .obj (hv.trans h1) h2
  | .nk _ _ _, ⟨xs, h1, h2, h3⟩ => .nkd (hv.trans h1) h2 h3
theorem see (ok : OkS K F s H) (r : Rep K (vis F s H) v d) {k : D → Prop} (h : seeP s d k) : ∃ d', k d' ∧ RepW K (vis F s H) H v d' := by
  cases d with
  | loc a n =>
    cases r
    unfold seeP at h
    simp only at h
    cases e : mget s.M n with
    | none => rw [e] at h; exact h.elim
    | some x =>
      rw [e] at h
      obtain ⟨h1, h2⟩ := h
      subst h1
      exact ⟨_, h2, (ok.ents x (mget_mem e).1).w⟩
  | non => exact ⟨_, h, r.w vis_ex⟩
  | bl b => exact ⟨_, h, r.w vis_ex⟩
  | int i => exact ⟨_, h, r.w vis_ex⟩
  | str x => exact ⟨_, h, r.w vis_ex⟩
  | tup ds => exact ⟨_, h, r.w vis_ex⟩
  | lst ds => exact ⟨_, h, r.w vis_ex⟩
  | dct kvs => exact ⟨_, h, r.w vis_ex⟩
  | obj C fs => exact ⟨_, h, r.w vis_ex⟩
  | val x => exact ⟨_, h, r.w vis_ex⟩
  | lck x => exact ⟨_, h, r.w vis_ex⟩
  | nkd _ _ _ => exact ⟨_, h, r.w vis_ex⟩
theorem esc (ok : OkS K F s H) (r : Rep K (vis F s H) v d) {k : D → S → Prop} (h : escP s d k) : ∃ d' s', k d' s' ∧ OkS K F s' H ∧ Tr F s H s' H ∧ Rep K (vis F s' H) v d' := by
  cases d with
  | loc a n =>
    cases r
    unfold escP at h
    simp only at h
    cases e : mget s.M n with
    | none => rw [e] at h; exact h.elim
    | some x =>
      rw [e] at h
      obtain ⟨h1, h2⟩ := h
      subst h1
      obtain ⟨q1, q2⟩ := ok.frz n
      have hx := ok.ents x (mget_mem e).1
      refine ⟨_, _, h2, q1, q2, (hx.mono q2.ex rfl).r ?_⟩
      cases ho : H x.a with
      | none => exact absurd ho hx.some
      | some o => exact ok.frz_vis e ho
  | non => exact ⟨_, _, h, ok, Tr.refl, r⟩
  | bl b => exact ⟨_, _, h, ok, Tr.refl, r⟩
  | int i => exact ⟨_, _, h, ok, Tr.refl, r⟩
  | str x => exact ⟨_, _, h, ok, Tr.refl, r⟩
  | tup ds => exact ⟨_, _, h, ok, Tr.refl, r⟩
  | lst ds => exact ⟨_, _, h, ok, Tr.refl, r⟩
  | dct kvs => exact ⟨_, _, h, ok, Tr.refl, r⟩
  | obj C fs => exact ⟨_, _, h, ok, Tr.refl, r⟩
  | val x => exact ⟨_, _, h, ok, Tr.refl, r⟩
  | lck x => exact ⟨_, _, h, ok, Tr.refl, r⟩
  | nkd _ _ _ => exact ⟨_, _, h, ok, Tr.refl, r⟩
theorem escs : ∀ {vs : List V} {ds : List D} {s : S} (ok : OkS K F s H) (r : RepL K (vis F s H) vs ds) {k : List D → S → Prop} (h : escA s ds k), ∃ ds' s', k ds' s' ∧ OkS K F s' H ∧ Tr F s H s' H ∧ RepL K (vis F s' H) vs ds'
  | _, _, s, ok, .nil, k, h => ⟨_, _, h, ok, Tr.refl, .nil⟩
  | _, _, s, ok, .cons q r, k, h => by
    obtain ⟨d', s1, h1, ok1, t1, q1⟩ := esc ok q h
    obtain ⟨ds', s2, h2, ok2, t2, r2⟩ := escs ok1 (r.mono t1.ex) h1
    exact ⟨_, _, h2, ok2, t1.trans t2, .cons (q1.mono t2.ex) r2⟩
end
/-! ### the judgements -/
/-- what comes behind an expression -/
abbrev KE (K : PySem.W.Frag) (F : Fr) (s : S) (H : Hp) (Q : QD) (Q0 : VK) : Prop := ∀ v H' d s', Tr F s H s' H' → OkS K F s' H' → Rep K (vis F s' H') v d → Q d s' → Q0 v H'
class LE (K : PySem.W.Frag) (te : TE) (w : outParam WE) : Prop where
  go : ∀ {F : Fr} {s : S} {H : Hp} {σ : L2.St} {Γ : Ga} {Q : QD} {Q0 : VK}, At K F s H σ Γ → w Γ s Q → KE K F s H Q Q0 → te σ H Q0
class LT (K : PySem.W.Frag) (te : TT) (w : outParam WT) : Prop where
  go : ∀ {F : Fr} {s : S} {H : Hp} {σ : L2.St} {Γ : Ga} {Q : Bool → S → Prop} {Q0 : Bool → Hp → Prop}, At K F s H σ Γ → w Γ s Q → (∀ b H' s', Tr F s H s' H' → OkS K F s' H' → Q b s' → Q0 b H') → te σ H Q0
class LA (K : PySem.W.Frag) (te : TA) (w : outParam WA) : Prop where
  go : ∀ {F : Fr} {s : S} {H : Hp} {σ : L2.St} {Γ : Ga} {Q : List D → S → Prop} {Q0 : List V → Hp → Prop}, At K F s H σ Γ → w Γ s Q → (∀ vs H' ds s', Tr F s H s' H' → OkS K F s' H' → RepL K (vis F s' H') vs ds → Q ds s' → Q0 vs H') → te σ H Q0
class LO (K : PySem.W.Frag) (te : TO) (w : outParam WO) : Prop where
  go : ∀ {F : Fr} {s : S} {H : Hp} {σ : L2.St} {Γ : Ga} {Q : Option Int → S → Prop} {Q0 : Option Int → Hp → Prop}, At K F s H σ Γ → w Γ s Q → (∀ o H' s', Tr F s H s' H' → OkS K F s' H' → Q o s' → Q0 o H') → te σ H Q0
/-- what comes behind a statement -/
structure KS (K : PySem.W.Frag) (F : Fr) (s : S) (H : Hp) (e : DE) (D0 : Ends) : Prop where
  nx : ∀ σ' H' Γ' s', Tr F s H s' H' → At K F s' H' σ' Γ' → e.nx Γ' s' → D0.nx σ' H'
  rt : ∀ v H' d s', Tr F s H s' H' → OkS K F s' H' → Rep K (vis F s' H') v d → e.rt d s' → D0.rt v H'
  bk : ∀ σ' H' Γ' s', Tr F s H s' H' → At K F s' H' σ' Γ' → e.bk Γ' s' → D0.bk σ' H'
  ct : ∀ σ' H' Γ' s', Tr F s H s' H' → At K F s' H' σ' Γ' → e.ct Γ' s' → D0.ct σ' H'
theorem KS.to {K : PySem.W.Frag} {F : Fr} {s s' : S} {H H' : Hp} {e : DE} {D0 : Ends} (k : KS K F s H e D0) (t : Tr F s H s' H') : KS K F s' H' e D0 :=
  ⟨fun _ _ _ _ t2 => k.nx _ _ _ _ (t.trans t2), fun _ _ _ _ t2 => k.rt _ _ _ _ (t.trans t2), fun _ _ _ _ t2 => k.bk _ _ _ _ (t.trans t2), fun _ _ _ _ t2 => k.ct _ _ _ _ (t.trans t2)⟩
class LS (K : PySem.W.Frag) (ts : TS) (w : outParam WS) : Prop where
  go : ∀ {F : Fr} {s : S} {H : Hp} {σ : L2.St} {Γ : Ga} {e : DE} {D0 : Ends}, At K F s H σ Γ → w e Γ s → KS K F s H e D0 → ts D0 σ H
class LG (K : PySem.W.Frag) (g : TG) (w : outParam WG) : Prop where
  go : ∀ {F : Fr} {s : S} {H : Hp} {σ : L2.St} {Γ : Ga} {v : V} {d : D} {Q : Ga → S → Prop} {Q0 : L2.St → Hp → Prop}, At K F s H σ Γ → Rep K (vis F s H) v d → w d Γ s Q → (∀ σ' H' Γ' s', Tr F s H s' H' → At K F s' H' σ' Γ' → Q Γ' s' → Q0 σ' H') → g v σ H Q0
class LGs (K : PySem.W.Frag) (g : TGs) (w : outParam WGs) : Prop where
  go : ∀ {F : Fr} {s : S} {H : Hp} {σ : L2.St} {Γ : Ga} {vs : List V} {ds : List D} {Q : Ga → S → Prop} {Q0 : L2.St → Hp → Prop}, At K F s H σ Γ → RepL K (vis F s H) vs ds → w ds Γ s Q → (∀ σ' H' Γ' s', Tr F s H s' H' → At K F s' H' σ' Γ' → Q Γ' s' → Q0 σ' H') → g vs σ H Q0
section
variable {K : PySem.W.Frag}
/-! ### names, constants -/
def wVar (i : Nat) : WE := fun Γ s Q => match look Γ i with
  | some d => Q d s
  | none => False
instance {i : Nat} : LE K (tVar i) (wVar i) := ⟨fun {F s H σ Γ Q Q0} a h k => by
  unfold wVar at h
  cases e : look Γ i with
  | none => rw [e] at h; exact h.elim
  | some d =>
    rw [e] at h
    obtain ⟨v, h1, h2⟩ := a.g.at_ i d e
    exact ⟨v, h1, k v H d s Tr.refl a.ok h2 h⟩⟩
def ofV : V → D
  | .non => .non
  | .bl b => .bl b
  | .int i => .int i
  | .str x => .str x
  | .byt b => .val (.byt b)
  | .flt b => .val (.flt b)
  | .ref a => .val (.ref a)
  | .ty n => .val (.ty n)
theorem rep_ofV {Hv : Hp} : ∀ {v : V}, Rep K Hv v (ofV v)
  | .non => .non
  | .bl _ => .bl
  | .int _ => .int
  | .str _ => .str
  | .byt _ => .val
  | .flt _ => .val
  | .ref _ => .val
  | .ty _ => .val
def wC (d : D) : WE := fun _ s Q => Q d s
instance {v : V} : LE K (tC v) (wC (ofV v)) := ⟨fun {F s H σ Γ Q Q0} a h k => k v H _ s Tr.refl a.ok rep_ofV h⟩
/-! ### arguments -/
def wNil : WA := fun _ s Q => Q [] s
instance : LA K tNil wNil := ⟨fun {F s H σ Γ Q Q0} a h k => k [] H [] s Tr.refl a.ok .nil h⟩
def wCons (wa : WE) (wr : WA) : WA := fun Γ s Q => wa Γ s fun d s1 => wr Γ s1 fun ds s2 => Q (d :: ds) s2
instance {ta : TE} {tr : TA} {wa : WE} {wr : WA} [la : LE K ta wa] [lr : LA K tr wr] : LA K (tCons ta tr) (wCons wa wr) := ⟨fun {F s H σ Γ Q Q0} a h k =>
  la.go a h fun v H1 d s1 t1 ok1 r1 h1 => lr.go (a.to t1 ok1) h1 fun vs H2 ds s2 t2 ok2 r2 h2 => k _ H2 _ s2 (t1.trans t2) ok2 (.cons (r1.mono t2.ex) r2) h2⟩
/-! ### tests -/
def asB (d : D) (k : Bool → Prop) : Prop := match d with
  | .bl b => k b
  | _ => False
theorem asB_of {Hv : Hp} {v : V} {d : D} {k : Bool → Prop} (h : asB d k) (r : Rep K Hv v d) : ∃ b, v = .bl b ∧ k b := by
  cases d with
  | bl b => cases r; exact ⟨b, rfl, h⟩
  | _ => exact h.elim
def wTest (w : WE) : WT := fun Γ s Q => w Γ s fun d s1 => asB d fun b => Q b s1
instance {te : TE} {w : WE} [l : LE K te w] : LT K (tTest te) (wTest w) := ⟨fun {F s H σ Γ Q Q0} a h k => l.go a h fun v H1 d s1 t1 ok1 r1 h1 => let ⟨b, e, q⟩ := asB_of h1 r1; ⟨b, e, k b H1 s1 t1 ok1 q⟩⟩
instance {te : TE} {w : WE} [l : LE K te w] : LT K (tB te) (wTest w) := ⟨fun {F s H σ Γ Q Q0} a h k => l.go a h fun v H1 d s1 t1 ok1 r1 h1 => let ⟨b, e, q⟩ := asB_of h1 r1; ⟨b, e, k b H1 s1 t1 ok1 q⟩⟩
def wAnd (t u : WT) : WT := fun Γ s Q => t Γ s fun c s1 => Br c (u Γ s1 Q) (Q false s1)
def wOr (t u : WT) : WT := fun Γ s Q => t Γ s fun c s1 => Br c (Q true s1) (u Γ s1 Q)
def wNot (t : WT) : WT := fun Γ s Q => t Γ s fun c s1 => Q (!c) s1
instance {t u : TT} {w w' : WT} [l : LT K t w] [l' : LT K u w'] : LT K (tAnd t u) (wAnd w w') := ⟨fun {F s H σ Γ Q Q0} a h k =>
  l.go a h fun b H1 s1 t1 ok1 h1 => h1.ite (fun _ h2 => l'.go (a.to t1 ok1) h2 fun c H2 s2 t2 ok2 h3 => k c H2 s2 (t1.trans t2) ok2 h3) (fun _ h2 => k _ H1 s1 t1 ok1 h2)⟩
instance {t u : TT} {w w' : WT} [l : LT K t w] [l' : LT K u w'] : LT K (tOr t u) (wOr w w') := ⟨fun {F s H σ Γ Q Q0} a h k =>
  l.go a h fun b H1 s1 t1 ok1 h1 => h1.ite (fun _ h2 => k _ H1 s1 t1 ok1 h2) (fun _ h2 => l'.go (a.to t1 ok1) h2 fun c H2 s2 t2 ok2 h3 => k c H2 s2 (t1.trans t2) ok2 h3)⟩
instance {t : TT} {w : WT} [l : LT K t w] : LT K (tNot t) (wNot w) := ⟨fun {F s H σ Γ Q Q0} a h k => l.go a h fun b H1 s1 t1 ok1 h1 => k (!b) H1 s1 t1 ok1 h1⟩
def wYes : WT := fun _ s Q => Q true s
instance : LT K tYes wYes := ⟨fun {F s H σ Γ Q Q0} a h k => k true H s Tr.refl a.ok h⟩
def wAndV (t u : WE) : WE := fun Γ s Q => t Γ s fun d s1 => asB d fun c => Br c (u Γ s1 Q) (Q (.bl false) s1)
def wOrV (t u : WE) : WE := fun Γ s Q => t Γ s fun d s1 => asB d fun c => Br c (Q (.bl true) s1) (u Γ s1 Q)
def wNotV (t : WE) : WE := fun Γ s Q => t Γ s fun d s1 => asB d fun c => Q (.bl (!c)) s1
instance {t u : TE} {w w' : WE} [l : LE K t w] [l' : LE K u w'] : LE K (tAndV t u) (wAndV w w') := ⟨fun {F s H σ Γ Q Q0} a h k =>
  l.go a h fun v H1 d s1 t1 ok1 r1 h1 => let ⟨b, e, q⟩ := asB_of h1 r1; ⟨b, e, q.ite (fun _ h2 => l'.go (a.to t1 ok1) h2 fun c H2 d2 s2 t2 ok2 r2 h3 => k c H2 d2 s2 (t1.trans t2) ok2 r2 h3) (fun _ h2 => k _ H1 _ s1 t1 ok1 .bl h2)⟩⟩
instance {t u : TE} {w w' : WE} [l : LE K t w] [l' : LE K u w'] : LE K (tOrV t u) (wOrV w w') := ⟨fun {F s H σ Γ Q Q0} a h k =>
  l.go a h fun v H1 d s1 t1 ok1 r1 h1 => let ⟨b, e, q⟩ := asB_of h1 r1; ⟨b, e, q.ite (fun _ h2 => k _ H1 _ s1 t1 ok1 .bl h2) (fun _ h2 => l'.go (a.to t1 ok1) h2 fun c H2 d2 s2 t2 ok2 r2 h3 => k c H2 d2 s2 (t1.trans t2) ok2 r2 h3)⟩⟩
instance {t : TE} {w : WE} [l : LE K t w] : LE K (tNotV t) (wNotV w) := ⟨fun {F s H σ Γ Q Q0} a h k => l.go a h fun v H1 d s1 t1 ok1 r1 h1 => let ⟨b, e, q⟩ := asB_of h1 r1; ⟨b, e, k _ H1 _ s1 t1 ok1 .bl q⟩⟩
def wIf (t : WT) (u u' : WE) : WE := fun Γ s Q => t Γ s fun c s1 => Br c (u Γ s1 Q) (u' Γ s1 Q)
instance {t : TT} {ta tb : TE} {w : WT} {wa wb : WE} [l : LT K t w] [la : LE K ta wa] [lb : LE K tb wb] : LE K (tIf t ta tb) (wIf w wa wb) := ⟨fun {F s H σ Γ Q Q0} a h k =>
  l.go a h fun b H1 s1 t1 ok1 h1 => h1.ite (fun _ h2 => la.go (a.to t1 ok1) h2 fun c H2 d2 s2 t2 ok2 r2 h3 => k c H2 d2 s2 (t1.trans t2) ok2 r2 h3) (fun _ h2 => lb.go (a.to t1 ok1) h2 fun c H2 d2 s2 t2 ok2 r2 h3 => k c H2 d2 s2 (t1.trans t2) ok2 r2 h3)⟩
/-! ### statements -/
def wNext : WS := fun e Γ s => e.nx Γ s
instance : LS K tNext wNext := ⟨fun {F s H σ Γ e D0} a h k => k.nx _ _ _ _ Tr.refl a h⟩
def wSeq (w w' : WS) : WS := fun e Γ s => w { e with nx := w' e } Γ s
instance {t u : TS} {w w' : WS} [l : LS K t w] [l' : LS K u w'] : LS K (tSeq t u) (wSeq w w') := ⟨fun {F s H σ Γ e D0} a h k =>
  l.go a h ⟨fun σ' H' Γ' s' t1 a1 h1 => l'.go a1 h1 (k.to t1), k.rt, k.bk, k.ct⟩⟩
def wCut (w w' : WS) : WS := fun e Γ s => ∃ Mid : Ga → S → Prop, w { e with nx := Mid } Γ s ∧ ∀ Γ' s', Mid Γ' s' → w' e Γ' s'
instance {t u : TS} {w w' : WS} [l : LS K t w] [l' : LS K u w'] : LS K (Evl.tCut t u) (wCut w w') := ⟨fun {F s H σ Γ e D0} a ⟨Mid, h1, h2⟩ k =>
  ⟨fun σ' H' => ∃ Γ' s', Tr F s H s' H' ∧ At K F s' H' σ' Γ' ∧ Mid Γ' s', l.go a h1 ⟨fun σ' H' Γ' s' t1 a1 h => ⟨Γ', s', t1, a1, h⟩, k.rt, k.bk, k.ct⟩, fun σ' H' ⟨Γ', s', t1, a1, h⟩ => l'.go a1 (h2 _ _ h) (k.to t1)⟩⟩
def wBreak : WS := fun e Γ s => e.bk Γ s
instance : LS K tBreak wBreak := ⟨fun {F s H σ Γ e D0} a h k => k.bk _ _ _ _ Tr.refl a h⟩
def wCont : WS := fun e Γ s => e.ct Γ s
instance : LS K tCont wCont := ⟨fun {F s H σ Γ e D0} a h k => k.ct _ _ _ _ Tr.refl a h⟩
def wNever : WS := fun _ _ _ => False
instance : LS K tNever wNever := ⟨fun {F s H σ Γ e D0} a h k => h.elim⟩
def wDrop (w : WE) : WS := fun e Γ s => w Γ s fun _ s1 => e.nx Γ s1
instance {te : TE} {w : WE} [l : LE K te w] : LS K (tDrop te) (wDrop w) := ⟨fun {F s H σ Γ e D0} a h k => l.go a h fun v H1 d s1 t1 ok1 _ h1 => k.nx _ _ _ _ t1 (a.to t1 ok1) h1⟩
def wRet (w : WE) : WS := fun e Γ s => w Γ s fun d s1 => escP s1 d fun d' s2 => e.rt d' s2
instance {te : TE} {w : WE} [l : LE K te w] : LS K (tRet te) (wRet w) := ⟨fun {F s H σ Γ e D0} a h k => l.go a h fun v H1 d s1 t1 ok1 r1 h1 =>
  let ⟨d', s2, h2, ok2, t2, r2⟩ := esc ok1 r1 h1
  k.rt _ _ _ _ (t1.trans t2) ok2 r2 h2⟩
def wRetN : WS := fun e Γ s => e.rt .non s
instance : LS K tRetN wRetN := ⟨fun {F s H σ Γ e D0} a h k => k.rt _ _ _ _ Tr.refl a.ok .non h⟩
def wIfS (t : WT) (u u' : WS) : WS := fun e Γ s => t Γ s fun c s1 => Br c (u e Γ s1) (u' e Γ s1)
instance {t : TT} {ta tb : TS} {w : WT} {wa wb : WS} [l : LT K t w] [la : LS K ta wa] [lb : LS K tb wb] : LS K (tIfS t ta tb) (wIfS w wa wb) := ⟨fun {F s H σ Γ e D0} a h k =>
  l.go a h fun b H1 s1 t1 ok1 h1 => h1.ite (fun _ h2 => la.go (a.to t1 ok1) h2 (k.to t1)) (fun _ h2 => lb.go (a.to t1 ok1) h2 (k.to t1))⟩
def wAsg (w : WE) (g : WG) : WS := fun e Γ s => w Γ s fun d s1 => g d Γ s1 fun Γ' s2 => e.nx Γ' s2
instance {te : TE} {g : TG} {w : WE} {wg : WG} [l : LE K te w] [lg : LG K g wg] : LS K (tAsg te g) (wAsg w wg) := ⟨fun {F s H σ Γ e D0} a h k => l.go a h fun v H1 d s1 t1 ok1 r1 h1 =>
  lg.go (a.to t1 ok1) r1 h1 fun σ' H' Γ' s' t2 a2 h2 => k.nx _ _ _ _ (t1.trans t2) a2 h2⟩
def wgName (i : Nat) : WG := fun d Γ s Q => Q (setG Γ i (some d)) s
instance {i : Nat} : LG K (gName i) (wgName i) := ⟨fun {F s H σ Γ v d Q Q0} a r h k => k _ H _ s Tr.refl ⟨a.g.set r, a.ok⟩ h⟩
def wgNil : WGs := fun ds Γ s Q => match ds with
  | [] => Q Γ s
  | _ :: _ => False
instance : LGs K gNil wgNil := ⟨fun {F s H σ Γ vs ds Q Q0} a r h k => by
  cases r with
  | nil => exact ⟨rfl, k _ _ _ _ Tr.refl a h⟩
  | cons _ _ => exact h.elim⟩
def wgCons (g : WG) (u : WGs) : WGs := fun ds Γ s Q => match ds with
  | [] => False
  | d :: r => g d Γ s fun Γ' s' => u r Γ' s' Q
instance {g : TG} {u : TGs} {wg : WG} {wu : WGs} [l : LG K g wg] [lu : LGs K u wu] : LGs K (gCons g u) (wgCons wg wu) := ⟨fun {F s H σ Γ vs ds Q Q0} a r h k => by
  cases r with
  | nil => exact h.elim
  | cons q r =>
    exact ⟨_, _, rfl, l.go a q h fun σ' H' Γ' s' t1 a1 h1 => lu.go a1 (r.mono t1.ex) h1 fun σ2 H2 Γ2 s2 t2 a2 h2 => k _ _ _ _ (t1.trans t2) a2 h2⟩⟩
def wgTup (n : Nat) (u : WGs) : WG := fun d Γ s Q => match d with
  | .tup ds => match Nat.beq ds.length n with
    | true => u ds Γ s Q
    | false => False
  | _ => False
instance {n : Nat} {u : TGs} {wu : WGs} [lu : LGs K u wu] : LG K (gTup K n u) (wgTup n wu) := ⟨fun {F s H σ Γ v d Q Q0} a r h k => by
  cases d with
  | tup ds =>
    cases r with
    | @tup p xs _ h1 h2 h3 =>
      unfold wgTup at h
      simp only at h
      cases e : Nat.beq ds.length n with
      | false => rw [e] at h; exact h.elim
      | true =>
        rw [e] at h
        exact ⟨p, xs, rfl, ex_t vis_ex h1, by rw [h2.len]; exact Nat.eq_of_beq_eq_true e, lu.go a h2 h k⟩
  | _ => exact h.elim⟩
def wPar (i j : Nat) (wa : WA) : WS := fun e Γ s => wa Γ s fun ds s1 => match ds with
  | [x, y] => e.nx (setG (setG Γ i (some x)) j (some y)) s1
  | _ => False
instance {i j : Nat} {ta : TA} {wa : WA} [l : LA K ta wa] : LS K (tPar i j ta) (wPar i j wa) := ⟨fun {F s H σ Γ e D0} a h k => l.go a h fun vs H1 ds s1 t1 ok1 r1 h1 => by
  match ds, r1, h1 with
  | [x, y], .cons r (.cons q .nil), h1 => exact ⟨_, _, rfl, k.nx _ _ _ _ t1 ⟨((a.to t1 ok1).g.set r).set q, ok1⟩ h1⟩⟩
end
end Da

/-! Readings over data: operators (own). -/
namespace Da
open PySem PySem.Spec PyProof.Rows L2 Evl Hd
abbrev F2 := D → D → S → QD → Prop
abbrev F1 := D → S → QD → Prop
class LR (K : PySem.W.Frag) (r : R2) (f : outParam F2) : Prop where
  go : ∀ {F : Fr} {s : S} {H : Hp} {x y : V} {dx dy : D} {Q : QD} {Q0 : VK}, OkS K F s H → RepW K (vis F s H) H x dx → RepW K (vis F s H) H y dy → f dx dy s Q → KE K F s H Q Q0 → r x y H Q0
class LU (K : PySem.W.Frag) (r : V → Hp → VK → Prop) (f : outParam F1) : Prop where
  go : ∀ {F : Fr} {s : S} {H : Hp} {x : V} {dx : D} {Q : QD} {Q0 : VK}, OkS K F s H → RepW K (vis F s H) H x dx → f dx s Q → KE K F s H Q Q0 → r x H Q0
section
variable {K : PySem.W.Frag} {F : Fr} {s : S} {H : Hp} {x y : V} {dx dy : D} {Q : QD} {Q0 : VK}
def wOp (f : F2) (wa wb : WE) : WE := fun Γ s Q => wa Γ s fun x s1 => wb Γ s1 fun y s2 => seeP s2 x fun x' => seeP s2 y fun y' => f x' y' s2 Q
instance {r : R2} {f : F2} {ta tb : TE} {wa wb : WE} [lr : LR K r f] [la : LE K ta wa] [lb : LE K tb wb] : LE K (tOp r ta tb) (wOp f wa wb) := ⟨fun {F s H σ Γ Q Q0} a h k =>
  la.go a h fun v1 H1 d1 s1 t1 ok1 r1 h1 => lb.go (a.to t1 ok1) h1 fun v2 H2 d2 s2 t2 ok2 r2 h2 => by
    obtain ⟨x', h3, q1⟩ := see ok2 (r1.mono t2.ex) h2
    obtain ⟨y', h4, q2⟩ := see ok2 r2 h3
    exact lr.go ok2 q1 q2 h4 fun v H3 d s3 t3 ok3 r3 h5 => k v H3 d s3 ((t1.trans t2).trans t3) ok3 r3 h5⟩
def wUn (f : F1) (wa : WE) : WE := fun Γ s Q => wa Γ s fun x s1 => seeP s1 x fun x' => f x' s1 Q
instance {r : V → Hp → VK → Prop} {f : F1} {ta : TE} {wa : WE} [lr : LU K r f] [la : LE K ta wa] : LE K (tUn r ta) (wUn f wa) := ⟨fun {F s H σ Γ Q Q0} a h k =>
  la.go a h fun v1 H1 d1 s1 t1 ok1 r1 h1 => by
    obtain ⟨x', h3, q1⟩ := see ok1 r1 h1
    exact lr.go ok1 q1 h3 fun v H3 d s3 t3 ok3 r3 h5 => k v H3 d s3 (t1.trans t3) ok3 r3 h5⟩
def wChain (f g : F2) (wa wb wc : WE) : WE := fun Γ s Q => wa Γ s fun x s1 => wb Γ s1 fun y s2 => seeP s2 x fun x' => seeP s2 y fun y' => f x' y' s2 fun z s3 => asB z fun c => Br c (wc Γ s3 fun w s4 => seeP s4 y fun y2 => seeP s4 w fun w' => g y2 w' s4 Q) (Q (.bl false) s3)
instance {r r' : R2} {f g : F2} {ta tb tc : TE} {wa wb wc : WE} [lr : LR K r f] [lr' : LR K r' g] [la : LE K ta wa] [lb : LE K tb wb] [lc : LE K tc wc] : LE K (tChain r r' ta tb tc) (wChain f g wa wb wc) := ⟨fun {F s H σ Γ Q Q0} a h k =>
  la.go a h fun v1 H1 d1 s1 t1 ok1 r1 h1 => lb.go (a.to t1 ok1) h1 fun v2 H2 d2 s2 t2 ok2 r2 h2 => by
    obtain ⟨x', h3, q1⟩ := see ok2 (r1.mono t2.ex) h2
    obtain ⟨y', h4, q2⟩ := see ok2 r2 h3
    refine lr.go ok2 q1 q2 h4 fun v H3 d s3 t3 ok3 r3 h5 => ?_
    obtain ⟨c, e, h6⟩ := asB_of h5 r3
    refine ⟨c, e, h6.ite (fun _ h7 => ?_) (fun _ h7 => k _ H3 _ s3 ((t1.trans t2).trans t3) ok3 .bl h7)⟩
    refine lc.go (a.to ((t1.trans t2).trans t3) ok3) h7 fun v4 H4 d4 s4 t4 ok4 r4 h8 => ?_
    obtain ⟨y2, h9, q3⟩ := see ok4 (r2.mono (t3.trans t4).ex) h8
    obtain ⟨w', h10, q4⟩ := see ok4 r4 h9
    exact lr'.go ok4 q3 q4 h10 fun v H5 d s5 t5 ok5 r5 h11 => k v H5 d s5 ((((t1.trans t2).trans t3).trans t4).trans t5) ok5 r5 h11⟩
def f2I (g : Int → Int → V) : F2 := fun x y s Q => match x, y with
  | .int i, .int j => Q (ofV (g i j)) s
  | _, _ => False
instance {g : Int → Int → V} : LR K (rI0 g) (f2I g) := ⟨fun {F s H x y dx dy Q Q0} ok rx ry h k => by
  unfold f2I at h
  split at h
  · cases rx; cases ry; exact ⟨_, _, rfl, rfl, k _ _ _ _ Tr.refl ok rep_ofV h⟩
  · exact h.elim⟩
def f2C (C : Int → Int → Prop) (g : Int → Int → V) : F2 := fun x y s Q => match x, y with
  | .int i, .int j => C i j ∧ Q (ofV (g i j)) s
  | _, _ => False
instance {C : Int → Int → Prop} {g : Int → Int → V} : LR K (rI C g) (f2C C g) := ⟨fun {F s H x y dx dy Q Q0} ok rx ry h k => by
  unfold f2C at h
  split at h
  · cases rx; cases ry; exact ⟨_, _, rfl, rfl, h.1, k _ _ _ _ Tr.refl ok rep_ofV h.2⟩
  · exact h.elim⟩
def f1I (g : Int → V) : F1 := fun x s Q => match x with
  | .int i => Q (ofV (g i)) s
  | _ => False
instance {g : Int → V} : LU K (rU g) (f1I g) := ⟨fun {F s H x dx Q Q0} ok rx h k => by
  unfold f1I at h
  split at h
  · cases rx; exact ⟨_, rfl, k _ _ _ _ Tr.refl ok rep_ofV h⟩
  · exact h.elim⟩
/-- a new list, a new tuple, never changed again -/
theorem new_lst {xs : List V} {ds : List D} (ok : OkS K F s H) (r : RepL K (vis F s H) xs ds) (n : ds.length ≤ sizeLine) (h : Q (.lst ds) s) (k : KE K F s H Q Q0) : ∀ p, H p = none → Q0 (.ref p) (upd H p (.lst xs)) := fun p hp => by
  obtain ⟨ok1, t1, v1⟩ := ok.new (o := .lst xs) hp
  exact k _ _ _ _ t1 ok1 (.lst v1 (r.mono t1.ex) n) h
theorem new_tup {xs : List V} {ds : List D} (ok : OkS K F s H) (r : RepL K (vis F s H) xs ds) (n : ds.length ≤ sizeLine) (h : Q (.tup ds) s) (k : KE K F s H Q Q0) : ∀ p, H p = none → Q0 (.ref p) (upd H p (.tup xs)) := fun p hp => by
  obtain ⟨ok1, t1, v1⟩ := ok.new (o := .tup xs) hp
  exact k _ _ _ _ t1 ok1 (.tup (SqT.of v1) (r.mono t1.ex) n) h
/-! ### + -/
abbrev rAddS : R2 := fun x y H Q => ∃ i j, x = .str i ∧ y = .str j ∧ i.length + j.length ≤ sizeLine ∧ Q (.str (i ++ j)) H
def rAddA (K : PySem.W.Frag) : R2 := fun x y H Q => rI0 (fun i j => .int (i + j)) x y H Q ∨ rAddS x y H Q ∨ rCat x y H Q ∨ rCatA K x y H Q
theorem op_addA {X : Cx} : OpR X (binaryOp .Add) (rAddA X.K) := fun pins s σ H x y v u Q I rx ry h => by
  rcases h with h | h | h | h
  · exact op_add pins s σ H x y v u Q I rx ry h
  · exact op_add_str pins s σ H x y v u Q I rx ry h
  · exact op_cat pins s σ H x y v u Q I rx ry h
  · exact op_catA pins s σ H x y v u Q I rx ry h
def fAdd : F2 := fun x y s Q => match x, y with
  | .int i, .int j => Q (.int (i + j)) s
  | .str a, .str b => a.length + b.length ≤ sizeLine ∧ Q (.str (a ++ b)) s
  | .lst a, .lst b => a.length + b.length ≤ sizeLine ∧ Q (.lst (a ++ b)) s
  | .tup a, .tup b => a.length + b.length ≤ sizeLine ∧ Q (.tup (a ++ b)) s
  | _, _ => False
theorem nil_iff {Hv : Hp} {xs : List V} {ds : List D} (r : RepL K Hv xs ds) : xs = [] ↔ ds = [] := by
  cases r with
  | nil => exact ⟨fun _ => rfl, fun _ => rfl⟩
  | cons _ _ => exact ⟨fun h => (nomatch h), fun h => (nomatch h)⟩
instance : LR K (rAddA K) fAdd := ⟨fun {F s H x y dx dy Q Q0} ok rx ry h k => by
  unfold fAdd at h
  split at h
  · cases rx; cases ry; exact .inl ⟨_, _, rfl, rfl, k _ _ _ _ Tr.refl ok .int h⟩
  · cases rx; cases ry; exact .inr (.inl ⟨_, _, rfl, rfl, h.1, k _ _ _ _ Tr.refl ok .str h.2⟩)
  · obtain ⟨a, xs, rfl, h1, h2, h3⟩ := rx
    obtain ⟨b, ys, rfl, h4, h5, h6⟩ := ry
    refine .inr (.inr (.inl ⟨a, b, xs, ys, rfl, rfl, h1, h4, by rw [h2.len, h5.len]; exact h.1, ?_⟩))
    exact new_lst ok (h2.app h5) (by rw [List.length_append]; exact h.1) h.2 k
  · obtain ⟨a, xs, rfl, h1, h2, h3⟩ := rx.tup vis_ex
    obtain ⟨b, ys, rfl, h4, h5, h6⟩ := ry.tup vis_ex
    refine .inr (.inr (.inr ⟨a, b, xs, ys, rfl, rfl, h1, h4, by rw [h2.len, h5.len]; exact h.1, fun e => ?_, fun _ e => ?_, fun _ _ => new_tup ok (h2.app h5) (by rw [List.length_append]; exact h.1) h.2 k⟩))
    · refine k _ _ _ _ Tr.refl ok ?_ h.2
      rw [(nil_iff h2).mp e, List.nil_append]
      exact ry
    · refine k _ _ _ _ Tr.refl ok ?_ h.2
      rw [(nil_iff h5).mp e, List.append_nil]
      exact rx
  · exact h.elim⟩
/-! ### * -/
abbrev rMulS : R2 := fun x y H Q => ∃ z k, x = .str z ∧ y = .int k ∧ 1 ≤ k ∧ k ≤ 100 ∧ z.length ≤ 100 ∧ Q (.str (strRep z k.toNat)) H
def rMulA (K : PySem.W.Frag) : R2 := fun x y H Q => rI CMulW (fun i j => .int (i * j)) x y H Q ∨ rMulS x y H Q ∨ rRep x y H Q ∨ rRepT K x y H Q
theorem op_mulA {X : Cx} : OpR X (binaryOp .Mult) (rMulA X.K) := fun pins s σ H x y v u Q I rx ry h => by
  rcases h with h | h | h | h
  · exact op_mulW pins s σ H x y v u Q I rx ry h
  · exact op_mulS pins s σ H x y v u Q I rx ry h
  · exact op_rep pins s σ H x y v u Q I rx ry h
  · exact op_repT pins s σ H x y v u Q I rx ry h
theorem rep_len {α : Type} (k : Nat) (ds : List α) : (List.replicate k ds).flatten.length = ds.length * k := by
  rw [List.length_flatten, List.map_replicate, List.sum_replicate_nat, Nat.mul_comm]
def fMul : F2 := fun x y s Q => match x, y with
  | .int i, .int j => CMulW i j ∧ Q (.int (i * j)) s
  | .str a, .int k => (1 ≤ k ∧ k ≤ 100 ∧ a.length ≤ 100) ∧ Q (.str (strRep a k.toNat)) s
  | .lst a, .int k => (-(2 ^ 63) ≤ k ∧ k < 2 ^ 63 ∧ a.length * k.toNat ≤ sizeLine) ∧ Q (.lst (List.replicate k.toNat a).flatten) s
  | .tup a, .int k => (a ≠ [] ∧ 2 ≤ k ∧ k ≤ 1000 ∧ a.length ≤ 1000) ∧ Q (.tup (List.replicate k.toNat a).flatten) s
  | _, _ => False
instance : LR K (rMulA K) fMul := ⟨fun {F s H x y dx dy Q Q0} ok rx ry h k => by
  unfold fMul at h
  split at h
  · cases rx; cases ry; exact .inl ⟨_, _, rfl, rfl, h.1, k _ _ _ _ Tr.refl ok .int h.2⟩
  · cases rx; cases ry; exact .inr (.inl ⟨_, _, rfl, rfl, h.1.1, h.1.2.1, h.1.2.2, k _ _ _ _ Tr.refl ok .str h.2⟩)
  · obtain ⟨a, xs, rfl, h1, h2, h3⟩ := rx
    cases ry
    refine .inr (.inr (.inl ⟨a, _, xs, rfl, rfl, h1, h.1.1, h.1.2.1, by rw [h2.len]; exact h.1.2.2, ?_⟩))
    exact new_lst ok (h2.rep _) (by rw [rep_len]; exact h.1.2.2) h.2 k
  · obtain ⟨a, xs, rfl, h1, h2, h3⟩ := rx.tup vis_ex
    cases ry
    obtain ⟨⟨n1, n2, n3, n4⟩, h⟩ := h
    refine .inr (.inr (.inr ⟨a, _, xs, rfl, rfl, h1, fun e => n1 ((nil_iff h2).mp e), n2, n3, by rw [h2.len]; exact n4, ?_⟩))
    refine new_tup ok (h2.rep _) ?_ h k
    rw [rep_len]
    rename_i kk
    have : kk.toNat ≤ 1000 := by omega
    exact Nat.le_trans (Nat.mul_le_mul n4 this) (by decide)
  · exact h.elim⟩
/-! ### // -/
abbrev rDivF : R2 := rI CDivN (fun i j => .int (i.fdiv j))
def rDivA : R2 := fun x y H Q => rDivF x y H Q ∨ rI CDivW (fun i j => .int (i / j)) x y H Q
theorem op_divA {X : Cx} : OpR X (binaryOp .FloorDiv) rDivA := fun pins s σ H x y v u Q I rx ry h => by
  rcases h with h | h
  · exact op_fdivN pins s σ H x y v u Q I rx ry h
  · exact op_fdivW pins s σ H x y v u Q I rx ry h
def fDiv : F2 := fun x y s Q => match x, y with
  | .int i, .int j => (0 < j ∧ j.natAbs.log2 < 9000) ∧ Q (.int (i / j)) s
  | _, _ => False
instance : LR K rDivA fDiv := ⟨fun {F s H x y dx dy Q Q0} ok rx ry h k => by
  unfold fDiv at h
  split at h
  · cases rx; cases ry; exact .inr ⟨_, _, rfl, rfl, h.1, k _ _ _ _ Tr.refl ok .int h.2⟩
  · exact h.elim⟩
/-! ### is None -/
def fIsN (neg : Bool) : F2 := fun x y s Q => match y with
  | .non => match x with
    | .non => Q (.bl (!neg)) s
    | .bl _ => Q (.bl neg) s
    | .int _ => Q (.bl neg) s
    | .str _ => Q (.bl neg) s
    | .tup _ => Q (.bl neg) s
    | .lst _ => Q (.bl neg) s
    | .dct _ => Q (.bl neg) s
    | .obj _ _ => Q (.bl neg) s
    | .loc _ _ => Q (.bl neg) s
    | .lck _ => Q (.bl neg) s
    | .nkd _ _ _ => Q (.bl neg) s
    | .val _ => False
  | _ => False
abbrev rIs0 : R2 := fun x y H Q => y = .non ∧ Q (.bl (decide (x = .non))) H
abbrev rIs1 : R2 := fun x y H Q => y = .non ∧ Q (.bl (!decide (x = .non))) H
theorem not_non {Hv : Hp} : ∀ {d : D}, RepW K Hv H x d → d ≠ .non → (∀ v, d ≠ .val v) → x ≠ .non := by
  intro d r h1 h2
  cases d with
  | non => exact absurd rfl h1
  | bl b => cases r; exact fun z => nomatch z
  | int i => cases r; exact fun z => nomatch z
  | str i => cases r; exact fun z => nomatch z
  | tup ds => cases r; exact fun z => nomatch z
  | lst ds => obtain ⟨a, xs, rfl, _⟩ := r; exact fun z => nomatch z
  | dct ds => obtain ⟨a, xs, rfl, _⟩ := r; exact fun z => nomatch z
  | obj C fs => obtain ⟨a, _, xs, rfl, _⟩ := r; exact fun z => nomatch z
  | val v => exact absurd rfl (h2 v)
  | loc a n => cases r; exact fun z => nomatch z
  | lck a => cases r; exact fun z => nomatch z
  | nkd _ _ _ => obtain ⟨a, xs, rfl, _⟩ := r; exact fun z => nomatch z
theorem fis {neg : Bool} (ok : OkS K F s H) (rx : RepW K (vis F s H) H x dx) (ry : RepW K (vis F s H) H y dy) (h : fIsN neg dx dy s Q) (k : KE K F s H Q Q0) : y = .non ∧ Q0 (.bl (if neg = true then !decide (x = .non) else decide (x = .non))) H := by
  unfold fIsN at h
  cases dy with
  | non =>
    refine ⟨ry, ?_⟩
    have no : dx ≠ .non → (∀ v, dx ≠ .val v) → Q (.bl neg) s → Q0 (.bl (if neg = true then !decide (x = .non) else decide (x = .non))) H := fun h1 h2 h3 => by
      rw [decide_eq_false (not_non rx h1 h2)]
      cases neg <;> exact k _ _ _ _ Tr.refl ok .bl h3
    cases dx with
    | non =>
      have e : x = .non := rx
      subst e
      cases neg <;> exact k _ _ _ _ Tr.refl ok .bl h
    | val v => exact h.elim
    | bl b => exact no (fun z => nomatch z) (fun _ z => nomatch z) h
    | int b => exact no (fun z => nomatch z) (fun _ z => nomatch z) h
    | str b => exact no (fun z => nomatch z) (fun _ z => nomatch z) h
    | tup b => exact no (fun z => nomatch z) (fun _ z => nomatch z) h
    | lst b => exact no (fun z => nomatch z) (fun _ z => nomatch z) h
    | dct b => exact no (fun z => nomatch z) (fun _ z => nomatch z) h
    | obj C b => exact no (fun z => nomatch z) (fun _ z => nomatch z) h
    | loc b n => exact no (fun z => nomatch z) (fun _ z => nomatch z) h
    | lck b => exact no (fun z => nomatch z) (fun _ z => nomatch z) h
    | nkd _ _ _ => exact no (fun z => nomatch z) (fun _ z => nomatch z) h
  | _ => exact h.elim
instance : LR K rIs0 (fIsN false) := ⟨fun {F s H x y dx dy Q Q0} ok rx ry h k => fis ok rx ry h k⟩
instance : LR K rIs1 (fIsN true) := ⟨fun {F s H x y dx dy Q Q0} ok rx ry h k => fis ok rx ry h k⟩
end
end Da

/-! Readings over data: == and in (own). -/
namespace Da
open PySem PySem.Spec PyProof.Rows L2 Evl Hd
/-- plain data, so deep at most: None, whole numbers, texts, tuples and lists of such -/
def Pl : Nat → D → Prop
  | _, .non => True
  | _, .int _ => True
  | _, .str x => PyData.strOk x = true
  | n + 1, .tup ds => ∀ d ∈ ds, Pl n d
  | n + 1, .lst ds => ∀ d ∈ ds, Pl n d
  | _, _ => False
theorem Pl.up : ∀ {n m : Nat} {d : D}, n ≤ m → Pl n d → Pl m d
  | _, m, .non, _, _ => by cases m <;> trivial
  | _, m, .int _, _, _ => by cases m <;> trivial
  | n, m, .str x, _, h => by
    have : PyData.strOk x = true := by cases n <;> exact h
    cases m <;> exact this
  | n + 1, m, .tup ds, hm, h => by
    obtain ⟨m, rfl⟩ : ∃ q, m = q + 1 := ⟨m - 1, by omega⟩
    exact fun d hd => Pl.up (by omega) (h d hd)
  | n + 1, m, .lst ds, hm, h => by
    obtain ⟨m, rfl⟩ : ∃ q, m = q + 1 := ⟨m - 1, by omega⟩
    exact fun d hd => Pl.up (by omega) (h d hd)
  | 0, _, .tup _, _, h => h.elim
  | 0, _, .lst _, _, h => h.elim
  | 0, _, .bl _, _, h => h.elim
  | _ + 1, _, .bl _, _, h => h.elim
  | 0, _, .dct _, _, h => h.elim
  | _ + 1, _, .dct _, _, h => h.elim
  | 0, _, .obj _ _, _, h => h.elim
  | _ + 1, _, .obj _ _, _, h => h.elim
  | 0, _, .val _, _, h => h.elim
  | _ + 1, _, .val _, _, h => h.elim
  | 0, _, .loc _ _, _, h => h.elim
  | _ + 1, _, .loc _ _, _, h => h.elim
  | 0, _, .lck _, _, h => h.elim
  | _ + 1, _, .lck _, _, h => h.elim
  | 0, _, .nkd _ _ _, _, h => h.elim
  | _ + 1, _, .nkd _ _ _, _, h => h.elim
mutual
def toPy : D → PyData
  | .int i => .int i
  | .str x => .str x
  | .tup ds => .tuple (toPys ds)
  | .lst ds => .list (toPys ds)
  | _ => .none
def toPys : List D → List PyData
  | [] => []
  | d :: r => toPy d :: toPys r
end
theorem py_lay : ∀ {n : Nat} {d : D}, Pl n d → (toPy d).canLay0 = true ∧ (toPy d).depth ≤ n := by
  intro n
  induction n with
  | zero =>
    intro d h
    cases d with
    | non => exact ⟨rfl, Nat.le_refl _⟩
    | int i => exact ⟨rfl, Nat.le_refl _⟩
    | str x => exact ⟨h, Nat.le_refl _⟩
    | _ => exact h.elim
  | succ n ih =>
    have all : ∀ {ds : List D}, (∀ d ∈ ds, Pl n d) → PyData.canLayAll0 (toPys ds) = true ∧ PyData.depthAll (toPys ds) ≤ n := by
      intro ds
      induction ds with
      | nil => exact fun _ => ⟨rfl, Nat.zero_le _⟩
      | cons d r ih2 =>
        intro h
        obtain ⟨a1, a2⟩ := ih (h d List.mem_cons_self)
        obtain ⟨b1, b2⟩ := ih2 fun e he => h e (List.mem_cons_of_mem _ he)
        refine ⟨?_, ?_⟩
        · show ((toPy d).canLay0 && PyData.canLayAll0 (toPys r)) = true
          rw [a1, b1]; rfl
        · show max (toPy d).depth (PyData.depthAll (toPys r)) ≤ n
          exact Nat.max_le.mpr ⟨a2, b2⟩
    intro d h
    cases d with
    | non => exact ⟨rfl, Nat.zero_le _⟩
    | int i => exact ⟨rfl, Nat.zero_le _⟩
    | str x => exact ⟨h, Nat.zero_le _⟩
    | tup ds => exact ⟨(all h).1, Nat.succ_le_succ (all h).2⟩
    | lst ds => exact ⟨(all h).1, Nat.succ_le_succ (all h).2⟩
    | _ => exact h.elim
open Classical in
theorem py_eqv : ∀ {n m : Nat} {d e : D}, Pl n d → Pl m e → PyData.eqv (toPy d) (toPy e) = decide (d = e) := by
  intro n
  induction n with
  | zero =>
    intro m d e h1 h2
    cases d with
    | non => cases e <;> first | exact (decide_eq_true rfl).symm | exact (decide_eq_false (fun z => nomatch z)).symm | (cases m <;> exact h2.elim)
    | int i => cases e <;> first | exact (decide_eq_false (fun z => nomatch z)).symm | (show (_ == _) = _; by_cases q : i = ‹Int›; · subst q; simp
                                                                                        · rw [decide_eq_false (fun z => q (D.int.inj z))]; simpa using q) | (cases m <;> exact h2.elim)
    | str i => cases e <;> first | exact (decide_eq_false (fun z => nomatch z)).symm | (show (_ == _) = _; by_cases q : i = ‹Str›; · subst q; simp
                                                                                        · rw [decide_eq_false (fun z => q (D.str.inj z))]; simpa using q) | (cases m <;> exact h2.elim)
    | _ => exact h1.elim
  | succ n ih =>
    have all : ∀ {m : Nat} {ds es : List D}, (∀ d ∈ ds, Pl n d) → (∀ e ∈ es, Pl m e) → PyData.eqvAll (toPys ds) (toPys es) = decide (ds = es) := by
      intro m ds
      induction ds with
      | nil =>
        intro es _ _
        cases es with
        | nil => exact (decide_eq_true rfl).symm
        | cons e r => exact (decide_eq_false (fun z => nomatch z)).symm
      | cons d r ih2 =>
        intro es h1 h2
        cases es with
        | nil => exact (decide_eq_false (fun z => nomatch z)).symm
        | cons e q =>
          show (PyData.eqv (toPy d) (toPy e) && PyData.eqvAll (toPys r) (toPys q)) = _
          rw [ih (h1 d List.mem_cons_self) (h2 e List.mem_cons_self), ih2 (fun x hx => h1 x (List.mem_cons_of_mem _ hx)) (fun x hx => h2 x (List.mem_cons_of_mem _ hx))]
          by_cases a : d = e
          · subst a
            by_cases b : r = q
            · subst b; simp
            · rw [decide_eq_true rfl, decide_eq_false b, decide_eq_false (fun z => b (List.cons.inj z).2)]; rfl
          · rw [decide_eq_false a, decide_eq_false (fun z => a (List.cons.inj z).1)]; rfl
    intro m d e h1 h2
    cases d with
    | non => cases e <;> first | exact (decide_eq_true rfl).symm | exact (decide_eq_false (fun z => nomatch z)).symm | (cases m <;> exact h2.elim)
    | int i => cases e <;> first | exact (decide_eq_false (fun z => nomatch z)).symm | (show (_ == _) = _; by_cases q : i = ‹Int›; · subst q; simp
                                                                                        · rw [decide_eq_false (fun z => q (D.int.inj z))]; simpa using q) | (cases m <;> exact h2.elim)
    | str i => cases e <;> first | exact (decide_eq_false (fun z => nomatch z)).symm | (show (_ == _) = _; by_cases q : i = ‹Str›; · subst q; simp
                                                                                        · rw [decide_eq_false (fun z => q (D.str.inj z))]; simpa using q) | (cases m <;> exact h2.elim)
    | tup ds =>
      cases e with
      | tup es =>
        cases m with
        | zero => exact h2.elim
        | succ m =>
          show PyData.eqvAll (toPys ds) (toPys es) = _
          rw [all h1 h2]
          by_cases q : ds = es
          · subst q; simp
          · rw [decide_eq_false q, decide_eq_false (fun z => q (D.tup.inj z))]
      | _ => first | exact (decide_eq_false (fun z => nomatch z)).symm | (cases m <;> exact h2.elim)
    | lst ds =>
      cases e with
      | lst es =>
        cases m with
        | zero => exact h2.elim
        | succ m =>
          show PyData.eqvAll (toPys ds) (toPys es) = _
          rw [all h1 h2]
          by_cases q : ds = es
          · subst q; simp
          · rw [decide_eq_false q, decide_eq_false (fun z => q (D.lst.inj z))]
      | _ => first | exact (decide_eq_false (fun z => nomatch z)).symm | (cases m <;> exact h2.elim)
    | _ => exact h1.elim
theorem py_dp {K : PySem.W.Frag} {H : Hp} : ∀ {n : Nat} {v : V} {d : D}, Rep K H v d → Pl n d → Dp K H v (toPy d) := by
  intro n
  induction n with
  | zero =>
    intro v d r h
    cases r with
    | non => exact .non
    | int => exact .int _
    | str => exact .str _
    | _ => exact h.elim
  | succ n ih =>
    have all : ∀ {vs : List V} {ds : List D}, RepL K H vs ds → (∀ d ∈ ds, Pl n d) → DpAll K H vs (toPys ds) := by
      intro vs ds
      induction ds generalizing vs with
      | nil => intro r _; cases r; exact .nil
      | cons d q ih2 =>
        intro r h
        cases r with
        | cons r1 r2 => exact .cons (ih r1 (h _ List.mem_cons_self)) (ih2 r2 fun e he => h e (List.mem_cons_of_mem _ he))
    intro v d r h
    cases r with
    | non => exact .non
    | int => exact .int _
    | str => exact .str _
    | tup h1 h2 _ => exact .tup h1 (all h2 h)
    | lst h1 h2 _ => exact .lst (SqL.of h1) (all h2 h)
    | _ => exact h.elim
theorem pys_dp {K : PySem.W.Frag} {H : Hp} {n : Nat} : ∀ {vs : List V} {ds : List D}, RepL K H vs ds → (∀ d ∈ ds, Pl n d) → DpAll K H vs (toPys ds)
  | _, _, .nil, _ => .nil
  | _, _, .cons r1 r2, h => .cons (py_dp r1 (h _ List.mem_cons_self)) (pys_dp r2 fun e he => h e (List.mem_cons_of_mem _ he))
theorem RepW.dp {K : PySem.W.Frag} {Hv H : Hp} (e : Ex Hv H) {n : Nat} {v : V} {d : D} (r : RepW K Hv H v d) (h : Pl n d) : Dp K H v (toPy d) := by
  cases d with
  | non => cases r; exact .non
  | int i => cases r; exact .int _
  | str x => cases r; exact .str _
  | tup ds => exact py_dp (Rep.mono e r) h
  | lst ds =>
    obtain ⟨a, xs, rfl, h1, h2, _⟩ := r
    cases n with
    | zero => exact h.elim
    | succ n => exact .lst (SqL.of h1) (pys_dp (h2.mono e) h)
  | _ => cases n <;> exact h.elim
theorem py_shaped {n : Nat} {d : D} (h : Pl n d) (hn : n ≤ 64) : SeqAt.shaped (toPy d) = true := by
  obtain ⟨h1, h2⟩ := py_lay h
  unfold SeqAt.shaped
  rw [h1, decide_eq_true (Nat.le_trans h2 hn)]
  rfl
section
variable {K : PySem.W.Frag} {F : Fr} {s : S} {H : Hp} {x y : V} {dx dy : D} {Q : QD} {Q0 : VK}
def rEqA (K : PySem.W.Frag) : R2 := fun x y H Q => rEq x y H Q ∨ rEqD K x y H Q
def rNeA (K : PySem.W.Frag) : R2 := fun x y H Q => rNe x y H Q ∨ rNeD K x y H Q
theorem op_eqA {X : Cx} (hu : X.A.units + 64 < cLine) : OpR X (compareOp .Eq) (rEqA X.K) := fun pins s σ H x y v u Q I rx ry h => by
  rcases h with h | h
  · exact op_eq pins s σ H x y v u Q I rx ry h
  · exact op_eqD hu pins s σ H x y v u Q I rx ry h
theorem op_neA {X : Cx} (hu : X.A.units + 64 < cLine) : OpR X (compareOp .NotEq) (rNeA X.K) := fun pins s σ H x y v u Q I rx ry h => by
  rcases h with h | h
  · exact op_ne pins s σ H x y v u Q I rx ry h
  · exact op_neD hu pins s σ H x y v u Q I rx ry h
open Classical in
/-- == of plain data is equality -/
def DeepEq (x y : D) (k : Bool → Prop) : Prop := (∃ n m, n ≤ 64 ∧ m ≤ 64 ∧ Pl n x ∧ Pl m y) ∧ k (decide (x = y))
def fEqK (x y : D) (k : Bool → Prop) : Prop := match x, y with
  | .int i, .int j => k (decide (i = j))
  | .str a, .str b => k (decide (a = b))
  | .non, .non => k true
  | .bl a, .bl b => k (decide (a = b))
  | .non, .int _ => k false
  | .int _, .non => k false
  | .non, .str _ => k false
  | .str _, .non => k false
  | .non, .bl _ => k false
  | .bl _, .non => k false
  | .int _, .str _ => k false
  | .str _, .int _ => k false
  | .lst a, .lst b => DeepEq (.lst a) (.lst b) k
  | .tup a, .tup b => DeepEq (.tup a) (.tup b) k
  | .lst a, .tup b => DeepEq (.lst a) (.tup b) k
  | .tup a, .lst b => DeepEq (.tup a) (.lst b) k
  | _, _ => False
def fEq (neg : Bool) : F2 := fun x y s Q => fEqK x y fun b => Q (.bl (if neg = true then !b else b)) s
theorem feq (ok : OkS K F s H) (rx : RepW K (vis F s H) H x dx) (ry : RepW K (vis F s H) H y dy) {k : Bool → Prop} (h : fEqK dx dy k) : ∃ b, k b ∧ ((scal x y = true ∧ decide (x = y) = b) ∨ ∃ d e, Dp K H x d ∧ Dp K H y e ∧ SeqAt.shaped d = true ∧ SeqAt.shaped e = true ∧ PyData.eqv d e = b) := by
  have deep : ∀ {a b : D}, RepW K (vis F s H) H x a → RepW K (vis F s H) H y b → DeepEq a b k → ∃ b, k b ∧ ((scal x y = true ∧ decide (x = y) = b) ∨ ∃ d e, Dp K H x d ∧ Dp K H y e ∧ SeqAt.shaped d = true ∧ SeqAt.shaped e = true ∧ PyData.eqv d e = b) := fun {a b} ra rb h => by
    obtain ⟨⟨n, m, hn, hm, h1, h2⟩, h3⟩ := h
    exact ⟨_, h3, .inr ⟨_, _, ra.dp vis_ex h1, rb.dp vis_ex h2, py_shaped h1 hn, py_shaped h2 hm, py_eqv h1 h2⟩⟩
  unfold fEqK at h
  split at h
  · cases rx; cases ry; exact ⟨_, h, .inl ⟨rfl, by simp [V.int.injEq]⟩⟩
  · cases rx; cases ry; exact ⟨_, h, .inl ⟨rfl, by simp [V.str.injEq]⟩⟩
  · cases rx; cases ry; exact ⟨_, h, .inl ⟨rfl, decide_eq_true rfl⟩⟩
  · cases rx; cases ry; exact ⟨_, h, .inl ⟨rfl, by simp [V.bl.injEq]⟩⟩
  all_goals first | (cases rx; cases ry; exact ⟨_, h, .inl ⟨rfl, decide_eq_false fun z => nomatch z⟩⟩) | exact deep rx ry h | exact h.elim
instance : LR K (rEqA K) (fEq false) := ⟨fun {F s H x y dx dy Q Q0} ok rx ry h k => by
  obtain ⟨b, h1, h2⟩ := feq ok rx ry h
  rcases h2 with ⟨h2, h3⟩ | ⟨d, e, h2, h3, h4, h5, h6⟩
  · exact .inl ⟨h2, by rw [h3]; exact k _ _ _ _ Tr.refl ok .bl h1⟩
  · exact .inr ⟨d, e, h2, h3, h4, h5, by rw [h6]; exact k _ _ _ _ Tr.refl ok .bl h1⟩⟩
instance : LR K (rNeA K) (fEq true) := ⟨fun {F s H x y dx dy Q Q0} ok rx ry h k => by
  obtain ⟨b, h1, h2⟩ := feq ok rx ry h
  rcases h2 with ⟨h2, h3⟩ | ⟨d, e, h2, h3, h4, h5, h6⟩
  · exact .inl ⟨h2, by rw [h3]; exact k _ _ _ _ Tr.refl ok .bl h1⟩
  · exact .inr ⟨d, e, h2, h3, h4, h5, by rw [h6]; exact k _ _ _ _ Tr.refl ok .bl h1⟩⟩
/-! ### in -/
abbrev rSign (neg : Bool) : R2 := fun x y H Q => ∃ (c : Nat) (z : Str), x = .str ⟨#[c]⟩ ∧ y = .str z ∧ Q (.bl (if neg = true then !decide (c ∈ z.cps.toList) else decide (c ∈ z.cps.toList))) H
def rInA (K : PySem.W.Frag) (neg : Bool) : R2 := fun x y H Q => rIn K neg x y H Q ∨ rSign neg x y H Q ∨ ∃ d ds, Dp K H x d ∧ Dp K H y (.list ds) ∧ SeqAt.shaped d = true ∧ SeqAt.shaped (.list ds) = true ∧ Q (.bl (if neg = true then !ds.any fun z => PyData.eqv z d else ds.any fun z => PyData.eqv z d)) H
theorem op_inA {X : Cx} (hu : X.A.units + 65 < cLine) : OpR X (compareOp .In) (rInA X.K false) := fun pins s σ H x y v u Q I rx ry h => by
  rcases h with h | h | h
  · exact op_in_seq pins s σ H x y v u Q I rx ry h
  · exact op_in_sign pins s σ H x y v u Q I rx ry h
  · exact op_inD hu pins s σ H x y v u Q I rx ry h
theorem op_ninA {X : Cx} (hu : X.A.units + 65 < cLine) : OpR X (compareOp .NotIn) (rInA X.K true) := fun pins s σ H x y v u Q I rx ry h => by
  rcases h with h | h | h
  · exact op_notIn_seq pins s σ H x y v u Q I rx ry h
  · exact op_notIn_sign pins s σ H x y v u Q I rx ry h
  · exact op_notInD hu pins s σ H x y v u Q I rx ry h
open Classical in
def fIn (neg : Bool) : F2 := fun x y s Q => match y with
  | .lst ds => (∃ n, n ≤ 60 ∧ Pl n x ∧ ∀ d ∈ ds, Pl n d) ∧ Q (.bl (if neg = true then !decide (x ∈ ds) else decide (x ∈ ds))) s
  | .tup ds => (Pl 0 x ∧ ∀ d ∈ ds, Pl 0 d) ∧ Q (.bl (if neg = true then !decide (x ∈ ds) else decide (x ∈ ds))) s
  | .str z => ∃ c, x = .str ⟨#[c]⟩ ∧ Q (.bl (if neg = true then !decide (c ∈ z.cps.toList) else decide (c ∈ z.cps.toList))) s
  | _ => False
open Classical in
theorem any_py {n : Nat} {x : D} (hx : Pl n x) : ∀ {ds : List D}, (∀ d ∈ ds, Pl n d) → ((toPys ds).any fun z => PyData.eqv z (toPy x)) = decide (x ∈ ds)
  | [], _ => (decide_eq_false (List.not_mem_nil)).symm
  | d :: r, h => by
    show (PyData.eqv (toPy d) (toPy x) || (toPys r).any fun z => PyData.eqv z (toPy x)) = _
    rw [py_eqv (h d List.mem_cons_self) hx, any_py hx fun e he => h e (List.mem_cons_of_mem _ he)]
    by_cases a : d = x
    · subst a; simp
    · by_cases b : x ∈ r
      · rw [decide_eq_false a, decide_eq_true b, decide_eq_true (List.mem_cons_of_mem _ b)]; rfl
      · rw [decide_eq_false a, decide_eq_false b, decide_eq_false (fun z => (List.mem_cons.mp z).elim (fun e => a e.symm) b)]; rfl
theorem flat0 {Hv : Hp} {v : V} {d : D} (r : Rep K Hv v d) (h : Pl 0 d) : flatV v = true := by
  cases r with
  | non => rfl
  | int => rfl
  | str => rfl
  | _ => exact h.elim
theorem flats0 {Hv : Hp} : ∀ {vs : List V} {ds : List D}, RepL K Hv vs ds → (∀ d ∈ ds, Pl 0 d) → vs.all flatV = true
  | _, _, .nil, _ => rfl
  | _, _, .cons r1 r2, h => by
    rw [List.all_cons, flat0 r1 (h _ List.mem_cons_self), flats0 r2 fun e he => h e (List.mem_cons_of_mem _ he)]
    rfl
open Classical in
theorem eqV0 {Hv : Hp} {v u : V} {d e : D} (r : Rep K Hv v d) (q : Rep K Hv u e) (h : Pl 0 d) (h2 : Pl 0 e) : eqV v u = decide (d = e) := by
  cases r with
  | non =>
    cases q with
    | non => exact (decide_eq_true rfl).symm
    | int => exact (decide_eq_false fun z => nomatch z).symm
    | str => exact (decide_eq_false fun z => nomatch z).symm
    | _ => exact h2.elim
  | @int i =>
    cases q with
    | non => exact (decide_eq_false fun z => nomatch z).symm
    | @int j =>
      show (i == j) = _
      by_cases e : i = j
      · subst e; simp
      · rw [decide_eq_false fun z => e (D.int.inj z)]; simpa using e
    | str => exact (decide_eq_false fun z => nomatch z).symm
    | _ => exact h2.elim
  | @str i =>
    cases q with
    | non => exact (decide_eq_false fun z => nomatch z).symm
    | int => exact (decide_eq_false fun z => nomatch z).symm
    | @str j =>
      show (i == j) = _
      by_cases e : i = j
      · subst e; simp
      · rw [decide_eq_false fun z => e (D.str.inj z)]; simpa using e
    | _ => exact h2.elim
  | _ => exact h.elim
open Classical in
theorem inV0 {Hv : Hp} {u : V} {x : D} (q : Rep K Hv u x) (hx : Pl 0 x) : ∀ {vs : List V} {ds : List D}, RepL K Hv vs ds → (∀ d ∈ ds, Pl 0 d) → inV u vs = decide (x ∈ ds)
  | _, _, .nil, _ => (decide_eq_false (List.not_mem_nil)).symm
  | _, _, @RepL.cons _ _ v d vs ds r1 r2, h => by
    show (eqV v u || inV u vs) = _
    rw [eqV0 r1 q (h _ List.mem_cons_self) hx, inV0 q hx r2 fun e he => h e (List.mem_cons_of_mem _ he)]
    by_cases a : d = x
    · subst a; simp
    · by_cases b : x ∈ ds
      · rw [decide_eq_false a, decide_eq_true b, decide_eq_true (List.mem_cons_of_mem _ b)]; rfl
      · rw [decide_eq_false a, decide_eq_false b, decide_eq_false (fun z => (List.mem_cons.mp z).elim (fun e => a e.symm) b)]; rfl
theorem RepW.flat {Hv : Hp} (r : RepW K Hv H x dx) (h : Pl 0 dx) : Rep K Hv x dx := by
  cases dx with
  | non => cases r; exact .non
  | int i => cases r; exact .int
  | str i => cases r; exact .str
  | _ => exact h.elim
instance {neg : Bool} : LR K (rInA K neg) (fIn neg) := ⟨fun {F s H x y dx dy Q Q0} ok rx ry h k => by
  unfold fIn at h
  split at h
  · rename_i ds
    obtain ⟨⟨n, hn, h1, h2⟩, h3⟩ := h
    refine .inr (.inr ⟨_, _, rx.dp vis_ex h1, ry.dp (n := n + 1) vis_ex h2, py_shaped h1 (by omega), py_shaped (n := n + 1) (d := .lst ds) h2 (by omega), ?_⟩)
    rw [any_py h1 h2]
    exact k _ _ _ _ Tr.refl ok .bl h3
  · rename_i ds
    obtain ⟨⟨h1, h2⟩, h3⟩ := h
    obtain ⟨a, xs, rfl, q1, q2, q3⟩ := ry.tup vis_ex
    refine .inl ⟨a, xs, rfl, .inr q1, flat0 (rx.flat h1) h1, flats0 q2 h2, ?_⟩
    rw [inV0 (rx.flat h1) h1 q2 h2]
    exact k _ _ _ _ Tr.refl ok .bl h3
  · obtain ⟨c, rfl, h3⟩ := h
    cases rx
    cases ry
    exact .inr (.inl ⟨c, _, rfl, rfl, k _ _ _ _ Tr.refl ok .bl h3⟩)
  · exact h.elim⟩
end
end Da

/-! A walk over enumerate(a tuple). -/
namespace En
open PySem PySem.Spec PyProof.Rows L2 Evl
theorem meets_newT (tp : Addr) (its : Array Value) :
    Meets (Builtin.«enumerate.__new__» ⟨[.type "enumerate", .ref tp], []⟩) (fun _ R st => st.heap.IsTuple tp its ∧
      R (.ok (.ret (.ref (st.heap.push { cls := .type "tuple_iterator", data := .fields #[.ref tp, .int 0 0] }).objs.size)))
        { st with heap := (st.heap.push { cls := .type "tuple_iterator", data := .fields #[.ref tp, .int 0 0] }).push { cls := .type "enumerate", data := .fields #[.none, .bool false, .ref st.heap.objs.size, rawInt 0, .none, .none] } }) :=
  .of_wp fun pr wo Ar Rr st ⟨hT, fin⟩ => by
    obtain ⟨hp, gl, di, to, ou⟩ := st; have hsb := sub_enumerate
    have q1 : ∀ {A' : Around} {E Q : Value → Shared → Prop}, Q (.ref hp.objs.size) ⟨hp.push { cls := .type "tuple_iterator", data := .fields #[.ref tp, .int 0 0] }, gl, di, to, ou⟩ → wpAny (model pr wo) A' (pyIter (.ref tp)) Q E ⟨hp, gl, di, to, ou⟩ := fun q => wpAny_pyIter_tuple hT q
    wp_walk using q1
    refine wpAny_stack_any fun st' => wpAny_pure ?_
    split
    · rename_i cc _ _ _ _ _
      cases (cc == Value.type "enumerate") <;> (wp_walk using q1; exact ⟨_, rfl, fin⟩)
    · wp_walk using q1
      exact ⟨_, rfl, fin⟩
theorem call_enumT {prog : Program} {w : World} {A : Around} {E : Value → Shared → Prop} {s : Shared} {tp : Addr} {its : Array Value} {Q : Value → Shared → Prop} (hT : s.heap.IsTuple tp its)
    (k : ∀ h', IsEnum h' (s.heap.objs.size + 1) s.heap.objs.size 0 .none → h'.IsTupleIter s.heap.objs.size tp 0 → (∀ b o, s.heap.get? b = some o → h'.get? b = some o) → Q (.ref (s.heap.objs.size + 1)) { s with heap := h' }) :
    wpAny (model prog w) A (call (.type "enumerate") [.ref tp]) Q E s := by
  refine callType_new F.called_enumerate (by decide) (F.typeCall_enumerate_1 _) (F.newCall_enumerate_1 _) (fun o => F.args_object_init_2 o _) F.entry_enumerate_new (meets_newT tp its) ⟨hT, ?_⟩
  have hz : (s.heap.push { cls := .type "tuple_iterator", data := .fields #[.ref tp, .int 0 0] }).objs.size = s.heap.objs.size + 1 := Heap.size_push ..
  show _ ∧ _
  rw [hz]
  have he : IsEnum ((s.heap.push { cls := .type "tuple_iterator", data := .fields #[.ref tp, .int 0 0] }).push { cls := .type "enumerate", data := .fields #[.none, .bool false, .ref s.heap.objs.size, rawInt 0, .none, .none] }) (s.heap.objs.size + 1) s.heap.objs.size 0 .none := by
    have z := Heap.get?_push_size (s.heap.push { cls := .type "tuple_iterator", data := .fields #[.ref tp, .int 0 0] }) (o := { cls := .type "enumerate", data := .fields #[.none, .bool false, .ref s.heap.objs.size, rawInt 0, .none, .none] }) rfl
    rw [hz] at z; exact z
  exact ⟨⟨_, he, rfl⟩, k _ he ⟨_, Heap.get?_push_of_some _ (Heap.get?_push_size _ rfl), rfl, rfl⟩ fun b o y => Heap.get?_push_of_some _ (Heap.get?_push_of_some _ y)⟩
/-- the tuple at a at each turn, each item in a new pair -/
def IteT (K : PySem.W.Frag) (a : Addr) : It :=
  ⟨fun i H => ∃ (xs : List V) (x : V), SqT K H a xs ∧ xs[i]? = some x, fun i H v H' => ∃ t x, v = .ref t ∧ H t = none ∧ H' = upd H t (.tup [.int (i : Nat), x]) ∧ ∀ ys, SqT K H a ys → ys[i]? = some x, fun i H => ∃ xs : List V, SqT K H a xs ∧ xs.length ≤ i⟩
theorem turn_enumT {P : Program} {w : World} {K : PySem.W.Frag} {elts : List Expr} {kk : Nat} {tpos : Pos} (a e it : Addr) :
    Turn P w K (.Tuple elts kk tpos) (IteT K a) [e, it] e (fun i h => (∃ old, IsEnum h e it (0 + ((i : Nat) : Int)) old) ∧ h.IsTupleIter it a i ∧ e ≠ it) where
  mem := by simp
  obj := fun i h st b hb => by
    obtain ⟨⟨old, he⟩, ⟨o, ho, hc, hd⟩, _⟩ := st
    rcases (by simpa using hb : b = e ∨ b = it) with z | z
    · subst z
      exact ⟨_, he, fun v q => nomatch q⟩
    · subst z
      exact ⟨o, ho, fun v q => by rw [hd] at q; cases q⟩
  keep := fun i h h' ⟨⟨old, he⟩, hi, hne⟩ k => ⟨⟨old, k e (by simp) _ he⟩, hi.at fun o q => k it (by simp) o q, hne⟩
  item := by
    intro X hP hw hK hc i pins s σ H E I hf st hg
    subst hP hw hK
    obtain ⟨⟨old, he⟩, hit, hne⟩ := st
    obtain ⟨xs, x, hq, hx⟩ := hg
    obtain ⟨its, rv, p, hz⟩ := I.tuple hq
    have pT : s.heap.IsTuple a its.toArray := p
    obtain ⟨u, hu, ru⟩ := rv.get hx
    have hel : e < s.heap.objs.size := Heap.lt_size he
    have hil : it < s.heap.objs.size := by obtain ⟨_, q, _⟩ := hit; exact Heap.lt_size q
    have hae : a ≠ e := fun z => by
      subst z
      obtain ⟨o, ho, hcl, _⟩ := pT
      rw [he] at ho
      cases ho
      exact absurd (Value.type.inj hcl) (by decide)
    have hai : a ≠ it := fun z => by
      subst z
      obtain ⟨o, ho, hcl, _⟩ := pT
      obtain ⟨o2, ho2, hc2, _⟩ := hit
      rw [ho] at ho2
      cases ho2
      rw [hcl] at hc2
      exact absurd (Value.type.inj hc2) (by decide)
    have D := Draws.tuple (prog := X.prog) (w := X.w) (A := X.A.in1) (show X.A.in1.handled = none from I.ok.hd hc) it a hai its.toArray
    have hlt : i < its.toArray.size := by
      rw [List.size_toArray]
      exact (List.getElem?_eq_some_iff.mp hu).1
    refine wpAny_pyNext_enum_itemC D he ⟨hit, pT⟩ hlt hne (by simp [hne, Ne.symm hae]) fun y h' tk hy ho hst' hT hsz hk => ?_
    have hyu : y = u := by
      have hu' : its.toArray[i]? = some u := by simpa using hu
      rw [hu'] at hy
      cases hy
      rfl
    subst hyu
    refine ⟨_, rfl, wpAny_letOwnedTupleGo_enum (s := { s with heap := h', toks := tk + 1 }) ho fun h2 he2 sb => ?_⟩
    have hT2 : h2.get? s.heap.objs.size = some { cls := .type "tuple", data := .seq #[.int (0 + (i : Int)) tk, y] } := (sb.2 _ (Nat.ne_of_gt hel)).trans hT
    have ei : (0 : Int) + (i : Int) = ((i : Nat) : Int) := by omega
    rw [ei] at hT2
    have new : ObjOk X.prog X.w (upd H s.heap.objs.size (.tup [.int (i : Nat), x])) h2 s.heap.objs.size (.tup [.int (i : Nat), x]) := ⟨by show 2 ≤ sizeLine; decide, [.int i tk, y], .cons ⟨_, rfl⟩ (.cons ru .nil), ⟨_, hT2, rfl, _, rfl⟩⟩
    have I1 : Inv X pins σ (upd H s.heap.objs.size (.tup [.int (i : Nat), x])) { s with heap := h2, toks := tk + 1 } :=
      I.turnedNew (ch := [e, it]) (fun b ob hb q => (sb.2 b fun z => hb (by simp [z])).trans (hk b ob (fun z => hb (by simp [z])) (fun z => hb (by simp [z])) q)) hf (Nat.le_refl _) new
    refine ⟨.ref s.heap.objs.size, _, I1, rfl, ⟨_, x, rfl, I.hok.fresh (Nat.le_refl _), rfl, fun ys hys => by rw [I.tuple_inj hys hq]; exact hx⟩, ⟨⟨y, ?_⟩, hst'.1.at fun o q => (sb.2 it (Ne.symm hne)).trans q, hne⟩, fun b hb => ?_⟩
    · have e1 : (0 : Int) + ((i + 1 : Nat) : Int) = 0 + (i : Int) + 1 := by omega
      rw [e1]
      exact he2
    · have hb' : b < s.heap.objs.size := by
        rcases (by simpa using hb : b = e ∨ b = it) with z | z
        · rw [z]; exact hel
        · rw [z]; exact hil
      rw [upd_ne (Nat.ne_of_lt hb')]
      exact (hf b hb).1
  done := by
    intro X hP hw hK hc i pins s σ H E I hf st hg
    subst hP hw hK
    obtain ⟨⟨old, he⟩, hit, hne⟩ := st
    obtain ⟨xs, hq, hx⟩ := hg
    obtain ⟨its, rv, p, hz⟩ := I.tuple hq
    have pT : s.heap.IsTuple a its.toArray := p
    obtain ⟨f0, f1, f2, f3, f4, f5⟩ := hf it (by simp)
    have hl := rv.length
    have hai : a ≠ it := fun z => by
      subst z
      obtain ⟨o, ho, hcl, _⟩ := pT
      obtain ⟨o2, ho2, hc2, _⟩ := hit
      rw [ho] at ho2
      cases ho2
      rw [hcl] at hc2
      exact absurd (Value.type.inj hc2) (by decide)
    have D : Draws X.prog X.w X.A.in1 it [it, a] 0 (fun _ _ => False) (fun _ h => h.IsTupleIter it a i ∧ h.IsTuple a its.toArray) :=
      ⟨fun _ _ z => let ⟨o, ho, _⟩ := z.1; ⟨o, ho⟩, fun _ _ _ z y => ⟨z.1.at fun o q => y it (by simp) o q, z.2.at fun o q => y a (by simp) o q⟩, fun j _ _ _ hj => (Nat.not_lt_zero j hj).elim, fun s Q E z hE => wpAny_nextOf_tuple_end (show X.A.in1.handled = none from I.ok.hd hc) z.1 z.2 (by simp; omega) hE⟩
    exact wpAny_pyNext_enum_endD D he ⟨hit, pT⟩ fun h' eb => ⟨rfl, I.turned (t' := s.toks) (fun b o hb q => eb b o hb q) f0 f1 f3 f4 f5⟩
  self := fun A i s Q E ⟨⟨_, he⟩, _⟩ h => wpAny_pyIter_enum he h
/-- enumerate of a list or of a tuple, read as enumerate of a tuple -/
def iEnumT (K : PySem.W.Frag) (ta : TA) : TI := fun σ H R => ta σ H fun vs H1 => ∃ a xs, vs = [.ref a] ∧ SqT K H1 a xs ∧ R (IteT K a) H1
theorem pi_enumT {X : Cx} {e : Expr} {ta : TA} {p pos tpos : Pos} {elts : List Expr} {kk : Nat} (hg : Gl X "enumerate") (hm : X.mg "enumerate" = none) (ha : PA X [e] ta) (hs : starEach [e] X.env = [(false, eval e X.env)] := by rfl) :
    PI X (.Tuple elts kk tpos) (.Call (.Name "enumerate" p) [e] [] pos) (iEnumT X.K ta) := by
  refine ⟨fun pins st σ H R I h => Call_ (ld_blt I hg hm boot_enumerate (PyProof.Rows.callWith_type1 (thn (ha.run pos pins st σ H _ I h) fun us s1 ⟨vs, H1, I1, r1, a, xs, ex, hq, q⟩ => ?_) hs rfl))⟩
  subst ex
  cases r1 with
  | cons r rr =>
    cases rr
    cases r
    obtain ⟨its, rv, p', hz⟩ := I1.tuple hq
    have pT : s1.heap.IsTuple a its.toArray := p'
    refine call_enumT pT fun h' he hit hk => wpAny_pyIter_enum he ?_
    have I2 : Inv X pins σ H1 { s1 with heap := h' } := I1.kept (t' := s1.toks) hk
    refine ⟨s1.heap.objs.size + 1, [s1.heap.objs.size + 1, s1.heap.objs.size], _, _, H1, rfl, I2, turn_enumT a (s1.heap.objs.size + 1) s1.heap.objs.size, ⟨⟨.none, he⟩, hit, Nat.succ_ne_self _⟩, fun b hb => ?_, q⟩
    have hle : s1.heap.objs.size ≤ b := by
      rcases (by simpa using hb : b = s1.heap.objs.size + 1 ∨ b = s1.heap.objs.size) with z | z
      · rw [z]; exact Nat.le_add_right _ _
      · rw [z]; exact Nat.le_refl _
    exact I1.fpOk hle (I1.hok.fresh hle)
end En

/-! Readings over data: displays, subscripts, built-ins, walks (own). -/
namespace Da
open PySem PySem.Spec PyProof.Rows L2 Evl Hd
section
variable {K : PySem.W.Frag} {F : Fr} {s : S} {H : Hp} {x y : V} {dx dy : D} {Q : QD} {Q0 : VK}
/-! ### displays -/
def wTup (wa : WA) : WE := fun Γ s Q => wa Γ s fun ds s1 => escA s1 ds fun ds' s2 => ds'.length ≤ sizeLine ∧ Q (.tup ds') s2
instance {ta : TA} {wa : WA} [l : LA K ta wa] : LE K (tTup ta) (wTup wa) := ⟨fun {F s H σ Γ Q Q0} a h k => l.go a h fun vs H1 ds s1 t1 ok1 r1 h1 => by
  obtain ⟨ds', s2, ⟨h2, h3⟩, ok2, t2, r2⟩ := escs ok1 r1 h1
  exact ⟨by rw [r2.len]; exact h2, new_tup ok2 r2 h2 h3 fun v H3 d s3 t3 ok3 r3 h4 => k v H3 d s3 ((t1.trans t2).trans t3) ok3 r3 h4⟩⟩
def wLst (wa : WA) : WE := fun Γ s Q => wa Γ s fun ds s1 => escA s1 ds fun ds' s2 => ds'.length ≤ sizeLine ∧ Q (.lst ds') s2
instance {ta : TA} {wa : WA} [l : LA K ta wa] : LE K (tLst ta) (wLst wa) := ⟨fun {F s H σ Γ Q Q0} a h k => l.go a h fun vs H1 ds s1 t1 ok1 r1 h1 => by
  obtain ⟨ds', s2, ⟨h2, h3⟩, ok2, t2, r2⟩ := escs ok1 r1 h1
  exact ⟨by rw [r2.len]; exact h2, new_lst ok2 r2 h2 h3 fun v H3 d s3 t3 ok3 r3 h4 => k v H3 d s3 ((t1.trans t2).trans t3) ok3 r3 h4⟩⟩
/-- a value of the written part, by what it stands for -/
def tCg (v : V) (d : D) (h : ∀ H, Rep K H v d) : TE := tC v
theorem pe_g {X : Cx} {e : Expr} {v : V} {d : D} (h : ∀ H, Rep X.K H v d) (p : PE X e (tC v)) : PE X e (tCg v d h) := p
instance {v : V} {d : D} {r : ∀ H, Rep K H v d} : LE K (tCg v d r) (wC d) := ⟨fun {F s H σ Γ Q Q0} a h k => k v H _ s Tr.refl a.ok (r _) h⟩
theorem u65 {k : Nat} {A : Around} (r : Room k A) : A.units + 65 < cLine := by have := r.un; omega
def asL (d : D) (k : List D → Prop) : Prop := match d with
  | .lst ds => k ds
  | _ => False
def wStar (we : WE) (wr : WA) : WA := fun Γ s Q => we Γ s fun d s1 => escP s1 d fun d' s1 => asL d' fun ds => wr Γ s1 fun es s2 => Q (ds ++ es) s2
instance {te : TE} {tr : TA} {we : WE} {wr : WA} [l : LE K te we] [lr : LA K tr wr] : LA K (Nr.tStar K te tr) (wStar we wr) := ⟨fun {F s H σ Γ Q Q0} a h k => l.go a h fun v H1 d s1 t1 ok1 r1 h1 => by
  obtain ⟨d', s2, h2, ok2, t2, r2⟩ := esc ok1 r1 h1
  cases d' with
  | lst ds =>
    cases r2 with
    | @lst b xs _ q1 q2 q3 =>
      exact ⟨b, xs, rfl, SqL.of (vis_ex _ _ q1), lr.go (a.to (t1.trans t2) ok2) h2 fun vs H3 es s3 t3 ok3 r3 h3 => k _ H3 _ s3 ((t1.trans t2).trans t3) ok3 ((q2.mono t3.ex).app r3) h3⟩
  | _ => exact h2.elim⟩
/-! ### subscripts -/
def fIx : F2 := fun x y s Q => match x, y with
  | .lst ds, .int i => ∃ d, atI ds i = some d ∧ Q d s
  | .tup ds, .int i => ∃ d, atI ds i = some d ∧ Q d s
  | .str z, .int i => ∃ c, atI z.cps.toList i = some c ∧ z.length ≤ sizeLine ∧ Q (.str ⟨#[c]⟩) s
  | _, _ => False
theorem at_rep {Hv : Hp} {vs : List V} {ds : List D} (r : RepL K Hv vs ds) {i : Int} {d : D} (h : atI ds i = some d) : ∃ v, atI vs i = some v ∧ Rep K Hv v d := by
  unfold atI at h ⊢
  rw [r.len]
  cases e : ixN ds.length i with
  | none => rw [e] at h; cases h
  | some j =>
    rw [e] at h
    exact r.get h
instance : LR K (rIx K) fIx := ⟨fun {F s H x y dx dy Q Q0} ok rx ry h k => by
  unfold fIx at h
  split at h
  · obtain ⟨a, xs, rfl, h1, h2, h3⟩ := rx
    cases ry
    obtain ⟨d, e, q⟩ := h
    obtain ⟨v, e2, r⟩ := at_rep h2 e
    exact .inl ⟨a, xs, _, v, rfl, rfl, SqL.of h1, e2, k _ _ _ _ Tr.refl ok r q⟩
  · obtain ⟨a, xs, rfl, h1, h2, h3⟩ := rx.tup vis_ex
    cases ry
    obtain ⟨d, e, q⟩ := h
    obtain ⟨v, e2, r⟩ := at_rep h2 e
    exact .inr (.inl ⟨a, xs, _, v, rfl, rfl, h1, e2, k _ _ _ _ Tr.refl ok r q⟩)
  · cases rx
    cases ry
    obtain ⟨c, e, n, q⟩ := h
    exact .inr (.inr ⟨_, _, c, rfl, rfl, n, e, k _ _ _ _ Tr.refl ok .str q⟩)
  · exact h.elim⟩
def keyD : D → Option Key
  | .int i => some (Sum.inl i)
  | .str x => some (Sum.inr x)
  | _ => none
theorem keyD_v {Hv : Hp} {v : V} {d : D} {k : Key} (r : RepW K Hv H v d) (e : keyD d = some k) : v = kV k := by
  cases d with
  | int i => cases r; cases e; rfl
  | str i => cases r; cases e; rfl
  | _ => cases e
def fDGet : F2 := fun x y s Q => match x with
  | .dct kvs => match keyD y with
    | some k => ∃ d, lookK kvs k = some d ∧ Q d s
    | none => False
  | _ => False
instance {ta tb : TE} {wa wb : WE} [la : LE K ta wa] [lb : LE K tb wb] : LE K (tDGet ta tb) (wOp fDGet wa wb) := ⟨fun {F s H σ Γ Q Q0} a h k =>
  la.go a h fun v1 H1 d1 s1 t1 ok1 r1 h1 => lb.go (a.to t1 ok1) h1 fun v2 H2 d2 s2 t2 ok2 r2 h2 => by
    obtain ⟨x', h3, q1⟩ := see ok2 (r1.mono t2.ex) h2
    obtain ⟨y', h4, q2⟩ := see ok2 r2 h3
    cases x' with
    | dct kvs =>
      unfold fDGet at h4
      simp only at h4
      cases e : keyD y' with
      | none => rw [e] at h4; exact h4.elim
      | some ky =>
        rw [e] at h4
        obtain ⟨d, e1, h5⟩ := h4
        obtain ⟨b, ks, rfl, g1, g2, g3⟩ := q1
        obtain ⟨v, e2, r⟩ := g2.val e1
        refine ⟨b, v, rfl, ?_, k _ _ _ _ (t1.trans t2) ok2 r h5⟩
        rw [keyD_v q2 e, ← e2]
        exact DGet.k g1
    | _ => exact h4.elim⟩
/-! ### slices -/
def rSlX (K : PySem.W.Frag) : V → Option Int → Option Int → Hp → VK → Prop := fun x lo hi H Q => rSlL K x lo hi H Q ∨ rSlA K x lo hi H Q ∨ rSlS x lo hi H Q
theorem sl_any {X : Cx} : SlR X (rSlX X.K) := sl_list.or (sl_tupA.or sl_str)
def cutD (ds : List D) (lo hi : Option Int) : List D := (ds.drop (HT.sIx ds.length 0 lo)).take (HT.sIx ds.length ds.length hi - HT.sIx ds.length 0 lo)
theorem cut_rep {Hv : Hp} {vs : List V} {ds : List D} (r : RepL K Hv vs ds) {lo hi : Option Int} : RepL K Hv (cutV vs lo hi) (cutD ds lo hi) := by
  unfold cutV cutD
  rw [r.len]
  exact (r.drop _).take _
theorem cutD_len (ds : List D) (lo hi : Option Int) : (cutD ds lo hi).length ≤ ds.length := by
  unfold cutD
  rw [List.length_take, List.length_drop]
  omega
theorem cutD_all (ds : List D) {lo hi : Option Int} (h : HT.sIx ds.length 0 lo = 0 ∧ HT.sIx ds.length ds.length hi = ds.length) : cutD ds lo hi = ds := by
  unfold cutD
  rw [h.1, h.2, List.drop_zero, Nat.sub_zero, List.take_length]
def fSl (x : D) (lo hi : Option Int) (s : S) (Q : QD) : Prop := match x with
  | .lst ds => Q (.lst (cutD ds lo hi)) s
  | .tup ds => Q (.tup (cutD ds lo hi)) s
  | .str z => z.length ≤ sizeLine ∧ Q (.str (cutS z lo hi)) s
  | _ => False
def wSl (we : WE) (wl wh : WO) : WE := fun Γ s Q => we Γ s fun d s1 => wl Γ s1 fun lo s2 => wh Γ s2 fun hi s3 => seeP s3 d fun d' => fSl d' lo hi s3 Q
instance {te : TE} {tl th : TO} {we : WE} {wl wh : WO} [l : LE K te we] [ll : LO K tl wl] [lh : LO K th wh] : LE K (tSl (rSlX K) te tl th) (wSl we wl wh) := ⟨fun {F s H σ Γ Q Q0} a h k =>
  l.go a h fun v1 H1 d1 s1 t1 ok1 r1 h1 => ll.go (a.to t1 ok1) h1 fun lo H2 s2 t2 ok2 h2 => lh.go (a.to (t1.trans t2) ok2) h2 fun hi H3 s3 t3 ok3 h3 => by
    obtain ⟨x', h4, q1⟩ := see ok3 (r1.mono (t2.trans t3).ex) h3
    have tt := (t1.trans t2).trans t3
    have k' : KE K F s3 H3 Q Q0 := fun v H4 d s4 t4 => k v H4 d s4 (tt.trans t4)
    unfold fSl at h4
    split at h4
    · obtain ⟨b, xs, rfl, g1, g2, g3⟩ := q1
      exact .inl ⟨b, xs, rfl, SqL.of g1, new_lst ok3 (cut_rep g2) (Nat.le_trans (cutD_len _ _ _) g3) h4 k'⟩
    · rename_i ds
      obtain ⟨b, xs, rfl, g1, g2, g3⟩ := q1.tup vis_ex
      refine .inr (.inl ⟨b, xs, rfl, g1, fun hw => k' _ _ _ _ Tr.refl ok3 ?_ h4, fun _ => new_tup ok3 (cut_rep g2) (Nat.le_trans (cutD_len _ _ _) g3) h4 k'⟩)
      rw [g2.len] at hw
      rw [cutD_all _ hw]
      exact q1
    · cases q1
      exact .inr (.inr ⟨_, rfl, h4.1, k' _ _ _ _ Tr.refl ok3 .str h4.2⟩)
    · exact h4.elim⟩
def wNoPart : WO := fun _ s Q => Q none s
instance : LO K tNoPart wNoPart := ⟨fun {F s H σ Γ Q Q0} a h k => k none H s Tr.refl a.ok h⟩
def asI (d : D) (k : Int → Prop) : Prop := match d with
  | .int i => k i
  | _ => False
def wPart (w : WE) : WO := fun Γ s Q => w Γ s fun d s1 => asI d fun i => Q (some i) s1
instance {te : TE} {w : WE} [l : LE K te w] : LO K (tPart te) (wPart w) := ⟨fun {F s H σ Γ Q Q0} a h k => l.go a h fun v H1 d s1 t1 ok1 r1 h1 => by
  cases d with
  | int i => cases r1; exact ⟨i, rfl, k _ H1 s1 t1 ok1 h1⟩
  | _ => exact h1.elim⟩
/-! ### built-ins -/
inductive RepWL (K : PySem.W.Frag) (Hv H : Hp) : List V → List D → Prop
  | nil : RepWL K Hv H [] []
  | cons {v : V} {d : D} {vs : List V} {ds : List D} : RepW K Hv H v d → RepWL K Hv H vs ds → RepWL K Hv H (v :: vs) (d :: ds)
def seeA (s : S) : List D → (List D → Prop) → Prop
  | [], k => k []
  | d :: r, k => seeP s d fun d' => seeA s r fun r' => k (d' :: r')
theorem sees (ok : OkS K F s H) : ∀ {vs : List V} {ds : List D}, RepL K (vis F s H) vs ds → ∀ {k : List D → Prop}, seeA s ds k → ∃ ds', k ds' ∧ RepWL K (vis F s H) H vs ds'
  | _, _, .nil, k, h => ⟨_, h, .nil⟩
  | _, _, .cons q r, k, h => by
    obtain ⟨d', h1, q1⟩ := see ok q h
    obtain ⟨ds', h2, r2⟩ := sees ok r h1
    exact ⟨_, h2, .cons q1 r2⟩
abbrev FA := List D → S → QD → Prop
class LC (K : PySem.W.Frag) (r : List V → Hp → VK → Prop) (f : outParam FA) : Prop where
  go : ∀ {F : Fr} {s : S} {H : Hp} {vs : List V} {ds : List D} {Q : QD} {Q0 : VK}, OkS K F s H → RepWL K (vis F s H) H vs ds → f ds s Q → KE K F s H Q Q0 → r vs H Q0
def wCB (f : FA) (wa : WA) : WE := fun Γ s Q => wa Γ s fun ds s1 => seeA s1 ds fun ds' => f ds' s1 Q
instance {r : List V → Hp → VK → Prop} {f : FA} {ta : TA} {wa : WA} [lc : LC K r f] [l : LA K ta wa] : LE K (tCB r ta) (wCB f wa) := ⟨fun {F s H σ Γ Q Q0} a h k => l.go a h fun vs H1 ds s1 t1 ok1 r1 h1 => by
  obtain ⟨ds', h2, r2⟩ := sees ok1 r1 h1
  exact lc.go ok1 r2 h2 fun v H2 d s2 t2 => k v H2 d s2 (t1.trans t2)⟩
/-- of one argument -/
def f1 (g : F1) : FA := fun ds s Q => match ds with
  | [d] => g d s Q
  | _ => False
def f2 (g : F2) : FA := fun ds s Q => match ds with
  | [d, e] => g d e s Q
  | _ => False
theorem wl1 {Hv : Hp} {vs : List V} {d : D} (r : RepWL K Hv H vs [d]) : ∃ v, vs = [v] ∧ RepW K Hv H v d := by
  cases r with
  | cons r q => cases q; exact ⟨_, rfl, r⟩
theorem wl2 {Hv : Hp} {vs : List V} {d e : D} (r : RepWL K Hv H vs [d, e]) : ∃ v w, vs = [v, w] ∧ RepW K Hv H v d ∧ RepW K Hv H w e := by
  cases r with
  | cons r q =>
    obtain ⟨w, rfl, r2⟩ := wl1 q
    exact ⟨_, w, rfl, r, r2⟩
abbrev rLen0 (K : PySem.W.Frag) : List V → Hp → VK → Prop := fun xs H Q => ∃ x n, xs = [x] ∧ L2.LenV K x H n ∧ Q (.int (n : Nat)) H
abbrev rLenD : List V → Hp → VK → Prop := fun xs H Q => ∃ d kvs, xs = [V.ref d] ∧ H d = some (.dK kvs) ∧ Q (.int (kvs.length : Nat)) H
def fLen : F1 := fun x s Q => match x with
  | .lst ds => Q (.int (ds.length : Nat)) s
  | .tup ds => Q (.int (ds.length : Nat)) s
  | .str z => z.length ≤ sizeLine ∧ Q (.int (z.length : Nat)) s
  | .lck ns => Q (.int (ns.length : Nat)) s
  | _ => False
instance : LC K (rLen0 K) (f1 fLen) := ⟨fun {F s H vs ds Q Q0} ok r h k => by
  unfold f1 at h
  split at h
  · obtain ⟨v, rfl, rr⟩ := wl1 r
    clear r
    have r := rr
    clear rr
    unfold fLen at h
    split at h
    · obtain ⟨a, xs, rfl, h1, h2, h3⟩ := r
      rw [← h2.len] at h
      exact ⟨_, xs.length, rfl, .inl ⟨xs, SqL.of h1, rfl⟩, k _ _ _ _ Tr.refl ok .int h⟩
    · obtain ⟨a, xs, rfl, h1, h2, h3⟩ := r.tup vis_ex
      rw [← h2.len] at h
      exact ⟨_, xs.length, rfl, .inr ⟨xs, h1, rfl⟩, k _ _ _ _ Tr.refl ok .int h⟩
    · cases r
      exact ⟨_, _, rfl, ⟨h.1, rfl⟩, k _ _ _ _ Tr.refl ok .int h.2⟩
    · cases r with
      | lck q => exact ⟨_, _, rfl, .inl ⟨_, ex_l vis_ex q, (List.length_map _).symm⟩, k _ _ _ _ Tr.refl ok .int h⟩
    · exact h.elim
  · exact h.elim⟩
abbrev rInt1 : List V → Hp → VK → Prop := fun xs H Q => (∃ i, xs = [V.int i] ∧ Q (.int i) H) ∨ ∃ k, xs = [V.bl k] ∧ Q (.int (if k then 1 else 0)) H
def fInt : F1 := fun x s Q => match x with
  | .int i => Q (.int i) s
  | _ => False
instance : LC K rInt1 (f1 fInt) := ⟨fun {F s H vs ds Q Q0} ok r h k => by
  unfold f1 at h
  split at h
  · obtain ⟨v, rfl, rr⟩ := wl1 r
    clear r
    have r := rr
    clear rr
    unfold fInt at h
    split at h
    · cases r; exact .inl ⟨_, rfl, k _ _ _ _ Tr.refl ok .int h⟩
    · exact h.elim
  · exact h.elim⟩
abbrev rMax2 : List V → Hp → VK → Prop := fun xs H Q => ∃ i j, xs = [V.int i, V.int j] ∧ Q (.int (if j > i then j else i)) H
abbrev rMin2 : List V → Hp → VK → Prop := fun xs H Q => ∃ i j, xs = [V.int i, V.int j] ∧ Q (.int (if j < i then j else i)) H
def fMax2 : F2 := fun x y s Q => match x, y with
  | .int i, .int j => Q (.int (max i j)) s
  | _, _ => False
def fMin2 : F2 := fun x y s Q => match x, y with
  | .int i, .int j => Q (.int (min i j)) s
  | _, _ => False
theorem max_eq (i j : Int) : (if j > i then j else i) = max i j := by
  split <;> omega
theorem min_eq (i j : Int) : (if j < i then j else i) = min i j := by
  split <;> omega
instance : LC K Da.rMax2 (f2 fMax2) := ⟨fun {F s H vs ds Q Q0} ok r h k => by
  unfold f2 at h
  split at h
  · obtain ⟨v, w, rfl, rr, q⟩ := wl2 r
    clear r
    have r := rr
    clear rr
    unfold fMax2 at h
    split at h
    · cases r; cases q; exact ⟨_, _, rfl, by rw [max_eq]; exact k _ _ _ _ Tr.refl ok .int h⟩
    · exact h.elim
  · exact h.elim⟩
instance : LC K Da.rMin2 (f2 fMin2) := ⟨fun {F s H vs ds Q Q0} ok r h k => by
  unfold f2 at h
  split at h
  · obtain ⟨v, w, rfl, rr, q⟩ := wl2 r
    clear r
    have r := rr
    clear rr
    unfold fMin2 at h
    split at h
    · cases r; cases q; exact ⟨_, _, rfl, by rw [min_eq]; exact k _ _ _ _ Tr.refl ok .int h⟩
    · exact h.elim
  · exact h.elim⟩
abbrev rAbs : List V → Hp → VK → Prop := fun xs H Q => ∃ i, xs = [V.int i] ∧ Q (.int (if i < 0 then -i else i)) H
def fAbs : F1 := fun x s Q => match x with
  | .int i => Q (.int (if i < 0 then -i else i)) s
  | _ => False
instance : LC K rAbs (f1 fAbs) := ⟨fun {F s H vs ds Q Q0} ok r h k => by
  unfold f1 at h
  split at h
  · obtain ⟨v, rfl, rr⟩ := wl1 r
    clear r
    have r := rr
    clear rr
    unfold fAbs at h
    split at h
    · cases r; exact ⟨_, rfl, k _ _ _ _ Tr.refl ok .int h⟩
    · exact h.elim
  · exact h.elim⟩
def Ints (d : D) (k : List Int → Prop) : Prop := ∃ ns : List Int, d = .lst (ns.map D.int) ∧ k ns
theorem ints_of {Hv : Hp} {v : V} {d : D} {k : List Int → Prop} (r : RepW K Hv H v d) (h : Ints d k) : ∃ a ns, v = .ref a ∧ SqL K H a (ns.map V.int) ∧ k ns := by
  obtain ⟨ns, rfl, h⟩ := h
  obtain ⟨a, xs, rfl, h1, h2, h3⟩ := r
  rw [h2.of_ints] at h1
  exact ⟨a, ns, rfl, SqL.of h1, h⟩
def fSum : F1 := fun x s Q => Ints x fun ns => Q (.int ns.sum) s
instance : LC K (rSum K) (f1 fSum) := ⟨fun {F s H vs ds Q Q0} ok r h k => by
  unfold f1 at h
  split at h
  · obtain ⟨v, rfl, rr⟩ := wl1 r
    clear r
    have r := rr
    clear rr
    obtain ⟨a, ns, rfl, h1, h2⟩ := ints_of r h
    exact ⟨a, ns, rfl, h1, k _ _ _ _ Tr.refl ok .int h2⟩
  · exact h.elim⟩
def fMaxL : F1 := fun x s Q => Ints x fun ns => 0 < ns.length ∧ ∀ m, m ∈ ns → (∀ y, y ∈ ns → y ≤ m) → Q (.int m) s
instance : LC K (rMax K) (f1 fMaxL) := ⟨fun {F s H vs ds Q Q0} ok r h k => by
  unfold f1 at h
  split at h
  · obtain ⟨v, rfl, rr⟩ := wl1 r
    clear r
    have r := rr
    clear rr
    obtain ⟨a, ns, rfl, h1, h2, h3⟩ := ints_of r h
    exact ⟨a, ns, rfl, h1, h2, fun m hm hl => k _ _ _ _ Tr.refl ok .int (h3 m hm hl)⟩
  · exact h.elim⟩
def fMinL : F1 := fun x s Q => Ints x fun ns => 0 < ns.length ∧ ∀ m, m ∈ ns → (∀ y, y ∈ ns → m ≤ y) → Q (.int m) s
instance : LC K (rMin K) (f1 fMinL) := ⟨fun {F s H vs ds Q Q0} ok r h k => by
  unfold f1 at h
  split at h
  · obtain ⟨v, rfl, rr⟩ := wl1 r
    clear r
    have r := rr
    clear rr
    obtain ⟨a, ns, rfl, h1, h2, h3⟩ := ints_of r h
    exact ⟨a, ns, rfl, h1, h2, fun m hm hl => k _ _ _ _ Tr.refl ok .int (h3 m hm hl)⟩
  · exact h.elim⟩
def Bls (d : D) (k : List Bool → Prop) : Prop := ∃ ns : List Bool, d = .lst (ns.map D.bl) ∧ k ns
theorem bls_of {Hv : Hp} {v : V} {d : D} {k : List Bool → Prop} (r : RepW K Hv H v d) (h : Bls d k) : ∃ a ns, v = .ref a ∧ SqL K H a (ns.map V.bl) ∧ k ns := by
  obtain ⟨ns, rfl, h⟩ := h
  obtain ⟨a, xs, rfl, h1, h2, h3⟩ := r
  rw [h2.of_bls] at h1
  exact ⟨a, ns, rfl, SqL.of h1, h⟩
def fAll : F1 := fun x s Q => Bls x fun bs => Q (.bl (bs.all id)) s
def fAny : F1 := fun x s Q => Bls x fun bs => Q (.bl (bs.any id)) s
instance : LC K (rAll K) (f1 fAll) := ⟨fun {F s H vs ds Q Q0} ok r h k => by
  unfold f1 at h
  split at h
  · obtain ⟨v, rfl, rr⟩ := wl1 r
    clear r
    have r := rr
    clear rr
    obtain ⟨a, ns, rfl, h1, h2⟩ := bls_of r h
    exact ⟨a, ns, rfl, h1, k _ _ _ _ Tr.refl ok .bl h2⟩
  · exact h.elim⟩
instance : LC K (rAny K) (f1 fAny) := ⟨fun {F s H vs ds Q Q0} ok r h k => by
  unfold f1 at h
  split at h
  · obtain ⟨v, rfl, rr⟩ := wl1 r
    clear r
    have r := rr
    clear rr
    obtain ⟨a, ns, rfl, h1, h2⟩ := bls_of r h
    exact ⟨a, ns, rfl, h1, k _ _ _ _ Tr.refl ok .bl h2⟩
  · exact h.elim⟩
abbrev rListO (K : PySem.W.Frag) : List V → Hp → VK → Prop := fun xs H Q => ∃ p ys, xs = [V.ref p] ∧ (SqL K H p ys ∨ SqT K H p ys) ∧ ∀ l, H l = none → Q (.ref l) (upd H l (.lst ys))
def fList : F1 := fun x s Q => match x with
  | .lst ds => Q (.lst ds) s
  | .tup ds => Q (.lst ds) s
  | _ => False
instance : LC K (rListO K) (f1 fList) := ⟨fun {F s H vs ds Q Q0} ok r h k => by
  unfold f1 at h
  split at h
  · obtain ⟨v, rfl, rr⟩ := wl1 r
    clear r
    have r := rr
    clear rr
    unfold fList at h
    split at h
    · obtain ⟨a, xs, rfl, h1, h2, h3⟩ := r
      exact ⟨a, xs, rfl, .inl (SqL.of h1), new_lst ok h2 h3 h k⟩
    · obtain ⟨a, xs, rfl, h1, h2, h3⟩ := r.tup vis_ex
      exact ⟨a, xs, rfl, .inr h1, new_lst ok h2 h3 h k⟩
    · exact h.elim
  · exact h.elim⟩
def fTuple : F1 := fun x s Q => match x with
  | .lst ds => Q (.tup ds) s
  | .tup ds => Q (.tup ds) s
  | _ => False
instance : LC K (Nr.rTup K) (f1 fTuple) := ⟨fun {F s H vs ds Q Q0} ok r h k => by
  unfold f1 at h
  split at h
  · obtain ⟨v, rfl, rr⟩ := wl1 r
    clear r
    have r := rr
    clear rr
    unfold fTuple at h
    split at h
    · obtain ⟨a, xs, rfl, h1, h2, h3⟩ := r
      exact ⟨a, xs, rfl, .inl ⟨SqL.of h1, new_tup ok h2 h3 h k⟩⟩
    · obtain ⟨a, xs, rfl, h1, h2, h3⟩ := r.tup vis_ex
      exact ⟨a, xs, rfl, .inr ⟨h1, k _ _ _ _ Tr.refl ok r h⟩⟩
    · exact h.elim
  · exact h.elim⟩
end
end Da

/-! C.m(e, ..), m a static method of the own class C (own). -/
namespace Sm
open PySem PySem.Spec PyProof.Rows L2
/-- C.m is a static method: its record at p, its def at g -/
structure SMet (K : PySem.W.Frag) (C : Addr) (mc : Value) (m : Str) (p g : Addr) : Prop where
  rd : PySem.W.readsIn K C mc = true
  ga : PySem.W.specialIn K (.ref C) "__getattribute__" = some (some (.builtin "type.__getattribute__"))
  at_ : PySem.W.findCls K (.ref C) mc m = some (.get (.builtin "staticmethod.__get__") (.ref p) .none (.ref C))
  rc : ∃ rest, PySem.W.recIn K p "staticmethod" = some (.ref g :: rest)
  kp : PySem.W.keepIn K (.ref g) = true
def tSMeth (C : Addr) (sp : Sp) (dvs : List V) (E : XK) (ta : TE) (t : TA) : TE := fun σ H Q => ta σ H fun x H1 => x = .ref C ∧ t σ H1 fun vs H2 => sp (vs ++ dvs) H2 Q E
theorem i_smeth {C : Addr} {sp : Sp} {dvs : List V} {E : XK} {ta : TE} {t : TA} {σ : L2.St} {H : Hp} {Q : VK} (q : ta σ H fun x H1 => x = .ref C ∧ t σ H1 fun vs H2 => sp (vs ++ dvs) H2 Q E) : tSMeth C sp dvs E ta t σ H Q := q
section
variable {X : Cx} {x1 ob : Expr} {xs : List Expr} {m : Str} {cpos apos : Pos} {ta : TE} {t : TA} {CX : CXT} {k : Nat} {g p C : Addr} {mc : Value} {fd : FuncData} {ps : List Str} {sp : Sp} {dvs : List V} {ds : List Value} {E : XK}
theorem pe_smeth {pl : Sem Bool} (he : PE X ob ta) (c : SMet X.K C mc m p g) (F : FnOk X.prog X.w X.K X.mg X.base CX k g fd ps sp) (hr : Room k X.A) (hb : Binds X.K fd ps ds) (hd : Vals dvs ds) (hx : Passes CX X E) (ha : PA X (x1 :: xs) t)
    (s1 : starEach (x1 :: xs) X.env = (false, eval x1 X.env) :: starEach xs X.env := by rfl) (s2 : (backTo cpos (starEach xs X.env)).any (·.1) = false := by rfl)
    (s3 : eval (.Call (.Attribute ob m apos) (x1 :: xs) [] cpos) X.env = (do let ov ← eval ob X.env; standAt apos.atName; let (g, fst) ← holding [ov] (getMethod ov m pl); callWith cpos g fst (backTo cpos (starEach (x1 :: xs) X.env)) (backToKw cpos (keywordEach [] X.env))) := by rfl) :
    PE X (.Call (.Attribute ob m apos) (x1 :: xs) [] cpos) (tSMeth C sp dvs E ta t) := by
  refine ⟨fun pins s σ H Q I h => ?_⟩
  refine PySem.W.methodCall_KW (pl := pl) (thn (he.run pins s σ H _ I h) fun u s4 ⟨x, H1, I1, rx, ex, q⟩ => ?_) s3
  subst ex
  obtain rfl : u = Value.ref C := rx
  obtain ⟨rest, hp⟩ := c.rc
  refine PySem.W.method_cls I1.kIn c.ga (PySem.W.cls_bind I1.kIn c.rd c.at_ (wpAny_call (PySem.W.sm_get (s := { s4 with toks := s4.toks + 1 }) I1.kIn hp (PySem.W.handed_on rfl ?_))))
  have I2 := I1.tok (s4.toks + 1)
  refine PySem.W.callWith_K (first := []) (h₀ := X.base) I.ok.mod.kin c.kp (thn (ha.run cpos pins _ σ H1 _ I2 q) fun us s5 ⟨vs, H2, I3, r, q2⟩ => ⟨I3.kIn, ?_⟩) s1 s2
  exact run_fn (us := us) (vs := vs) F hr hb hd hx I3 r q2
end
end Sm

/-! Readings over data: defs, calls, instances (own). -/
namespace Da
open PySem PySem.Spec PyProof.Rows L2 Evl Hd
/-- what is raised: its class, its field -/
abbrev XD := Addr → Option (Str × D) → Nat → Prop
abbrev DSp := Option (Addr × Addr) → List D → Nat → (D → Nat → Prop) → XD → Prop
abbrev st0 (n : Nat) (pn : Option (Addr × Addr)) : S := ⟨[], n, pn⟩
def XRep (K : PySem.W.Frag) (Hv H : Hp) (dx : Option Addr) : Option (Str × D) → Prop
  | none => dx = none
  | some (f, d) => ∃ a v, dx = some a ∧ H a = some (.xd [(f, v)]) ∧ Rep K Hv v d
def upSp (K : PySem.W.Frag) (dsp : DSp) : Sp := fun vs H Q E => ∃ (F : Fr) (args : List D) (pn : Option (Addr × Addr)) (n : Nat) (Qd : D → Nat → Prop) (Xd : XD), RepL K (vis F (st0 n pn) H) vs args ∧ OkS K F (st0 n pn) H ∧ dsp pn args n Qd Xd ∧
  (∀ v H' d n', Tr F (st0 n pn) H (st0 n' pn) H' → OkS K F (st0 n' pn) H' → Rep K (vis F (st0 n' pn) H') v d → Qd d n' → Q v H') ∧
  ∀ C dx e H' n', Tr F (st0 n pn) H (st0 n' pn) H' → OkS K F (st0 n' pn) H' → XRep K (vis F (st0 n' pn) H') H' dx e → Xd C e n' → E (.ref C) dx H'
def hidF (F : Fr) (s : S) : Fr := fun a => F a || s.hidM a
section
variable {K : PySem.W.Frag} {F : Fr} {s : S} {H H' : Hp}
theorem vis_call {n : Nat} : vis (hidF F s) (st0 n s.pn) H = vis F s H := by
  funext a
  unfold vis
  have : (st0 n s.pn).hid (hidF F s) a = s.hid F a := by
    unfold S.hid hidF
    show (F a || s.hidM a || false || (st0 n s.pn).hidP a) = _
    rw [Bool.or_false]
    rfl
  rw [this]
theorem ok_call (ok : OkS K F s H) : OkS K (hidF F s) (st0 s.n s.pn) H := by
  refine ⟨fun e he => (nomatch he), List.nodup_nil, fun p q e => ⟨(ok.pen p q e).1, fun e he => (nomatch he)⟩, fun a ha => ?_, fun e he => (nomatch he), fun p q e => ?_⟩
  · unfold hidF at ha
    rw [Bool.or_eq_true] at ha
    rcases ha with ha | ha
    · exact ok.fr a ha
    · unfold S.hidM at ha
      obtain ⟨e, he, h2⟩ := List.any_eq_true.mp ha
      rw [Bool.and_eq_true, beq_iff_eq] at h2
      rw [← h2.2]
      exact (ok.ents e he).some
  · obtain ⟨h1, h2⟩ := ok.frP p q e
    have h3 := (ok.pen p q e).2
    unfold hidF
    rw [h1, h2]
    constructor
    · show s.hidM p = false
      unfold S.hidM
      rw [List.any_eq_false]
      intro e he
      simp [(h3 e he).1]
    · show s.hidM q = false
      unfold S.hidM
      rw [List.any_eq_false]
      intro e he
      simp [(h3 e he).2]
theorem ent_uniq : ∀ {l : List Ent} {x y : Ent}, (l.map (·.a)).Nodup → x ∈ l → y ∈ l → x.a = y.a → x = y
  | [], _, _, _, hx, _, _ => nomatch hx
  | z :: r, x, y, hnd, hx, hy, hxy => by
    rw [List.map_cons, List.nodup_cons] at hnd
    rcases List.mem_cons.mp hx with hx | hx <;> rcases List.mem_cons.mp hy with hy | hy
    · rw [hx, hy]
    · exact absurd (List.mem_map.mpr ⟨y, hy, by rw [← hxy, hx]⟩) hnd.1
    · exact absurd (List.mem_map.mpr ⟨x, hx, by rw [hxy, hy]⟩) hnd.1
    · exact ent_uniq hnd.2 hx hy hxy
/-- an object of one's own that is frozen is seen -/
theorem ent_seen (ok : OkS K F s H) {e : Ent} (he : e ∈ s.M) (hf : e.fz = true) : s.hid F e.a = false := by
  unfold S.hid
  have h1 := ok.frM e he
  have h2 : s.hidM e.a = false := by
    unfold S.hidM
    rw [List.any_eq_false]
    intro e' he' hx
    rw [Bool.and_eq_true, Bool.not_eq_true', beq_iff_eq] at hx
    have := ent_uniq ok.nd he' he hx.2
    rw [this, hf] at hx
    cases hx.1
  have h3 : s.hidP e.a = false := by
    unfold S.hidP
    cases q : s.pn with
    | none => rfl
    | some pq =>
      obtain ⟨p, r⟩ := pq
      obtain ⟨h3, h4⟩ := (ok.pen p r q).2 e he
      simp [h3, h4]
  rw [h1, h2, h3]
  rfl
theorem call_out (ok : OkS K F s H) {n' : Nat} (t : Tr (hidF F s) (st0 s.n s.pn) H (st0 n' s.pn) H') (ok' : OkS K (hidF F s) (st0 n' s.pn) H') : OkS K F (s.at n') H' ∧ Tr F s H (s.at n') H' ∧ vis (hidF F s) (st0 n' s.pn) H' = vis F (s.at n') H' := by
  have hv : vis (hidF F s) (st0 n' s.pn) H' = vis F (s.at n') H' := vis_call (s := s.at n')
  have ex : Ex (vis F s H) (vis F (s.at n') H') := by
    have := t.ex
    rw [vis_call, hv] at this
    exact this
  refine ⟨⟨fun e he => ?_, ok.nd, fun p q e => ⟨(ok'.pen p q e).1, (ok.pen p q e).2⟩, fun a ha => ok'.fr a ?_, ok.frM, ok.frP⟩, ⟨ex, fun a ha => t.fr a ?_, rfl⟩, hv⟩
  · refine (ok.ents e he).mono ex ?_
    cases hf : e.fz with
    | false =>
      refine t.fr e.a ?_
      unfold hidF
      have : s.hidM e.a = true := by
        unfold S.hidM
        exact List.any_eq_true.mpr ⟨e, he, by rw [hf]; simp⟩
      rw [this, Bool.or_true]
    | true =>
      have h1 := ent_seen ok he hf
      cases hh : H e.a with
      | none => exact absurd hh (ok.ents e he).some
      | some o => exact (vis_iff.mp (ex _ _ (vis_iff.mpr ⟨h1, hh⟩))).2
  · unfold hidF; rw [ha]; rfl
  · unfold hidF; rw [ha]; rfl
/-- a call of a def by its promise over data -/
theorem call_data {dsp : DSp} {vs : List V} {args : List D} (ok : OkS K F s H) (r : RepL K (vis F s H) vs args) {Qd : D → Nat → Prop} {Xd : XD} (h : dsp s.pn args s.n Qd Xd) {Q : VK} {E : XK}
    (hq : ∀ v H' d n', Tr F s H (s.at n') H' → OkS K F (s.at n') H' → Rep K (vis F (s.at n') H') v d → Qd d n' → Q v H')
    (hx : ∀ C dx e H' n', Tr F s H (s.at n') H' → OkS K F (s.at n') H' → XRep K (vis F (s.at n') H') H' dx e → Xd C e n' → E (.ref C) dx H') : upSp K dsp vs H Q E := by
  refine ⟨hidF F s, args, s.pn, s.n, Qd, Xd, by rw [vis_call]; exact r, ok_call ok, h, fun v H' d n' t ok' r' q => ?_, fun C dx e H' n' t ok' r' q => ?_⟩
  · obtain ⟨o1, o2, o3⟩ := call_out ok t ok'
    rw [o3] at r'
    exact hq v H' d n' o2 o1 r' q
  · obtain ⟨o1, o2, o3⟩ := call_out ok t ok'
    rw [o3] at r'
    exact hx C dx e H' n' o2 o1 r' q
/-! ### in expressions -/
abbrev XF : XD := fun _ _ _ => False
/-- values that stand for data, whatever the heap -/
class Dflt (K : PySem.W.Frag) (dvs : List V) (ds : outParam (List D)) : Prop where
  rep : ∀ H : Hp, RepL K H dvs ds
instance : Dflt K [] [] := ⟨fun _ => .nil⟩
def wCall (dsp : DSp) (dds : List D) (wa : WA) : WE := fun Γ s Q => wa Γ s fun ds s1 => escA s1 ds fun ds' s2 => dsp s2.pn (ds' ++ dds) s2.n (fun d n' => Q d (s2.at n')) XF
instance {dsp : DSp} {dvs : List V} {dds : List D} {E : XK} {ta : TA} {wa : WA} [df : Dflt K dvs dds] [l : LA K ta wa] : LE K (tCall (upSp K dsp) dvs E ta) (wCall dsp dds wa) := ⟨fun {F s H σ Γ Q Q0} a h k => l.go a h fun vs H1 ds s1 t1 ok1 r1 h1 => by
  obtain ⟨ds', s2, h2, ok2, t2, r2⟩ := escs ok1 r1 h1
  exact call_data ok2 (r2.app (df.rep _)) h2 (fun v H' d n' t3 ok3 r3 q => k v H' d _ ((t1.trans t2).trans t3) ok3 r3 q) (fun _ _ _ _ _ _ _ _ q => q.elim)⟩
def lookF : List (Str × D) → Str → Option D
  | [], _ => none
  | (k', d) :: r, k => match decide (k' = k) with
    | true => some d
    | false => lookF r k
theorem lookF_eq : ∀ {fs : List (Str × D)} {k : Str}, fs.lookup k = lookF fs k
  | [], _ => rfl
  | (k', d) :: r, k => by
    rw [List.lookup_cons]
    unfold lookF
    by_cases e : k' = k
    · subst e; simp
    · have : (k == k') = false := by simpa using fun z => e z.symm
      rw [this, decide_eq_false e]
      exact lookF_eq
def wFld (K : PySem.W.Frag) (f : Str) (w : WE) : WE := fun Γ s Q => w Γ s fun x s1 => seeP s1 x fun x' => match x' with
  | .obj C fs => ∃ d, lookF fs f = some d ∧ (Cls K C ∧ NoAttr K C f) ∧ Q d s1
  | _ => False
instance {f : Str} {te : TE} {w : WE} [l : LE K te w] : LE K (tFld K te f) (wFld K f w) := ⟨fun {F s H σ Γ Q Q0} a h k => l.go a h fun v H1 d s1 t1 ok1 r1 h1 => by
  obtain ⟨x', h2, q⟩ := see ok1 r1 h1
  cases x' with
  | obj C gs =>
    obtain ⟨d, h3, ⟨h4, h5⟩, h6⟩ := h2
    obtain ⟨b, dx, fs, rfl, g1, g2⟩ := q
    obtain ⟨u, g3, g4⟩ := g2.look (lookF_eq.trans h3)
    exact ⟨b, C, dx, fs, u, rfl, g1, h4, h5, g3, k _ _ _ _ t1 ok1 g4 h6⟩
  | _ => exact h2.elim⟩
def asObj (C : Addr) (d : D) (k : List (Str × D) → Prop) : Prop := match d with
  | .obj C' fs => C' = C ∧ k fs
  | _ => False
def wMeth (C : Addr) (m : Str) (dsp : DSp) (dds : List D) (w : WE) (wa : WA) : WE := fun Γ s Q => w Γ s fun x s1 => escP s1 x fun x' s2 => asObj C x' fun fs => lookF fs m = none ∧ wa Γ s2 fun ds s3 => escA s3 ds fun ds' s4 =>
  dsp s4.pn (x' :: (ds' ++ dds)) s4.n (fun d n' => Q d (s4.at n')) XF
instance {C : Addr} {m : Str} {dsp : DSp} {dvs : List V} {dds : List D} {E : XK} {te : TE} {w : WE} {ta : TA} {wa : WA} [df : Dflt K dvs dds] [le : LE K te w] [l : LA K ta wa] : LE K (tMeth C m (upSp K dsp) dvs E te ta) (wMeth C m dsp dds w wa) := ⟨fun {F s H σ Γ Q Q0} a h k => le.go a h fun v H1 d s1 t1 ok1 r1 h1 => by
  obtain ⟨x', s2, h2, ok2, t2, r2⟩ := esc ok1 r1 h1
  cases x' with
  | obj C' gs =>
    obtain ⟨rfl, h3, h4⟩ := h2
    cases r2 with
    | @obj b _ dx fs _ g1 g2 =>
      refine ⟨b, dx, fs, rfl, vis_ex _ _ g1, g2.look_none (lookF_eq.trans h3), l.go (a.to (t1.trans t2) ok2) h4 fun vs H3 ds s3 t3 ok3 r3 h5 => ?_⟩
      obtain ⟨ds', s4, h6, ok4, t4, r4⟩ := escs ok3 r3 h5
      exact call_data ok4 (.cons (.obj ((t3.trans t4).ex _ _ g1) (g2.mono (t3.trans t4).ex)) (r4.app (df.rep _))) h6 (fun v H' d n' t5 ok5 r5 q => k v H' d _ ((((t1.trans t2).trans t3).trans t4).trans t5) ok5 r5 q) (fun _ _ _ _ _ _ _ _ q => q.elim)
  | _ => exact h2.elim⟩
def wProp (C : Addr) (dsp : DSp) (dds : List D) (w : WE) : WE := fun Γ s Q => w Γ s fun x s1 => escP s1 x fun x' s2 => asObj C x' fun fs => dsp s2.pn (x' :: dds) s2.n (fun d n' => Q d (s2.at n')) XF
instance {C : Addr} {dsp : DSp} {dvs : List V} {dds : List D} {E : XK} {te : TE} {w : WE} [df : Dflt K dvs dds] [le : LE K te w] : LE K (tProp C (upSp K dsp) dvs E te) (wProp C dsp dds w) := ⟨fun {F s H σ Γ Q Q0} a h k => le.go a h fun v H1 d s1 t1 ok1 r1 h1 => by
  obtain ⟨x', s2, h2, ok2, t2, r2⟩ := esc ok1 r1 h1
  cases x' with
  | obj C' gs =>
    obtain ⟨rfl, h3⟩ := h2
    cases r2 with
    | @obj b _ dx fs _ g1 g2 =>
      exact ⟨b, dx, fs, rfl, vis_ex _ _ g1, call_data ok2 (.cons (.obj g1 g2) (df.rep _)) h3 (fun v H' d n' t5 ok5 r5 q => k v H' d _ ((t1.trans t2).trans t5) ok5 r5 q) (fun _ _ _ _ _ _ _ _ q => q.elim)⟩
  | _ => exact h2.elim⟩
def isCls (C : Addr) (d : D) (k : Prop) : Prop := match d with
  | .val v => v = .ref C ∧ k
  | _ => False
def wSMeth (C : Addr) (dsp : DSp) (dds : List D) (w : WE) (wa : WA) : WE := fun Γ s Q => w Γ s fun x s1 => isCls C x (wa Γ s1 fun ds s3 => escA s3 ds fun ds' s4 => dsp s4.pn (ds' ++ dds) s4.n (fun d n' => Q d (s4.at n')) XF)
instance {C : Addr} {dsp : DSp} {dvs : List V} {dds : List D} {E : XK} {te : TE} {w : WE} {ta : TA} {wa : WA} [df : Dflt K dvs dds] [le : LE K te w] [l : LA K ta wa] : LE K (Sm.tSMeth C (upSp K dsp) dvs E te ta) (wSMeth C dsp dds w wa) := ⟨fun {F s H σ Γ Q Q0} a h k => le.go a h fun v H1 d s1 t1 ok1 r1 h1 => by
  cases d with
  | val u =>
    cases r1
    obtain ⟨h2, h3⟩ := h1
    refine ⟨h2, l.go (a.to t1 ok1) h3 fun vs H3 ds s3 t3 ok3 r3 h5 => ?_⟩
    obtain ⟨ds', s4, h6, ok4, t4, r4⟩ := escs ok3 r3 h5
    exact call_data ok4 (r4.app (df.rep _)) h6 (fun v H' d n' t5 ok5 r5 q => k v H' d _ (((t1.trans t3).trans t4).trans t5) ok5 r5 q) (fun _ _ _ _ _ _ _ _ q => q.elim)
  | _ => exact h1.elim⟩
/-! ### new instances -/
abbrev DIn := Option (Addr × Addr) → List D → Nat → (List (Str × D) → Nat → Prop) → XD → Prop
abbrev st1 (x C : Addr) (fs : List (Str × D)) (n : Nat) (pn : Option (Addr × Addr)) : S := ⟨[⟨0, x, .obj C fs, false⟩], n, pn⟩
def upIn (K : PySem.W.Frag) (C : Addr) (dsp : DIn) : Sp := fun vs H Q E => ∃ (F : Fr) (x : Addr) (rest : List V) (args : List D) (pn : Option (Addr × Addr)) (n : Nat) (Qd : List (Str × D) → Nat → Prop) (Xd : XD), vs = .ref x :: rest ∧ RepL K (vis F (st1 x C [] n pn) H) rest args ∧ OkS K F (st1 x C [] n pn) H ∧ dsp pn args n Qd Xd ∧
  (∀ H' fs n', Tr F (st1 x C [] n pn) H (st1 x C fs n' pn) H' → OkS K F (st1 x C fs n' pn) H' → Qd fs n' → Q .non H') ∧
  ∀ C' dx e H' n', Tr F (st1 x C [] n pn) H (st0 n' pn) H' → OkS K F (st0 n' pn) H' → XRep K (vis F (st0 n' pn) H') H' dx e → Xd C' e n' → E (.ref C') dx H'
def wMake (C : Addr) (dsp : DIn) (dds : List D) (wa : WA) : WE := fun Γ s Q => wa Γ s fun ds s1 => escA s1 ds fun ds' s2 => dsp s2.pn (ds' ++ dds) s2.n (fun fs n' => Q (.obj C fs) (s2.at n')) XF
theorem make_data {C : Addr} {dsp : DIn} {vs : List V} {args : List D} (ok : OkS K F s H) (r : RepL K (vis F s H) vs args) {Qd : List (Str × D) → Nat → Prop} (h : dsp s.pn args s.n Qd XF) {Q : VK} {E : XK}
    (hq : ∀ v H' fs n', Tr F s H (s.at n') H' → OkS K F (s.at n') H' → Rep K (vis F (s.at n') H') v (.obj C fs) → Qd fs n' → Q v H') : ∀ x dx, H x = none → H dx = none → dx ≠ x →
    upIn K C dsp (.ref x :: vs) (upd (upd H dx (.own x)) x (.ins C dx [])) (fun v H2 => v = .non ∧ Q (.ref x) H2) E := by
  intro x dx hx hdx hne
  obtain ⟨ok1, t1, v1⟩ := (ok_call ok).new (o := .own x) hdx
  have hx1 : upd H dx (.own x) x = none := by rw [upd_ne (Ne.symm hne)]; exact hx
  obtain ⟨ok2, t2⟩ := ok1.own (k := 0) (o := .ins C dx []) (m := .obj C []) hx1 (fun Hv _ => ⟨dx, [], upd_same, .nil⟩)
  have r2 := r
  rw [← vis_call (n := s.n)] at r2
  refine ⟨hidF F s, x, vs, args, s.pn, s.n, Qd, XF, rfl, r2.mono (t1.trans t2).ex, ok2, h, fun H' fs n' t3 ok3 q => ⟨rfl, ?_⟩, fun _ _ _ _ _ _ _ _ q => q.elim⟩
  obtain ⟨ok4, t4⟩ := ok3.drop 0
  have t5 := ((t1.trans t2).trans t3).trans t4
  obtain ⟨o1, o2, o3⟩ := call_out ok t5 ok4
  refine hq _ H' fs n' o2 o1 ?_ q
  obtain ⟨dx', vs', g1, g2⟩ := ok3.ents _ List.mem_cons_self
  have g3 : vis (hidF F s) (st0 n' s.pn) H' x = some (.ins C dx' vs') := by
    refine vis_iff.mpr ⟨?_, g1⟩
    have := (ok_call ok).new_hid hx
    unfold S.hid at this ⊢
    exact this
  rw [← o3]
  exact .obj g3 (g2.mono t4.ex)
instance {C : Addr} {dsp : DIn} {dvs : List V} {dds : List D} {E : XK} {ta : TA} {wa : WA} [df : Dflt K dvs dds] [l : LA K ta wa] : LE K (tMake C (upIn K C dsp) dvs E ta) (wMake C dsp dds wa) := ⟨fun {F s H σ Γ Q Q0} a h k => l.go a h fun vs H1 ds s1 t1 ok1 r1 h1 => by
  obtain ⟨ds', s2, h2, ok2, t2, r2⟩ := escs ok1 r1 h1
  exact make_data ok2 (r2.app (df.rep _)) h2 (fun v H' fs n' t3 ok3 r3 q => k v H' _ _ ((t1.trans t2).trans t3) ok3 r3 q)⟩
theorem vals_one {v : V} {us : List Value} (h : Vals [v] us) : ∃ u, us = [u] ∧ RelV v u := by
  cases h with
  | cons r t => cases t; exact ⟨_, rfl, r⟩
/-! ### isinstance -/
class ObjC (K : PySem.W.Frag) (C : Addr) : Prop where
  ty : ∀ {H : Hp} {a dx : Addr} {fs : List (Str × V)}, H a = some (.ins C dx fs) → TyX K H (.ref a) (.ref C)
def Kit (K : PySem.W.Frag) (t u : Value) (b : Bool) : Prop := PySem.W.kitOne K t u = some b
def wty (K : PySem.W.Frag) (d : D) (k : Value → Prop) : Prop := match d with
  | .non => k (.type "NoneType")
  | .int _ => k (.type "int")
  | .str _ => k (.type "str")
  | .bl _ => k (.type "bool")
  | .lst _ => k (.type "list")
  | .tup _ => k (.type "tuple")
  | .dct _ => k (.type "dict")
  | .obj C _ => ObjC K C ∧ k (.ref C)
  | _ => False
theorem sqt_ty {a : Addr} {xs : List V} (h : SqT K H a xs) : TyX K H (.ref a) (.type "tuple") := by
  rcases h with (h | ⟨o, h⟩) | ⟨o, its, n, h1, h2, h3⟩
  · exact .base (.tup h)
  · exact .fTuple h
  · exact .kTuple h1 h2
theorem wty_of {x : V} {d : D} {k : Value → Prop} (r : RepW K (vis F s H) H x d) (h : wty K d k) : ∃ t, TyX K H x t ∧ k t := by
  cases d with
  | non => cases r; exact ⟨_, .base .non, h⟩
  | int i => cases r; exact ⟨_, .base (.int _), h⟩
  | str i => cases r; exact ⟨_, .base (.str _), h⟩
  | bl i => cases r; exact ⟨_, .base (.bl _), h⟩
  | lst ds => obtain ⟨a, xs, rfl, h1, _⟩ := r; exact ⟨_, .base (.lst h1), h⟩
  | tup ds => obtain ⟨a, xs, rfl, h1, _⟩ := r.tup vis_ex; exact ⟨_, sqt_ty h1, h⟩
  | dct ds => obtain ⟨a, xs, rfl, h1, _⟩ := r; exact ⟨_, .base (.dK h1), h⟩
  | obj C fs => obtain ⟨a, dx, xs, rfl, h1, _⟩ := r; exact ⟨_, h.1.ty h1, h.2⟩
  | _ => exact h.elim
def wcls (d : D) (k : Value → Prop) : Prop := match d with
  | .val (.ty n) => k (.type n)
  | .val (.ref C) => k (.ref C)
  | _ => False
def fIsi (K : PySem.W.Frag) : F2 := fun x c s Q => wty K x fun t => wcls c fun u => ∃ b, Kit K t u b ∧ Q (.bl b) s
instance : LC K (rIsi K) (f2 (fIsi K)) := ⟨fun {F s H vs ds Q Q0} ok r h k => by
  unfold f2 at h
  split at h
  · obtain ⟨v, w, rfl, r1, q1⟩ := wl2 r
    obtain ⟨t, ht, h2⟩ := wty_of r1 h
    rename_i d e
    cases e with
    | val u =>
      obtain rfl : w = u := q1
      cases w with
      | ty n =>
        obtain ⟨b, h3, h4⟩ := h2
        exact ⟨_, _, t, _, b, rfl, .ty n, ht, h3, k _ _ _ _ Tr.refl ok .bl h4⟩
      | ref C =>
        obtain ⟨b, h3, h4⟩ := h2
        exact ⟨_, _, t, _, b, rfl, .own C, ht, h3, k _ _ _ _ Tr.refl ok .bl h4⟩
      | _ => exact h2.elim
    | _ => exact h2.elim
  · exact h.elim⟩
end
end Da

/-! Readings over data: loops, comprehensions, one's own objects, whole defs (own). -/
namespace Da
open PySem PySem.Spec PyProof.Rows L2 Evl Hd
/-! ### what is walked -/
inductive Src where
  | seq (ds : List D)
  | rng (lo : Int) (n : Nat)
  | chr (z : Str)
  | enu (ds : List D)
  | zip (ds es : List D)
def Src.at : Src → Nat → Option D
  | .seq ds, i => ds[i]?
  | .rng lo n, i => if i < n then some (.int (lo + i)) else none
  | .chr z, i => (z.cps[i]?).map fun c => .str ⟨#[c]⟩
  | .enu ds, i => (ds[i]?).map fun d => .tup [.int i, d]
  | .zip ds es, i => match ds[i]?, es[i]? with
    | some d, some e => some (.tup [d, e])
    | _, _ => none
def Src.n : Src → Nat
  | .seq ds => ds.length
  | .rng _ n => n
  | .chr z => z.cps.size
  | .enu ds => ds.length
  | .zip ds es => min ds.length es.length
structure WalkD (K : PySem.W.Frag) (F : Fr) (s : S) (H : Hp) (J : It) (src : Src) : Prop where
  w : ∃ (G : Hp → Prop) (Y : Nat → Hp → V → Hp → Prop), Walk J src.n G Y ∧ (∀ F2 s2 H2, Ex (vis F s H) (vis F2 s2 H2) → OkS K F2 s2 H2 → G H2) ∧
    ∀ F2 i s2 H2 x H3, i < src.n → Ex (vis F s H) (vis F2 s2 H2) → OkS K F2 s2 H2 → Y i H2 x H3 → ∃ d, src.at i = some d ∧ Tr F2 s2 H2 s2 H3 ∧ OkS K F2 s2 H3 ∧ Rep K (vis F2 s2 H3) x d ∧ ∀ b, H2 b ≠ none → H3 b = H2 b
abbrev WI := Ga → S → (Src → S → Prop) → Prop
class LI (K : PySem.W.Frag) (wi : TI) (ws : outParam WI) : Prop where
  go : ∀ {F : Fr} {s : S} {H : Hp} {σ : L2.St} {Γ : Ga} {Q : Src → S → Prop} {R : It → Hp → Prop}, At K F s H σ Γ → ws Γ s Q → (∀ src H' s' J, Tr F s H s' H' → OkS K F s' H' → WalkD K F s' H' J src → Q src s' → R J H') → wi σ H R
section
variable {K : PySem.W.Frag} {F : Fr} {s : S} {H : Hp}
theorem walk_seq {J : It} {a : Addr} {xs : List V} {ds : List D} (hw : (J = Itl K a ∧ vis F s H a = some (.lst xs)) ∨ (J = Itt K a ∧ SqT K (vis F s H) a xs)) (r : RepL K (vis F s H) xs ds) : WalkD K F s H J (.seq ds) := by
  have item : ∀ F2 i s2 H2 x H3, i < ds.length → Ex (vis F s H) (vis F2 s2 H2) → OkS K F2 s2 H2 → YAt xs i H2 x H3 → ∃ d, (Src.seq ds).at i = some d ∧ Tr F2 s2 H2 s2 H3 ∧ OkS K F2 s2 H3 ∧ Rep K (vis F2 s2 H3) x d ∧ ∀ b, H2 b ≠ none → H3 b = H2 b := fun F2 i s2 H2 x H3 hi e ok y => by
    obtain ⟨rfl, hx⟩ := y
    obtain ⟨d, h1, h2⟩ := r.get' hx
    exact ⟨d, h1, Tr.refl, ok, h2.mono e, fun _ _ => rfl⟩
  rcases hw with ⟨rfl, hw⟩ | ⟨rfl, hw⟩
  · refine ⟨⟨fun H2 => SqL K H2 a xs, YAt xs, ?_, fun F2 s2 H2 e _ => SqL.of (vis_ex _ _ (e _ _ hw)), item⟩⟩
    have := walk_list (K := K) (a := a) (xs := xs)
    rw [r.len] at this
    exact this
  · refine ⟨⟨fun H2 => SqT K H2 a xs, YAt xs, ?_, fun F2 s2 H2 e _ => ex_t vis_ex (ex_t e hw), item⟩⟩
    have := walk_tup (K := K) (a := a) (xs := xs)
    rw [r.len] at this
    exact this
def asSeq (d : D) (k : Src → Prop) : Prop := match d with
  | .lst ds => k (.seq ds)
  | .tup ds => k (.seq ds)
  | _ => False
def wiSeq (w : WE) : WI := fun Γ s Q => w Γ s fun d s1 => escP s1 d fun d' s2 => asSeq d' fun src => Q src s2
instance {te : TE} {w : WE} [l : LE K te w] : LI K (Nr.iSeq K te) (wiSeq w) := ⟨fun {F s H σ Γ Q R} a h k => l.go a h fun v H1 d s1 t1 ok1 r1 h1 => by
  obtain ⟨d', s2, h2, ok2, t2, r2⟩ := esc ok1 r1 h1
  cases d' with
  | lst ds =>
    cases r2 with
    | @lst b xs _ g1 g2 g3 => exact ⟨b, rfl, .inl ⟨⟨xs, SqL.of (vis_ex _ _ g1)⟩, k _ _ _ _ (t1.trans t2) ok2 (walk_seq (.inl ⟨rfl, g1⟩) g2) h2⟩⟩
  | tup ds =>
    cases r2 with
    | @tup b xs _ g1 g2 g3 => exact ⟨b, rfl, .inr ⟨⟨xs, ex_t vis_ex g1⟩, k _ _ _ _ (t1.trans t2) ok2 (walk_seq (.inr ⟨rfl, g1⟩) g2) h2⟩⟩
  | _ => exact h2.elim⟩
theorem walk_rng {lo : Int} {n : Nat} : WalkD K F s H (Itr lo n) (.rng lo n) := by
  refine ⟨⟨fun _ => True, _, walk_range, fun _ _ _ _ _ => trivial, fun F2 i s2 H2 x H3 hi e ok y => ?_⟩⟩
  obtain ⟨rfl, rfl⟩ := y
  exact ⟨.int (lo + i), if_pos hi, Tr.refl, ok, .int, fun _ _ => rfl⟩
def wiRng1 (w : WA) : WI := fun Γ s Q => w Γ s fun ds s1 => match ds with
  | [.int j] => (-(2 ^ 62) ≤ j ∧ j < 2 ^ 62) ∧ Q (.rng 0 j.toNat) s1
  | _ => False
instance {ta : TA} {w : WA} [l : LA K ta w] : LI K (iRng1 ta) (wiRng1 w) := ⟨fun {F s H σ Γ Q R} a h k => l.go a h fun vs H1 ds s1 t1 ok1 r1 h1 => by
  split at h1
  · rename_i j
    cases r1 with
    | cons r q => cases q; cases r; exact ⟨j, rfl, h1.1.1, h1.1.2, k _ _ _ _ t1 ok1 walk_rng h1.2⟩
  · exact h1.elim⟩
def wiRng2 (w : WA) : WI := fun Γ s Q => w Γ s fun ds s1 => match ds with
  | [.int i, .int j] => (-(2 ^ 62) ≤ i ∧ i < 2 ^ 62 ∧ -(2 ^ 62) ≤ j ∧ j < 2 ^ 62) ∧ Q (.rng i (j - i).toNat) s1
  | _ => False
instance {ta : TA} {w : WA} [l : LA K ta w] : LI K (iRng2 ta) (wiRng2 w) := ⟨fun {F s H σ Γ Q R} a h k => l.go a h fun vs H1 ds s1 t1 ok1 r1 h1 => by
  split at h1
  · rename_i i j
    cases r1 with
    | cons r q => cases q with
      | cons r2 q => cases q; cases r; cases r2; exact ⟨i, j, rfl, h1.1, k _ _ _ _ t1 ok1 walk_rng h1.2⟩
  · exact h1.elim⟩
def asStr (d : D) (k : Str → Prop) : Prop := match d with
  | .str z => k z
  | _ => False
def wiStr (w : WE) : WI := fun Γ s Q => w Γ s fun d s1 => asStr d fun z => Q (.chr z) s1
instance {te : TE} {w : WE} [l : LE K te w] : LI K (iStr te) (wiStr w) := ⟨fun {F s H σ Γ Q R} a h k => l.go a h fun v H1 d s1 t1 ok1 r1 h1 => by
  cases d with
  | str z =>
    cases r1
    refine ⟨z, rfl, k _ _ _ _ t1 ok1 ⟨⟨fun _ => True, _, walk_str, fun _ _ _ _ _ => trivial, fun F2 i s2 H2 x H3 hi e ok y => ?_⟩⟩ h1⟩
    obtain ⟨rfl, c, hc, rfl⟩ := y
    exact ⟨.str ⟨#[c]⟩, by show (z.cps[i]?).map _ = _; rw [hc]; rfl, Tr.refl, ok, .str, fun _ _ => rfl⟩
  | _ => exact h1.elim⟩
theorem new_pair {F2 : Fr} {s2 : S} {H2 H3 : Hp} {T : Addr} {x y : V} {d e : D} (ok : OkS K F2 s2 H2) (hT : H2 T = none) (h3 : H3 = upd H2 T (.tup [x, y])) (rx : Rep K (vis F2 s2 H2) x d) (ry : Rep K (vis F2 s2 H2) y e) :
    Tr F2 s2 H2 s2 H3 ∧ OkS K F2 s2 H3 ∧ Rep K (vis F2 s2 H3) (.ref T) (.tup [d, e]) ∧ ∀ b, H2 b ≠ none → H3 b = H2 b := by
  subst h3
  obtain ⟨ok1, t1, v1⟩ := ok.new (o := .tup [x, y]) hT
  exact ⟨t1, ok1, .tup (SqT.of v1) (.cons (rx.mono t1.ex) (.cons (ry.mono t1.ex) .nil)) (by show 2 ≤ sizeLine; decide), fun b hb => upd_ne fun z => hb (by rw [z]; exact hT)⟩
def wiEnum (w : WA) : WI := fun Γ s Q => w Γ s fun ds s1 => match ds with
  | [d] => escP s1 d fun d' s2 => match d' with
    | .lst es => Q (.enu es) s2
    | _ => False
  | _ => False
instance {ta : TA} {w : WA} [l : LA K ta w] : LI K (iEnum K ta) (wiEnum w) := ⟨fun {F s H σ Γ Q R} a h k => l.go a h fun vs H1 ds s1 t1 ok1 r1 h1 => by
  split at h1
  · rename_i d
    cases r1 with
    | cons r q =>
      cases q
      obtain ⟨d', s2, h2, ok2, t2, r2⟩ := esc ok1 r h1
      cases d' with
      | lst es =>
        cases r2 with
        | @lst b xs _ g1 g2 g3 =>
          refine ⟨b, xs, rfl, SqL.of (vis_ex _ _ g1), k _ _ _ _ (t1.trans t2) ok2 ⟨⟨fun H2 => SqL K H2 b xs, _, by have := walk_enum (K := K) (a := b) (xs := xs); rw [g2.len] at this; exact this, fun F2 s2 H2 e _ => SqL.of (vis_ex _ _ (e _ _ g1)), fun F2 i s2 H2 x H3 hi e ok y => ?_⟩⟩ h2⟩
          obtain ⟨T, u, v, rfl, hT, h3, e1, e2⟩ := y
          cases e1
          obtain ⟨dd, h4, h5⟩ := g2.get' e2
          obtain ⟨q1, q2, q3, q4⟩ := new_pair ok hT h3 .int (h5.mono e)
          exact ⟨_, by show (es[i]?).map _ = _; rw [h4]; rfl, q1, q2, q3, q4⟩
      | _ => exact h2.elim
  · exact h1.elim⟩
/-- a walk over enumerate of a tuple -/
theorem walk_enumT {a : Addr} {xs : List V} : Walk (En.IteT K a) xs.length (fun H => SqT K H a xs) (YPair (fun i => some (.int (i : Nat))) (fun i => xs[i]?)) := by
  refine ⟨fun i _ hi q => ⟨xs, xs[i], q, by simp [hi]⟩, fun _ q => ⟨xs, q, Nat.le_refl _⟩, fun i H v H' _ q y => ?_⟩
  obtain ⟨T, x, h1, h2, h3, h4⟩ := y
  exact ⟨T, .int (i : Nat), x, h1, h2, h3, rfl, h4 xs q⟩
def wiEnumT (w : WA) : WI := fun Γ s Q => w Γ s fun ds s1 => match ds with
  | [.tup es] => Q (.enu es) s1
  | _ => False
instance {ta : TA} {w : WA} [l : LA K ta w] : LI K (En.iEnumT K ta) (wiEnumT w) := ⟨fun {F s H σ Γ Q R} a h k => l.go a h fun vs H1 ds s1 t1 ok1 r1 h1 => by
  split at h1
  · rename_i es
    cases r1 with
    | cons r q =>
      cases q
      cases r with
      | @tup b xs _ g1 g2 g3 =>
        refine ⟨b, xs, rfl, ex_t vis_ex g1, k _ _ _ _ t1 ok1 ⟨⟨fun H2 => SqT K H2 b xs, _, by have := walk_enumT (K := K) (a := b) (xs := xs); rw [g2.len] at this; exact this, fun F2 s2 H2 e _ => ex_t vis_ex (ex_t e g1), fun F2 i s2 H2 x H3 hi e ok y => ?_⟩⟩ h1⟩
        obtain ⟨T, u, v, rfl, hT, h3, e1, e2⟩ := y
        cases e1
        obtain ⟨dd, h4, h5⟩ := g2.get' e2
        obtain ⟨q1, q2, q3, q4⟩ := new_pair ok hT h3 .int (h5.mono e)
        exact ⟨_, by show (es[i]?).map _ = _; rw [h4]; rfl, q1, q2, q3, q4⟩
  · exact h1.elim⟩
/-! ### for -/
@[irreducible] def ForB (wg : WG) (wb : WS) (e : DE) (Γ : Ga) (src : Src) (s1 : S) : Prop := ∃ Inv : Nat → Ga → S → Prop, Inv 0 Γ s1 ∧
  (∀ i d Γ' s', i < src.n → src.at i = some d → Inv i Γ' s' → wg d Γ' s' fun Γ2 s2 => wb { e with nx := Inv (i + 1), ct := Inv (i + 1), bk := e.nx } Γ2 s2) ∧ ∀ Γ' s', Inv src.n Γ' s' → e.nx Γ' s'
theorem for_inv {wg : WG} {wb : WS} {e : DE} {Γ : Ga} {src : Src} {s1 : S} (Inv : Nat → Ga → S → Prop) (h0 : Inv 0 Γ s1)
  (step : ∀ i d Γ' s', i < src.n → src.at i = some d → Inv i Γ' s' → wg d Γ' s' fun Γ2 s2 => wb { e with nx := Inv (i + 1), ct := Inv (i + 1), bk := e.nx } Γ2 s2) (fin : ∀ Γ' s', Inv src.n Γ' s' → e.nx Γ' s') : ForB wg wb e Γ src s1 := by
  unfold ForB
  exact ⟨Inv, h0, step, fin⟩
theorem ForB.out {wg : WG} {wb : WS} {e : DE} {Γ : Ga} {src : Src} {s1 : S} (h : ForB wg wb e Γ src s1) : ∃ Inv : Nat → Ga → S → Prop, Inv 0 Γ s1 ∧
  (∀ i d Γ' s', i < src.n → src.at i = some d → Inv i Γ' s' → wg d Γ' s' fun Γ2 s2 => wb { e with nx := Inv (i + 1), ct := Inv (i + 1), bk := e.nx } Γ2 s2) ∧ ∀ Γ' s', Inv src.n Γ' s' → e.nx Γ' s' := by
  unfold ForB at h
  exact h
def wFor (ws : WI) (wg : WG) (wb : WS) : WS := fun e Γ s => ws Γ s fun src s1 => ForB wg wb e Γ src s1
instance {wi : TI} {g : TG} {tb : TS} {ws : WI} {wg : WG} {wb : WS} [li : LI K wi ws] [lg : LG K g wg] [lb : LS K tb wb] : LS K (tFor wi g tb) (wFor ws wg wb) := ⟨fun {F s H σ Γ e D0} a h k => li.go a h fun src H1 s1 J t1 ok1 wd h1 => by
  obtain ⟨Inv, i0, step, fin⟩ := h1.out
  obtain ⟨G, Y, W, hG, hY⟩ := wd.w
  refine for_it W (fun i σ' H' => ∃ Γ' s', Tr F s1 H1 s' H' ∧ At K F s' H' σ' Γ' ∧ Inv i Γ' s') ⟨Γ, s1, Tr.refl, a.to t1 ok1, i0⟩ (fun i σ' H' _ ⟨Γ', s', t, a', _⟩ => hG F s' H' t.ex a'.ok) ?_ ?_
  · rintro i x σ' H' H2 hi ⟨Γ', s', t, a', inv⟩ y
    obtain ⟨d, hd, t2, ok2, r2, _⟩ := hY F i s' H' x H2 hi t.ex a'.ok y
    have a2 := a'.to t2 ok2
    refine lg.go a2 r2 (step i d Γ' s' hi hd inv) fun σ3 H3 Γ3 s3 t3 a3 h3 => lb.go a3 h3 ?_
    have tt := ((t1.trans t).trans t2).trans t3
    have tn := (t.trans t2).trans t3
    exact ⟨fun σ4 H4 Γ4 s4 t4 a4 h4 => ⟨Γ4, s4, tn.trans t4, a4, h4⟩, fun v H4 d s4 t4 => k.rt v H4 d s4 (tt.trans t4), fun σ4 H4 Γ4 s4 t4 => k.nx σ4 H4 Γ4 s4 (tt.trans t4), fun σ4 H4 Γ4 s4 t4 a4 h4 => ⟨Γ4, s4, tn.trans t4, a4, h4⟩⟩
  · rintro σ' H' ⟨Γ', s', t, a', inv⟩
    exact k.nx _ _ _ _ (t1.trans t) a' (fin Γ' s' inv)⟩
/-! ### while -/
@[irreducible] def WhB (wc : WT) (wb : WS) (e : DE) (Γ : Ga) (s : S) : Prop := ∃ W : Nat → Ga → S → Prop, (∃ m, W m Γ s) ∧ ∀ m Γ' s', W m Γ' s' → wc Γ' s' fun b s2 => Br b (∃ N : Ga → S → Prop, (∀ Γ3 s3, N Γ3 s3 → ∃ m', m' < m ∧ W m' Γ3 s3) ∧ wb { e with nx := N, ct := N, bk := e.nx } Γ' s2) (e.nx Γ' s2)
theorem while_inv {wc : WT} {wb : WS} {e : DE} {Γ : Ga} {s : S} (W : Nat → Ga → S → Prop) (m0 : Nat) (h0 : W m0 Γ s)
  (step : ∀ m Γ' s', W m Γ' s' → wc Γ' s' fun b s2 => Br b (∃ N : Ga → S → Prop, (∀ Γ3 s3, N Γ3 s3 → ∃ m', m' < m ∧ W m' Γ3 s3) ∧ wb { e with nx := N, ct := N, bk := e.nx } Γ' s2) (e.nx Γ' s2)) : WhB wc wb e Γ s := by
  unfold WhB
  exact ⟨W, ⟨m0, h0⟩, step⟩
theorem WhB.out {wc : WT} {wb : WS} {e : DE} {Γ : Ga} {s : S} (h : WhB wc wb e Γ s) : ∃ W : Nat → Ga → S → Prop, (∃ m, W m Γ s) ∧ ∀ m Γ' s', W m Γ' s' → wc Γ' s' fun b s2 => Br b (∃ N : Ga → S → Prop, (∀ Γ3 s3, N Γ3 s3 → ∃ m', m' < m ∧ W m' Γ3 s3) ∧ wb { e with nx := N, ct := N, bk := e.nx } Γ' s2) (e.nx Γ' s2) := by
  unfold WhB at h
  exact h
def wWhile (wc : WT) (wb : WS) : WS := fun e Γ s => WhB wc wb e Γ s
instance {tc : TT} {tb : TS} {wc : WT} {wb : WS} [lc : LT K tc wc] [lb : LS K tb wb] : LS K (tWhile tc tb) (wWhile wc wb) := ⟨fun {F s H σ Γ e D0} a h k => by
  obtain ⟨W, ⟨m0, w0⟩, step⟩ := h.out
  refine ⟨fun m σ' H' => ∃ Γ' s', Tr F s H s' H' ∧ At K F s' H' σ' Γ' ∧ W m Γ' s', ⟨m0, Γ, s, Tr.refl, a, w0⟩, ?_⟩
  rintro m σ' H' ⟨Γ', s', t, a', w⟩
  refine lc.go a' (step m Γ' s' w) fun b H2 s2 t2 ok2 h2 => h2.ite (fun _ h3 => ?_) (fun _ h3 => k.nx _ _ _ _ (t.trans t2) (a'.to t2 ok2) h3)
  obtain ⟨N, hN, hb⟩ := h3
  refine ⟨fun σ3 H3 => ∃ Γ3 s3, Tr F s H s3 H3 ∧ At K F s3 H3 σ3 Γ3 ∧ N Γ3 s3, fun σ3 H3 ⟨Γ3, s3, t3, a3, n3⟩ => let ⟨m', hm, w'⟩ := hN Γ3 s3 n3; ⟨m', hm, Γ3, s3, t3, a3, w'⟩, lb.go (a'.to t2 ok2) hb ?_⟩
  have tt := t.trans t2
  exact ⟨fun σ4 H4 Γ4 s4 t4 a4 h4 => ⟨Γ4, s4, tt.trans t4, a4, h4⟩, fun v H4 d s4 t4 => k.rt v H4 d s4 (tt.trans t4), fun σ4 H4 Γ4 s4 t4 => k.nx σ4 H4 Γ4 s4 (tt.trans t4), fun σ4 H4 Γ4 s4 t4 a4 h4 => ⟨Γ4, s4, tt.trans t4, a4, h4⟩⟩⟩
/-! ### comprehensions -/
/-- which slots a target fills -/
class LGn (g : TG) (is : outParam (List Nat)) : Prop where
  go : ∀ {vs : List Nat} {v : V} {σ : L2.St} {H : Hp} {Q : L2.St → Hp → Prop}, (∀ i ∈ is, i ∈ vs) → g v (wipe σ vs) H Q → g v (wipe σ vs) H fun σ2 H2 => wipe σ2 vs = wipe σ vs ∧ Q σ2 H2
theorem wipe_get : ∀ {vs : List Nat} {σ : L2.St} {j : Nat}, (wipe σ vs)[j]? = if j ∈ vs ∧ j < σ.length then some none else σ[j]?
  | [], σ, j => by simp [wipe]
  | v :: vs, σ, j => by
    show ((wipe σ vs).set v none)[j]? = _
    by_cases e : v = j
    · subst e
      by_cases hl : v < σ.length
      · rw [List.getElem?_set_self (by rw [wipe_length]; exact hl), if_pos ⟨List.mem_cons_self, hl⟩]
      · rw [if_neg fun z => hl z.2, List.getElem?_eq_none (by rw [List.length_set, wipe_length]; omega), List.getElem?_eq_none (by omega)]
    · rw [List.getElem?_set_ne e, wipe_get]
      by_cases h : j ∈ vs ∧ j < σ.length
      · rw [if_pos h, if_pos ⟨List.mem_cons_of_mem _ h.1, h.2⟩]
      · rw [if_neg h, if_neg fun z => h ⟨(List.mem_cons.mp z.1).resolve_left (Ne.symm e), z.2⟩]
theorem wipe_eq {vs : List Nat} {σ σ2 : L2.St} (hl : σ2.length = σ.length) (h : ∀ j, j ∉ vs → σ2[j]? = σ[j]?) : wipe σ2 vs = wipe σ vs := by
  apply List.ext_getElem?
  intro j
  rw [wipe_get, wipe_get, hl]
  by_cases hj : j ∈ vs ∧ j < σ.length
  · rw [if_pos hj, if_pos hj]
  · rw [if_neg hj, if_neg hj]
    by_cases hj2 : j ∈ vs
    · have : ¬ j < σ.length := fun z => hj ⟨hj2, z⟩
      rw [List.getElem?_eq_none (by omega), List.getElem?_eq_none (by omega)]
    · exact h j hj2
/-- targets that only store -/
def Keeps (vs : List Nat) (σ σ2 : L2.St) : Prop := σ2.length = σ.length ∧ ∀ j, j ∉ vs → σ2[j]? = σ[j]?
class LGk (g : TG) (is : outParam (List Nat)) : Prop where
  go : ∀ {v : V} {σ : L2.St} {H : Hp} {Q : L2.St → Hp → Prop}, g v σ H Q → g v σ H fun σ2 H2 => Keeps is σ σ2 ∧ Q σ2 H2
class LGks (g : TGs) (is : outParam (List Nat)) : Prop where
  go : ∀ {vs : List V} {σ : L2.St} {H : Hp} {Q : L2.St → Hp → Prop}, g vs σ H Q → g vs σ H fun σ2 H2 => Keeps is σ σ2 ∧ Q σ2 H2
theorem Keeps.refl {σ : L2.St} : Keeps [] σ σ := ⟨rfl, fun _ _ => rfl⟩
theorem Keeps.trans {a b : List Nat} {σ σ1 σ2 : L2.St} (h : Keeps a σ σ1) (q : Keeps b σ1 σ2) : Keeps (a ++ b) σ σ2 :=
  ⟨q.1.trans h.1, fun j hj => (q.2 j fun z => hj (List.mem_append_right _ z)).trans (h.2 j fun z => hj (List.mem_append_left _ z))⟩
instance {i : Nat} : LGk (gName i) [i] := ⟨fun {v σ H Q} h => ⟨⟨by rw [List.length_set], fun j hj => List.getElem?_set_ne fun z => hj (by rw [z]; exact List.mem_cons_self)⟩, h⟩⟩
instance : LGks gNil [] := ⟨fun {vs σ H Q} h => ⟨h.1, Keeps.refl, h.2⟩⟩
class Mono2 (g : TG) : Prop where
  go : ∀ {v : V} {σ : L2.St} {H : Hp} {Q Q' : L2.St → Hp → Prop}, (∀ σ2 H2, Q σ2 H2 → Q' σ2 H2) → g v σ H Q → g v σ H Q'
class Mono2s (g : TGs) : Prop where
  go : ∀ {vs : List V} {σ : L2.St} {H : Hp} {Q Q' : L2.St → Hp → Prop}, (∀ σ2 H2, Q σ2 H2 → Q' σ2 H2) → g vs σ H Q → g vs σ H Q'
instance {i : Nat} : Mono2 (gName i) := ⟨fun h q => h _ _ q⟩
instance : Mono2s gNil := ⟨fun h q => ⟨q.1, h _ _ q.2⟩⟩
instance {g : TG} {u : TGs} [m : Mono2 g] [mu : Mono2s u] : Mono2s (gCons g u) := ⟨fun h ⟨v, r, e, q⟩ => ⟨v, r, e, m.go (fun _ _ q2 => mu.go h q2) q⟩⟩
instance {K : PySem.W.Frag} {n : Nat} {u : TGs} [mu : Mono2s u] : Mono2 (gTup K n u) := ⟨fun h ⟨a, xs, e, q1, q2, q⟩ => ⟨a, xs, e, q1, q2, mu.go h q⟩⟩
instance {g : TG} {u : TGs} {is js : List Nat} [l : LGk g is] [lu : LGks u js] [m : Mono2 g] [mu : Mono2s u] : LGks (gCons g u) (is ++ js) := ⟨fun {vs σ H Q} ⟨v, r, e, q⟩ => ⟨v, r, e, m.go (fun _ _ ⟨k1, q2⟩ => mu.go (fun _ _ ⟨k2, q3⟩ => ⟨k1.trans k2, q3⟩) (lu.go q2)) (l.go q)⟩⟩
instance {K : PySem.W.Frag} {n : Nat} {u : TGs} {js : List Nat} [lu : LGks u js] : LGk (gTup K n u) js := ⟨fun {v σ H Q} ⟨a, xs, e, q1, q2, q⟩ => ⟨a, xs, e, q1, q2, lu.go q⟩⟩
def subN : List Nat → List Nat → Bool
  | [], _ => true
  | i :: r, vs => match vs.any (Nat.beq i) with
    | true => subN r vs
    | false => false
theorem subN_mem : ∀ {is vs : List Nat}, subN is vs = true → ∀ i ∈ is, i ∈ vs
  | i :: r, vs, h, j, hj => by
    unfold subN at h
    split at h
    · rename_i hb
      rcases List.mem_cons.mp hj with e | hj
      · obtain ⟨x, hx, he⟩ := List.any_eq_true.mp hb
        rw [e, Nat.eq_of_beq_eq_true he]
        exact hx
      · exact subN_mem h j hj
    · cases h
/-- walks that are of any length, walks over things at hand -/
def Src.ok : Src → Prop → Prop
  | .rng _ n, k => n ≤ sizeLine ∧ k
  | .chr z, k => z.cps.size ≤ sizeLine ∧ k
  | .seq ds, k => ds.length ≤ sizeLine → k
  | .enu ds, k => ds.length ≤ sizeLine → k
  | .zip ds _, k => ds.length ≤ sizeLine → k
@[irreducible] def LcB (wg : WG) (wt : WT) (we : WE) (vs : List Nat) (Γ : Ga) (Q : QD) (src : Src) (s1 : S) : Prop := src.n ≤ sizeLine ∧ ∃ Inv : Nat → List D → S → Prop, Inv 0 [] s1 ∧
    (∀ i d acc s', i < src.n → src.at i = some d → acc.length ≤ i → Inv i acc s' → wg d (wipeG Γ vs) s' fun Γ2 s2 => wt Γ2 s2 fun b s3 => Br b (we Γ2 s3 fun y s4 => escP s4 y fun y' s5 => Inv (i + 1) (acc ++ [y']) s5) (Inv (i + 1) acc s3)) ∧
    ∀ acc s', acc.length ≤ src.n → Inv src.n acc s' → Q (.lst acc) s'
theorem lc_inv {wg : WG} {wt : WT} {we : WE} {vs : List Nat} {Γ : Ga} {Q : QD} {src : Src} {s1 : S} (Inv : Nat → List D → S → Prop) (hn : src.n ≤ sizeLine) (h0 : Inv 0 [] s1)
    (step : ∀ i d acc s', i < src.n → src.at i = some d → acc.length ≤ i → Inv i acc s' → wg d (wipeG Γ vs) s' fun Γ2 s2 => wt Γ2 s2 fun b s3 => Br b (we Γ2 s3 fun y s4 => escP s4 y fun y' s5 => Inv (i + 1) (acc ++ [y']) s5) (Inv (i + 1) acc s3))
    (fin : ∀ acc s', acc.length ≤ src.n → Inv src.n acc s' → Q (.lst acc) s') : LcB wg wt we vs Γ Q src s1 := by
  unfold LcB
  exact ⟨hn, Inv, h0, step, fin⟩
theorem LcB.out {wg : WG} {wt : WT} {we : WE} {vs : List Nat} {Γ : Ga} {Q : QD} {src : Src} {s1 : S} (h : LcB wg wt we vs Γ Q src s1) : src.n ≤ sizeLine ∧ ∃ Inv : Nat → List D → S → Prop, Inv 0 [] s1 ∧
    (∀ i d acc s', i < src.n → src.at i = some d → acc.length ≤ i → Inv i acc s' → wg d (wipeG Γ vs) s' fun Γ2 s2 => wt Γ2 s2 fun b s3 => Br b (we Γ2 s3 fun y s4 => escP s4 y fun y' s5 => Inv (i + 1) (acc ++ [y']) s5) (Inv (i + 1) acc s3)) ∧
    ∀ acc s', acc.length ≤ src.n → Inv src.n acc s' → Q (.lst acc) s' := by
  unfold LcB at h
  exact h
def wLc (ws : WI) (is : List Nat) (wg : WG) (wt : WT) (we : WE) (vs : List Nat) : WE := fun Γ s Q => match subN is vs with
  | false => False
  | true => ws Γ s fun src s1 => LcB wg wt we vs Γ Q src s1
/-- a list that is being made is hidden -/
def hidA (F : Fr) (a : Addr) : Fr := fun b => F b || b == a
theorem hidA_vis {D0 : Addr} {a : Addr} {o : HO} (h : vis (hidA F D0) s H a = some o) : vis F s H a = some o := by
  obtain ⟨h1, h2⟩ := vis_iff.mp h
  refine vis_iff.mpr ⟨?_, h2⟩
  unfold S.hid hidA at h1
  unfold S.hid
  simp only [Bool.or_eq_false_iff] at h1 ⊢
  exact ⟨⟨h1.1.1.1, h1.1.2⟩, h1.2⟩
theorem vis_hidA {D0 : Addr} {a : Addr} {o : HO} (n : a ≠ D0) (h : vis F s H a = some o) : vis (hidA F D0) s H a = some o := by
  obtain ⟨h1, h2⟩ := vis_iff.mp h
  refine vis_iff.mpr ⟨?_, h2⟩
  unfold S.hid at h1
  unfold S.hid hidA
  simp only [Bool.or_eq_false_iff] at h1 ⊢
  exact ⟨⟨⟨h1.1.1, by simpa using n⟩, h1.1.2⟩, h1.2⟩
/-- as OkS, the list at D0 (which H knows) hidden besides -/
theorem OkS.hide (ok : OkS K F s H) {D0 : Addr} {o : HO} (hn : H D0 = none) : OkS K (hidA F D0) s (upd H D0 o) ∧ Ex (vis F s H) (vis (hidA F D0) s (upd H D0 o)) := by
  have ne : ∀ a, H a ≠ none → a ≠ D0 := fun a ha z => ha (by rw [z]; exact hn)
  have ex : Ex (vis F s H) (vis (hidA F D0) s (upd H D0 o)) := fun a u e => by
    have h1 := (vis_iff.mp e).2
    have nn := ne a (by rw [h1]; exact fun z => nomatch z)
    exact vis_hidA nn (vis_iff.mpr ⟨(vis_iff.mp e).1, by rw [upd_ne nn]; exact h1⟩)
  refine ⟨⟨fun e he => (ok.ents e he).mono ex (upd_ne (ne _ (ok.ents e he).some)), ok.nd, fun p q e => ?_, fun a ha => ?_, fun e he => ?_, fun p q e => ?_⟩, ex⟩
  · obtain ⟨⟨z, hz, hzn⟩, hm⟩ := ok.pen p q e
    have hz2 := hz
    obtain ⟨_, ns, h4, h5, _⟩ := hz2
    exact ⟨⟨z, ok.pen_upd hz (Ne.symm (ne p (by rw [h4]; exact fun z => nomatch z))) (Ne.symm (ne q (by rw [h5]; exact fun z => nomatch z))), hzn⟩, hm⟩
  · unfold hidA at ha
    rw [Bool.or_eq_true, beq_iff_eq] at ha
    by_cases e : a = D0
    · rw [e, upd_same]; exact fun z => nomatch z
    · rw [upd_ne e]
      exact ok.fr a (ha.resolve_right e)
  · have := ne _ (ok.ents e he).some
    unfold hidA
    rw [ok.frM e he]
    simpa using this
  · obtain ⟨h1, h2⟩ := ok.frP p q e
    obtain ⟨⟨z, ⟨_, ns, h4, h5, _⟩, _⟩, _⟩ := ok.pen p q e
    have n1 := ne p (by rw [h4]; exact fun z => nomatch z)
    have n2 := ne q (by rw [h5]; exact fun z => nomatch z)
    unfold hidA
    rw [h1, h2]
    exact ⟨by simpa using n1, by simpa using n2⟩
/-- the hidden list is changed -/
theorem OkS.hupd {D0 : Addr} (ok : OkS K (hidA F D0) s H) {o : HO} : OkS K (hidA F D0) s (upd H D0 o) ∧ vis (hidA F D0) s (upd H D0 o) = vis (hidA F D0) s H := by
  have hv : vis (hidA F D0) s (upd H D0 o) = vis (hidA F D0) s H := by
    funext a
    unfold vis
    by_cases e : a = D0
    · have : s.hid (hidA F D0) a = true := by unfold S.hid hidA; rw [e]; simp
      rw [this, if_pos rfl, if_pos rfl]
    · rw [upd_ne e]
  have hF : hidA F D0 D0 = true := by unfold hidA; simp
  refine ⟨⟨fun e he => ?_, ok.nd, fun p q e => ?_, fun a ha => ?_, ok.frM, ok.frP⟩, hv⟩
  · have ne : e.a ≠ D0 := fun z => by
      have := ok.frM e he
      rw [z, hF] at this
      cases this
    exact (ok.ents e he).mono (by rw [hv]; exact Ex.refl _) (upd_ne ne)
  · obtain ⟨⟨z, hz, hzn⟩, hm⟩ := ok.pen p q e
    obtain ⟨h1, h2⟩ := ok.frP p q e
    exact ⟨⟨z, ok.pen_upd hz (fun z => by rw [← z, hF] at h1; cases h1) (fun z => by rw [← z, hF] at h2; cases h2), hzn⟩, hm⟩
  · by_cases e : a = D0
    · rw [e, upd_same]; exact fun z => nomatch z
    · rw [upd_ne e]; exact ok.fr a ha
/-- it is seen from now on -/
theorem OkS.unhide {D0 : Addr} (ok : OkS K (hidA F D0) s H) : OkS K F s H ∧ Ex (vis (hidA F D0) s H) (vis F s H) := by
  have ex : Ex (vis (hidA F D0) s H) (vis F s H) := fun a o h => hidA_vis h
  refine ⟨⟨fun e he => (ok.ents e he).mono ex rfl, ok.nd, ok.pen, fun a ha => ok.fr a (by unfold hidA; rw [ha]; rfl), fun e he => ?_, fun p q e => ?_⟩, ex⟩
  · have := ok.frM e he
    unfold hidA at this
    rw [Bool.or_eq_false_iff] at this
    exact this.1
  · obtain ⟨h1, h2⟩ := ok.frP p q e
    unfold hidA at h1 h2
    rw [Bool.or_eq_false_iff] at h1 h2
    exact ⟨h1.1, h2.1⟩
theorem unhide_at {D0 : Addr} (ok : OkS K (hidA F D0) s H) {o : HO} (h : H D0 = some o) (hF : F D0 = false) : vis F s H D0 = some o := by
  refine vis_iff.mpr ⟨?_, h⟩
  have hD : hidA F D0 D0 = true := by unfold hidA; simp
  unfold S.hid
  have h2 : s.hidM D0 = false := by
    unfold S.hidM
    rw [List.any_eq_false]
    intro e he
    have : e.a ≠ D0 := fun z => by
      have := ok.frM e he
      rw [z, hD] at this
      cases this
    simp [this]
  have h3 : s.hidP D0 = false := by
    unfold S.hidP
    cases e : s.pn with
    | none => rfl
    | some pq =>
      obtain ⟨p, q⟩ := pq
      obtain ⟨h1, h2⟩ := ok.frP p q e
      have n1 : D0 ≠ p := fun z => by rw [← z, hD] at h1; cases h1
      have n2 : D0 ≠ q := fun z => by rw [← z, hD] at h2; cases h2
      simp [n1, n2]
  rw [hF, h2, h3]
  rfl
instance {wi : TI} {g : TG} {tt : TT} {te : TE} {vs is : List Nat} {ws : WI} {wg : WG} {wt : WT} {we : WE} [li : LI K wi ws] [lk : LGk g is] [m2 : Mono2 g] [lg : LG K g wg] [lt : LT K tt wt] [le : LE K te we] : LE K (tLc wi g tt te vs) (wLc ws is wg wt we vs) := ⟨fun {F s H σ Γ Q Q0} a h k => by
  unfold wLc at h
  cases hs : subN is vs with
  | false => rw [hs] at h; exact h.elim
  | true =>
    rw [hs] at h
    refine li.go a h fun src H1 s1 J t1 ok1 wd h1 => ?_
    obtain ⟨hn, Inv, i0, step, fin⟩ := h1.out
    obtain ⟨G, Y, W, hG, hY⟩ := wd.w
    intro D0 hD
    obtain ⟨okh, exh⟩ := ok1.hide (o := .lst []) hD
    have hFD : F D0 = false := by
      cases e : F D0 with
      | false => rfl
      | true => exact absurd hD (ok1.fr D0 e)
    refine lc_it W (fun i H' => ∃ acc s' us, Ex (vis F s1 H1) (vis (hidA F D0) s' H') ∧ (∀ b, F b = true → H' b = H1 b) ∧ s'.pn = s1.pn ∧ OkS K (hidA F D0) s' H' ∧ H' D0 = some (.lst us) ∧ RepL K (vis (hidA F D0) s' H') us acc ∧ acc.length ≤ i ∧ Inv i acc s') ⟨[], s1, [], exh, fun b hb => upd_ne fun z => (by rw [z, hFD] at hb; cases hb), rfl, okh, upd_same, .nil, Nat.zero_le _, i0⟩ (fun i H' _ ⟨acc, s', us, e1, _, _, ok, _⟩ => hG _ s' H' e1 ok) ?_ ?_
    · rintro i x H' H2 hi ⟨acc, s', us, e1, e2, e3, ok, e4, e5, e6, inv⟩ y
      obtain ⟨d, hd, t2, ok2, r2, keep⟩ := hY _ i s' H' x H2 hi e1 ok y
      have g2 : RepG K (vis (hidA F D0) s' H2) (wipe σ vs) (wipeG Γ vs) := ((a.g.mono t1.ex).mono (e1.trans t2.ex)).wipe
      have hD2 : H2 D0 = some (.lst us) := by rw [keep D0 (by rw [e4]; exact fun z => nomatch z)]; exact e4
      have q := lg.go ⟨g2, ok2⟩ r2 (step i d acc s' hi hd e6 inv) fun σ3 H3 Γ3 s3 t3 a3 h3 => (⟨Γ3, s3, t3, a3, h3⟩ : ∃ Γ3 s3, Tr (hidA F D0) s' H2 s3 H3 ∧ At K (hidA F D0) s3 H3 σ3 Γ3 ∧ wt Γ3 s3 fun b s3 => Br b (we Γ3 s3 fun y s4 => escP s4 y fun y' s5 => Inv (i + 1) (acc ++ [y']) s5) (Inv (i + 1) acc s3))
      refine m2.go (fun σ3 H3 ⟨kp, Γ3, s3, t3, a3, h3⟩ => ⟨?_, ?_⟩) (lk.go q)
      · exact (wipe_eq kp.1 (fun j hj => kp.2 j fun z => hj (subN_mem hs j z))).trans (wipe_eq (wipe_length σ vs) (fun j hj => by rw [wipe_get, if_neg fun z => hj z.1]))
      have hFD0 : hidA F D0 D0 = true := by unfold hidA; simp
      have fr0 : ∀ b, F b = true → hidA F D0 b = true := fun b hb => by unfold hidA; rw [hb]; rfl
      refine lt.go a3 h3 fun b H4 s4 t4 ok4 h4 => h4.ite (fun _ h5 => ?_) (fun _ h5 => ?_)
      · refine le.go (a3.to t4 ok4) h5 fun v H5 dv s5 t5 ok5 r5 h6 => ?_
        obtain ⟨y', s6, h7, ok6, t6, r6⟩ := esc ok5 r5 h6
        have tt := ((t2.trans t3).trans (t4.trans t5)).trans t6
        have hD5 : H5 D0 = some (.lst us) := by rw [tt.fr D0 hFD0, e4]
        obtain ⟨ok7, hv⟩ := ok6.hupd (o := .lst (us ++ [v]))
        refine ⟨us, hD5, ?_, acc ++ [y'], s6, us ++ [v], by rw [hv]; exact e1.trans tt.ex, fun b hb => ?_, tt.pn.trans e3, ok7, upd_same, ?_, by rw [List.length_append]; exact Nat.succ_le_succ e6, h7⟩
        · rw [e5.len]; omega
        · rw [upd_ne fun z => (by rw [z, hFD] at hb; cases hb), tt.fr b (fr0 b hb), e2 b hb]
        · rw [hv]
          exact (e5.mono tt.ex).app (.cons r6 .nil)
      · have tt := (t2.trans t3).trans t4
        exact ⟨acc, s4, us, e1.trans tt.ex, fun b hb => by rw [tt.fr b (fr0 b hb), e2 b hb], tt.pn.trans e3, ok4, by rw [tt.fr D0 hFD0, e4], e5.mono tt.ex, by omega, h5⟩
    · rintro H' ⟨acc, s', us, e1, e2, e3, ok, e4, e5, e6, inv⟩
      obtain ⟨ok8, ex8⟩ := ok.unhide
      refine k _ _ _ _ (t1.trans ⟨e1.trans ex8, e2, e3⟩) ok8 (.lst (unhide_at ok e4 hFD) (e5.mono ex8) (Nat.le_trans e6 hn)) (fin acc s' e6 inv)⟩
end
end Da

/-! Readings over data: one's own objects, whole defs (own). -/
namespace Da
open PySem PySem.Spec PyProof.Rows L2 Evl Hd
section
variable {K : PySem.W.Frag} {F : Fr} {s s' : S} {H H' : Hp}
/-! ### new objects that are changed later -/
/-- the hidden object at p becomes one of one's own -/
theorem OkS.adopt {p : Addr} (ok : OkS K (hidA F p) s H) (hF : F p = false) {m : MO} (r : RepO K (vis (hidA F p) s H) H p m) (h : Nat) : OkS K F (s.own h p m) H ∧ vis F (s.own h p m) H = vis (hidA F p) s H := by
  have hv : vis F (s.own h p m) H = vis (hidA F p) s H := by
    funext a
    unfold vis
    have : (s.own h p m).hid F a = s.hid (hidA F p) a := by
      unfold S.hid hidA
      show (F a || (List.any (⟨h, p, m, false⟩ :: s.M) fun e => !e.fz && e.a == a) || s.hidP a) = (F a || a == p || s.hidM a || s.hidP a)
      rw [List.any_cons]
      have e : (p == a) = (a == p) := by
        by_cases z : p = a
        · subst z; rfl
        · rw [beq_eq_false_iff_ne.mpr z, beq_eq_false_iff_ne.mpr (Ne.symm z)]
      show (F a || ((!false && p == a) || s.hidM a) || s.hidP a) = _
      rw [e, Bool.not_false, Bool.true_and, Bool.or_assoc (F a) (a == p)]
    rw [this]
  have hD : hidA F p p = true := by unfold hidA; simp
  have nm : ∀ e ∈ s.M, e.a ≠ p := fun e he z => by
    have := ok.frM e he
    rw [z, hD] at this
    cases this
  refine ⟨⟨fun e he => ?_, ?_, fun a b e => ?_, fun a ha => ok.fr a (by unfold hidA; rw [ha]; rfl), fun e he => ?_, fun a b e => ?_⟩, hv⟩
  · rw [hv]
    rcases List.mem_cons.mp he with he | he
    · rw [he]; exact r
    · exact ok.ents e he
  · show ((⟨h, p, m, false⟩ :: s.M : List Ent).map (·.a)).Nodup
    rw [List.map_cons, List.nodup_cons]
    refine ⟨fun z => ?_, ok.nd⟩
    obtain ⟨e, he, ee⟩ := List.mem_map.mp z
    exact nm e he ee
  · obtain ⟨h1, h2⟩ := ok.pen a b e
    obtain ⟨h3, h4⟩ := ok.frP a b e
    refine ⟨h1, fun e he => ?_⟩
    rcases List.mem_cons.mp he with he | he
    · rw [he]
      exact ⟨fun z => (by rw [← z, hD] at h3; cases h3), fun z => (by rw [← z, hD] at h4; cases h4)⟩
    · exact h2 e he
  · rcases List.mem_cons.mp he with he | he
    · rw [he]; exact hF
    · have := ok.frM e he
      unfold hidA at this
      rw [Bool.or_eq_false_iff] at this
      exact this.1
  · obtain ⟨h3, h4⟩ := ok.frP a b e
    unfold hidA at h3 h4
    rw [Bool.or_eq_false_iff] at h3 h4
    exact ⟨h3.1, h4.1⟩
abbrev WM := Ga → S → (MO → S → Prop) → Prop
/-- what comes behind an expression that makes a new object -/
abbrev KM (K : PySem.W.Frag) (F : Fr) (s : S) (H : Hp) (Q : MO → S → Prop) (Q0 : VK) : Prop := ∀ p H' m s', F p = false → OkS K (hidA F p) s' H' → Ex (vis F s H) (vis (hidA F p) s' H') → (∀ b, F b = true → H' b = H b) → s'.pn = s.pn → RepO K (vis (hidA F p) s' H') H' p m → Q m s' → Q0 (.ref p) H'
class LEo (K : PySem.W.Frag) (te : TE) (w : outParam WM) : Prop where
  go : ∀ {F : Fr} {s : S} {H : Hp} {σ : L2.St} {Γ : Ga} {Q : MO → S → Prop} {Q0 : VK}, At K F s H σ Γ → w Γ s Q → KM K F s H Q Q0 → te σ H Q0
theorem KM.to {Q : MO → S → Prop} {Q0 : VK} (k : KM K F s H Q Q0) (t : Tr F s H s' H') : KM K F s' H' Q Q0 := fun p H2 m s2 h1 h2 h3 h4 h5 => k p H2 m s2 h1 h2 (t.ex.trans h3) (fun b hb => (h4 b hb).trans (t.fr b hb)) (h5.trans t.pn)
/-- made at once -/
theorem new_mo {Q : MO → S → Prop} {Q0 : VK} {o : HO} {m : MO} (ok : OkS K F s H) (hr : ∀ p Hv, Ex (vis F s H) Hv → RepO K Hv (upd H p o) p m) (h : Q m s) (k : KM K F s H Q Q0) : ∀ p, H p = none → Q0 (.ref p) (upd H p o) := fun p hp => by
  obtain ⟨ok1, e1⟩ := ok.hide (o := o) hp
  have hF : F p = false := by
    cases e : F p with
    | false => rfl
    | true => exact absurd hp (ok.fr p e)
  exact k p _ m s hF ok1 e1 (fun b hb => upd_ne fun z => by rw [z, hF] at hb; cases hb) rfl (hr p _ e1) h
def woLst (wa : WA) : WM := fun Γ s Q => wa Γ s fun ds s1 => ds.length ≤ sizeLine ∧ Q (.lst ds) s1
instance {ta : TA} {wa : WA} [l : LA K ta wa] : LEo K (tLst ta) (woLst wa) := ⟨fun {F s H σ Γ Q Q0} a h k => l.go a h fun vs H1 ds s1 t1 ok1 r1 h1 =>
  ⟨by rw [r1.len]; exact h1.1, new_mo (m := .lst ds) ok1 (fun p Hv e => ⟨vs, upd_same, r1.mono e, h1.1⟩) h1.2 (k.to t1)⟩⟩
def woNew : WM := fun _ s Q => Q (.dct []) s
instance : LEo K tDNewK woNew := ⟨fun {F s H σ Γ Q Q0} a h k => new_mo (m := .dct []) a.ok (fun p Hv e => ⟨[], upd_same, .nil, Nat.zero_le _⟩) h k⟩
def woList (wa : WA) : WM := fun Γ s Q => wa Γ s fun ds s1 => seeA s1 ds fun ds' => match ds' with
  | [.lst es] => Q (.lst es) s1
  | [.tup es] => Q (.lst es) s1
  | _ => False
instance {ta : TA} {wa : WA} [l : LA K ta wa] : LEo K (tCB (rListO K) ta) (woList wa) := ⟨fun {F s H σ Γ Q Q0} a h k => l.go a h fun vs H1 ds s1 t1 ok1 r1 h1 => by
  obtain ⟨ds', h2, r2⟩ := sees ok1 r1 h1
  split at h2
  · obtain ⟨v, rfl, rr⟩ := wl1 r2
    obtain ⟨b, xs, rfl, g1, g2, g3⟩ := rr
    exact ⟨b, xs, rfl, .inl (SqL.of g1), new_mo (m := .lst _) ok1 (fun p Hv e => ⟨xs, upd_same, g2.mono e, g3⟩) h2 (k.to t1)⟩
  · obtain ⟨v, rfl, rr⟩ := wl1 r2
    obtain ⟨b, xs, rfl, g1, g2, g3⟩ := rr.tup vis_ex
    exact ⟨b, xs, rfl, .inr g1, new_mo (m := .lst _) ok1 (fun p Hv e => ⟨xs, upd_same, g2.mono e, g3⟩) h2 (k.to t1)⟩
  · exact h2.elim⟩
instance {wi : TI} {g : TG} {tt : TT} {te : TE} {vs is : List Nat} {ws : WI} {wg : WG} {wt : WT} {we : WE} [li : LI K wi ws] [lk : LGk g is] [m2 : Mono2 g] [lg : LG K g wg] [lt : LT K tt wt] [le : LE K te we] : LEo K (tLc wi g tt te vs) (fun Γ s Q => wLc ws is wg wt we vs Γ s fun d s1 => asL d fun ds => Q (.lst ds) s1) := ⟨fun {F s H σ Γ Q Q0} a h k => by
  unfold wLc at h
  cases hs : subN is vs with
  | false => rw [hs] at h; exact h.elim
  | true =>
    rw [hs] at h
    refine li.go a h fun src H1 s1 J t1 ok1 wd h1 => ?_
    obtain ⟨hn, Inv, i0, step, fin⟩ := h1.out
    obtain ⟨G, Y, W, hG, hY⟩ := wd.w
    intro D0 hD
    obtain ⟨okh, exh⟩ := ok1.hide (o := .lst []) hD
    have hFD : F D0 = false := by
      cases e : F D0 with
      | false => rfl
      | true => exact absurd hD (ok1.fr D0 e)
    refine lc_it W (fun i H' => ∃ acc s' us, Ex (vis F s1 H1) (vis (hidA F D0) s' H') ∧ (∀ b, F b = true → H' b = H1 b) ∧ s'.pn = s1.pn ∧ OkS K (hidA F D0) s' H' ∧ H' D0 = some (.lst us) ∧ RepL K (vis (hidA F D0) s' H') us acc ∧ acc.length ≤ i ∧ Inv i acc s') ⟨[], s1, [], exh, fun b hb => upd_ne fun z => (by rw [z, hFD] at hb; cases hb), rfl, okh, upd_same, .nil, Nat.zero_le _, i0⟩ (fun i H' _ ⟨acc, s', us, e1, _, _, ok, _⟩ => hG _ s' H' e1 ok) ?_ ?_
    · rintro i x H' H2 hi ⟨acc, s', us, e1, e2, e3, ok, e4, e5, e6, inv⟩ y
      obtain ⟨d, hd, t2, ok2, r2, keep⟩ := hY _ i s' H' x H2 hi e1 ok y
      have g2 : RepG K (vis (hidA F D0) s' H2) (wipe σ vs) (wipeG Γ vs) := ((a.g.mono t1.ex).mono (e1.trans t2.ex)).wipe
      have hD2 : H2 D0 = some (.lst us) := by rw [keep D0 (by rw [e4]; exact fun z => nomatch z)]; exact e4
      have q := lg.go ⟨g2, ok2⟩ r2 (step i d acc s' hi hd e6 inv) fun σ3 H3 Γ3 s3 t3 a3 h3 => (⟨Γ3, s3, t3, a3, h3⟩ : ∃ Γ3 s3, Tr (hidA F D0) s' H2 s3 H3 ∧ At K (hidA F D0) s3 H3 σ3 Γ3 ∧ wt Γ3 s3 fun b s3 => Br b (we Γ3 s3 fun y s4 => escP s4 y fun y' s5 => Inv (i + 1) (acc ++ [y']) s5) (Inv (i + 1) acc s3))
      refine m2.go (fun σ3 H3 ⟨kp, Γ3, s3, t3, a3, h3⟩ => ⟨?_, ?_⟩) (lk.go q)
      · exact (wipe_eq kp.1 (fun j hj => kp.2 j fun z => hj (subN_mem hs j z))).trans (wipe_eq (wipe_length σ vs) (fun j hj => by rw [wipe_get, if_neg fun z => hj z.1]))
      have hFD0 : hidA F D0 D0 = true := by unfold hidA; simp
      have fr0 : ∀ b, F b = true → hidA F D0 b = true := fun b hb => by unfold hidA; rw [hb]; rfl
      refine lt.go a3 h3 fun b H4 s4 t4 ok4 h4 => h4.ite (fun _ h5 => ?_) (fun _ h5 => ?_)
      · refine le.go (a3.to t4 ok4) h5 fun v H5 dv s5 t5 ok5 r5 h6 => ?_
        obtain ⟨y', s6, h7, ok6, t6, r6⟩ := esc ok5 r5 h6
        have tt := ((t2.trans t3).trans (t4.trans t5)).trans t6
        have hD5 : H5 D0 = some (.lst us) := by rw [tt.fr D0 hFD0, e4]
        obtain ⟨ok7, hv⟩ := ok6.hupd (o := .lst (us ++ [v]))
        refine ⟨us, hD5, ?_, acc ++ [y'], s6, us ++ [v], by rw [hv]; exact e1.trans tt.ex, fun b hb => ?_, tt.pn.trans e3, ok7, upd_same, ?_, by rw [List.length_append]; exact Nat.succ_le_succ e6, h7⟩
        · rw [e5.len]; omega
        · rw [upd_ne fun z => (by rw [z, hFD] at hb; cases hb), tt.fr b (fr0 b hb), e2 b hb]
        · rw [hv]
          exact (e5.mono tt.ex).app (.cons r6 .nil)
      · have tt := (t2.trans t3).trans t4
        exact ⟨acc, s4, us, e1.trans tt.ex, fun b hb => by rw [tt.fr b (fr0 b hb), e2 b hb], tt.pn.trans e3, ok4, by rw [tt.fr D0 hFD0, e4], e5.mono tt.ex, by omega, h5⟩
    · rintro H' ⟨acc, s', us, e1, e2, e3, ok, e4, e5, e6, inv⟩
      exact k D0 H' (.lst acc) s' hFD ok (t1.ex.trans e1) (fun b hb => (e2 b hb).trans (t1.fr b hb)) (e3.trans t1.pn) ⟨us, e4, e5, Nat.le_trans e6 hn⟩ (fin acc s' e6 inv)⟩
def woMake (C : Addr) (dsp : DIn) (dds : List D) (wa : WA) : WM := fun Γ s Q => wa Γ s fun ds s1 => escA s1 ds fun ds' s2 => dsp s2.pn (ds' ++ dds) s2.n (fun fs n' => Q (.obj C fs) (s2.at n')) XF
/-! ### statements with one's own objects -/
def tAsgO (h : Nat) (te : TE) (g : TG) : TS := tAsg te g
theorem ps_own {X : Cx} {st : Stmt} {te : TE} {g : TG} (h : Nat) (p : PS X st (tAsg te g)) : PS X st (tAsgO h te g) := p
def wAsgO (h i : Nat) (wo : WM) : WS := fun e Γ s => wo (setG Γ i none) (s.drop h) fun m s1 => ∀ a, e.nx (setG (setG Γ i none) i (some (.loc a h))) (s1.own h a m)
instance {h i : Nat} {te : TE} {wo : WM} [l : LEo K te wo] : LS K (tAsgO h te (gName i)) (wAsgO h i wo) := ⟨fun {F s H σ Γ e D0} a hh k => by
  obtain ⟨ok0, t0⟩ := a.ok.drop h
  have a0 : At K F (s.drop h) H σ (setG Γ i none) := ⟨(a.g.mono t0.ex).forget, ok0⟩
  refine l.go a0 hh fun p H' m s' hF ok ex fr pn r h1 => ?_
  obtain ⟨ok2, hv⟩ := ok.adopt hF r h
  have t2 : Tr F s H (s'.own h p m) H' := ⟨t0.ex.trans (by rw [hv]; exact ex), fun b hb => fr b hb, pn⟩
  refine k.nx _ _ _ _ t2 ⟨?_, ok2⟩ (h1 p)
  rw [hv]
  exact (a0.g.mono ex).set .loc⟩
/-- an expression within another one: its object is one's own -/
def tOwn (h : Nat) (te : TE) : TE := te
theorem pe_own {X : Cx} {e : Expr} {te : TE} (h : Nat) (p : PE X e te) : PE X e (tOwn h te) := p
def wOwn (h : Nat) (wo : WM) : WE := fun Γ s Q => wo Γ (s.drop h) fun m s1 => ∀ a, Q (.loc a h) (s1.own h a m)
instance {h : Nat} {te : TE} {wo : WM} [l : LEo K te wo] : LE K (tOwn h te) (wOwn h wo) := ⟨fun {F s H σ Γ Q Q0} a hh k => by
  obtain ⟨ok0, t0⟩ := a.ok.drop h
  refine l.go (a.to t0 ok0) hh fun p H' m s' hF ok ex fr pn r h1 => ?_
  obtain ⟨ok2, hv⟩ := ok.adopt hF r h
  have t2 : Tr F s H (s'.own h p m) H' := ⟨t0.ex.trans (by rw [hv]; exact ex), fun b hb => fr b hb, pn⟩
  exact k _ _ _ _ t2 ok2 .loc (h1 p)⟩
def mutP (s : S) (d : D) (k : Nat → MO → Prop) : Prop := match d with
  | .loc a h => match mget s.M h with
    | some e => e.a = a ∧ (match e.fz with
      | false => k h e.o
      | true => False)
    | none => False
  | _ => False
theorem mutP_of {v : V} {d : D} (r : Rep K (vis F s H) v d) {k : Nat → MO → Prop} (h : mutP s d k) : ∃ n e, mget s.M n = some e ∧ e.fz = false ∧ v = .ref e.a ∧ k n e.o ∧ d = .loc e.a n := by
  cases d with
  | loc a n =>
    cases r
    unfold mutP at h
    simp only at h
    cases q : mget s.M n with
    | none => rw [q] at h; exact h.elim
    | some e =>
      rw [q] at h
      obtain ⟨rfl, h2⟩ := h
      cases f : e.fz with
      | true =>
        simp only [f] at h2
      | false =>
        simp only [f] at h2
        exact ⟨n, e, q, f, rfl, h2, rfl⟩
  | _ => exact h.elim
def moL (m : MO) (k : List D → Prop) : Prop := match m with
  | .lst ds => k ds
  | _ => False
def arg1 (ds : List D) (k : D → Prop) : Prop := match ds with
  | [d] => k d
  | _ => False
def wApp (wo : WE) (wa : WA) : WE := fun Γ s Q => wo Γ s fun o s1 => mutP s1 o fun _ m0 => moL m0 fun _ => wa Γ s1 fun args s2 => arg1 args fun d => escP s2 d fun d' s3 => mutP s3 o fun h m => moL m fun ds => ds.length < sizeLine ∧ Q .non (s3.put h (.lst (ds ++ [d'])))
instance {to : TE} {ta : TA} {wo : WE} {wa : WA} [lo : LE K to wo] [l : LA K ta wa] : LE K (tBM K "list" rAppend to ta) (wApp wo wa) := ⟨fun {F s H σ Γ Q Q0} a h k => lo.go a h fun v1 H1 d1 s1 t1 ok1 r1 h1 => by
  obtain ⟨n, e, q1, q2, rfl, h2, rfl⟩ := mutP_of r1 h1
  cases hm : e.o with
  | lst ds0 =>
    rw [hm] at h2
    have h0 := ok1.ents e (mget_mem q1).1
    rw [hm] at h0
    obtain ⟨us0, u1, _, _⟩ := h0
    refine ⟨.inl ⟨rfl, us0, SqL.of u1⟩, l.go (a.to t1 ok1) h2 fun vs H2 ds s2 t2 ok2 r2 h3 => ?_⟩
    unfold arg1 at h3
    split at h3
    · cases r2 with
      | cons r q =>
        cases q
        obtain ⟨d', s3, h4, ok3, t3, r3⟩ := esc ok2 r h3
        obtain ⟨n', e', q3, q4, hv, h5, hd⟩ := mutP_of (K := K) (F := F) (H := H2) (v := .ref e.a) (d := .loc e.a n) .loc h4
        injection hd with ea en
        subst en
        cases hm2 : e'.o with
        | lst ds1 =>
          rw [hm2] at h5
          obtain ⟨h6, h7⟩ := h5
          have h8 := ok3.ents e' (mget_mem q3).1
          rw [hm2] at h8
          obtain ⟨us, u2, u3, u4⟩ := h8
          obtain ⟨ok4, t4⟩ := ok3.put (o := .lst (us ++ [_])) (m := .lst (ds1 ++ [d'])) q3 q4 (fun Hv ex => ⟨_, upd_same, (u3.mono ex).app (.cons (r3.mono ex) .nil), by rw [List.length_append]; exact h6⟩)
          refine ⟨e.a, us, _, rfl, rfl, by rw [ea]; exact u2, by rw [u3.len]; exact h6, ?_⟩
          rw [ea]
          exact k _ _ _ _ (((t1.trans t2).trans t3).trans t4) ok4 .non h7
        | nk _ _ _ => rw [hm2] at h5; exact h5.elim
        | dct _ => rw [hm2] at h5; exact h5.elim
        | obj _ _ => rw [hm2] at h5; exact h5.elim
    · exact h3.elim
  | nk _ _ _ => rw [hm] at h2; exact h2.elim
  | dct _ => rw [hm] at h2; exact h2.elim
  | obj _ _ => rw [hm] at h2; exact h2.elim⟩
def wgSet (wo wi : WE) : WG := fun d Γ s Q => escP s d fun d' s0 => wo Γ s0 fun o s1 => wi Γ s1 fun i s2 => asI i fun z => mutP s2 o fun h m => moL m fun ds => ∃ j, ixN ds.length z = some j ∧ Q Γ (s2.put h (.lst (ds.set j d')))
instance {to ti : TE} {wo wi : WE} [lo : LE K to wo] [li : LE K ti wi] : LG K (gSub to ti rSetL) (wgSet wo wi) := ⟨fun {F s H σ Γ v d Q Q0} a r h k => by
  obtain ⟨d', s0, h0, ok0, t0, r0⟩ := esc a.ok r h
  refine lo.go (a.to t0 ok0) h0 fun v1 H1 d1 s1 t1 ok1 r1 h1 => li.go (a.to (t0.trans t1) ok1) h1 fun v2 H2 d2 s2 t2 ok2 r2 h2 => ?_
  cases d2 with
  | int z =>
    cases r2
    have h2 : mutP s2 d1 fun h m => moL m fun ds => ∃ j, ixN ds.length z = some j ∧ Q Γ (s2.put h (.lst (ds.set j d'))) := h2
    obtain ⟨n, e, q1, q2, rfl, h3, rfl⟩ := mutP_of (r1.mono t2.ex) h2
    cases hm : e.o with
    | lst ds =>
      rw [hm] at h3
      obtain ⟨j, h4, h5⟩ := h3
      have h8 := ok2.ents e (mget_mem q1).1
      rw [hm] at h8
      obtain ⟨us, u2, u3, u4⟩ := h8
      obtain ⟨ok4, t4⟩ := ok2.put (o := .lst (us.set j v)) (m := .lst (ds.set j d')) q1 q2 (fun Hv ex => ⟨_, upd_same, (u3.mono ex).set (r0.mono ((t1.trans t2).ex.trans ex)), by rw [List.length_set]; exact u4⟩)
      have tt := ((t0.trans t1).trans t2).trans t4
      exact ⟨e.a, us, z, j, rfl, rfl, u2, by rw [u3.len]; exact h4, k _ _ _ _ tt (a.to tt ok4) h5⟩
    | nk _ _ _ => rw [hm] at h3; exact h3.elim
    | dct _ => rw [hm] at h3; exact h3.elim
    | obj _ _ => rw [hm] at h3; exact h3.elim
  | _ => exact h2.elim⟩
def wExt (wo : WE) (wa : WA) : WE := fun Γ s Q => wo Γ s fun o s1 => mutP s1 o fun _ m0 => moL m0 fun _ => wa Γ s1 fun args s2 => arg1 args fun d => seeP s2 d fun d' => asL d' fun es => mutP s2 o fun h m => moL m fun ds => ds.length + es.length ≤ sizeLine ∧ Q .non (s2.put h (.lst (ds ++ es)))
instance {to : TE} {ta : TA} {wo : WE} {wa : WA} [lo : LE K to wo] [l : LA K ta wa] : LE K (tBM K "list" rExtend to ta) (wExt wo wa) := ⟨fun {F s H σ Γ Q Q0} a h k => lo.go a h fun v1 H1 d1 s1 t1 ok1 r1 h1 => by
  obtain ⟨n, e, q1, q2, rfl, h2, rfl⟩ := mutP_of r1 h1
  cases hm : e.o with
  | lst ds0 =>
    rw [hm] at h2
    have h0 := ok1.ents e (mget_mem q1).1
    rw [hm] at h0
    obtain ⟨us0, u1, _, _⟩ := h0
    refine ⟨.inl ⟨rfl, us0, SqL.of u1⟩, l.go (a.to t1 ok1) h2 fun vs H2 ds s2 t2 ok2 r2 h3 => ?_⟩
    unfold arg1 at h3
    split at h3
    · cases r2 with
      | cons r q =>
        cases q
        obtain ⟨d', h4, r3⟩ := see ok2 r h3
        cases d' with
        | lst es =>
          obtain ⟨b, zs, rfl, z1, z2, z3⟩ := r3
          have h4 : mutP s2 (.loc e.a n) fun h m => moL m fun ds => ds.length + es.length ≤ sizeLine ∧ Q .non (s2.put h (.lst (ds ++ es))) := h4
          obtain ⟨n', e', q3, q4, hv, h5, hd⟩ := mutP_of (K := K) (F := F) (H := H2) (v := .ref e.a) (d := .loc e.a n) .loc h4
          injection hd with ea en
          subst en
          cases hm2 : e'.o with
          | lst ds1 =>
            rw [hm2] at h5
            obtain ⟨h6, h7⟩ := h5
            have h8 := ok2.ents e' (mget_mem q3).1
            rw [hm2] at h8
            obtain ⟨us, u2, u3, u4⟩ := h8
            obtain ⟨ok4, t4⟩ := ok2.put (o := .lst (us ++ zs)) (m := .lst (ds1 ++ es)) q3 q4 (fun Hv ex => ⟨_, upd_same, (u3.mono ex).app (z2.mono ex), by rw [List.length_append]; exact h6⟩)
            refine ⟨e.a, b, us, zs, rfl, rfl, by rw [ea]; exact u2, z1, by rw [u3.len, z2.len]; exact h6, ?_⟩
            rw [ea]
            exact k _ _ _ _ ((t1.trans t2).trans t4) ok4 .non h7
          | nk _ _ _ => rw [hm2] at h5; exact h5.elim
          | dct _ => rw [hm2] at h5; exact h5.elim
          | obj _ _ => rw [hm2] at h5; exact h5.elim
        | _ => exact h4.elim
    · exact h3.elim
  | nk _ _ _ => rw [hm] at h2; exact h2.elim
  | dct _ => rw [hm] at h2; exact h2.elim
  | obj _ _ => rw [hm] at h2; exact h2.elim⟩
def wPop (wo : WE) : WE := fun Γ s Q => wo Γ s fun o s1 => mutP s1 o fun h m => moL m fun ds => ∃ d, ds[ds.length - 1]? = some d ∧ Q d (s1.put h (.lst ds.dropLast))
instance {to : TE} {wo : WE} [lo : LE K to wo] : LE K (tBM0 K "list" rPop to) (wPop wo) := ⟨fun {F s H σ Γ Q Q0} a h k => lo.go a h fun v1 H1 d1 s1 t1 ok1 r1 h1 => by
  obtain ⟨n, e, q1, q2, rfl, h2, rfl⟩ := mutP_of r1 h1
  cases hm : e.o with
  | lst ds =>
    rw [hm] at h2
    obtain ⟨d, h3, h4⟩ := h2
    have h0 := ok1.ents e (mget_mem q1).1
    rw [hm] at h0
    obtain ⟨us, u1, u3, u4⟩ := h0
    obtain ⟨v, g1, g2⟩ := u3.get h3
    obtain ⟨ok4, t4⟩ := ok1.put (o := .lst us.dropLast) (m := .lst ds.dropLast) q1 q2 (fun Hv ex => ⟨_, upd_same, (u3.mono ex).dropLast, by rw [List.length_dropLast]; omega⟩)
    refine ⟨.inl ⟨rfl, us, SqL.of u1⟩, e.a, us, v, rfl, rfl, u1, by rw [u3.len]; exact g1, k _ _ _ _ (t1.trans t4) ok4 (g2.mono t4.ex) h4⟩
  | nk _ _ _ => rw [hm] at h2; exact h2.elim
  | dct _ => rw [hm] at h2; exact h2.elim
  | obj _ _ => rw [hm] at h2; exact h2.elim⟩
/-! ### fields -/
def putFD (f : Str) (d : D) : List (Str × D) → List (Str × D)
  | [] => [(f, d)]
  | (g, x) :: r => match decide (g = f) with
    | true => (g, d) :: r
    | false => (g, x) :: putFD f d r
theorem putF_rep {Hv : Hp} {f : Str} {v : V} {d : D} (q : Rep K Hv v d) : ∀ {fs : List (Str × V)} {gs : List (Str × D)}, RepF K Hv fs gs → RepF K Hv (putF f v fs) (putFD f d gs)
  | _, _, .nil => .cons q .nil
  | _, _, @RepF.cons _ _ g u x vs ds r1 r2 => by
    unfold putF putFD
    by_cases e : g = f
    · rw [if_pos e, decide_eq_true e]
      exact .cons q r2
    · rw [if_neg e, decide_eq_false e]
      exact .cons r1 (putF_rep q r2)
theorem RepF.len {Hv : Hp} : ∀ {fs : List (Str × V)} {gs : List (Str × D)}, RepF K Hv fs gs → fs.length = gs.length
  | _, _, .nil => rfl
  | _, _, .cons _ r => congrArg (· + 1) (RepF.len r)
def moO (m : MO) (k : Addr → List (Str × D) → Prop) : Prop := match m with
  | .obj C fs => k C fs
  | _ => False
def wSetF (K : PySem.W.Frag) (f : Str) (wo wv : WE) : WS := fun e Γ s => wv Γ s fun d s1 => wo Γ s1 fun o s2 => escP s2 d fun d' s3 => mutP s3 o fun h m => moO m fun C fs => ((Cls K C ∧ NoAttr K C f) ∧ fs.length < 1000) ∧ e.nx Γ (s3.put h (.obj C (putFD f d' fs)))
instance {f : Str} {to tv : TE} {wo wv : WE} [lo : LE K to wo] [lv : LE K tv wv] : LS K (sFld K to tv f) (wSetF K f wo wv) := ⟨fun {F s H σ Γ e D0} a h k => lv.go a h fun v1 H1 d1 s1 t1 ok1 r1 h1 => lo.go (a.to t1 ok1) h1 fun v2 H2 d2 s2 t2 ok2 r2 h2 => by
  obtain ⟨d', s3, h3, ok3, t3, r3⟩ := esc ok2 (r1.mono t2.ex) h2
  obtain ⟨n, x, q1, q2, rfl, h4, rfl⟩ := mutP_of (r2.mono t3.ex) h3
  cases hm : x.o with
  | obj C fs =>
    rw [hm] at h4
    obtain ⟨⟨⟨c1, c2⟩, c3⟩, h5⟩ := h4
    have h0 := ok3.ents x (mget_mem q1).1
    rw [hm] at h0
    obtain ⟨dx, us, u1, u2⟩ := h0
    obtain ⟨ok4, t4⟩ := ok3.put (o := .ins C dx (putF f v1 us)) (m := .obj C (putFD f d' fs)) q1 q2 (fun Hv ex => ⟨dx, _, upd_same, putF_rep (r3.mono ex) (u2.mono ex)⟩)
    have tt := ((t1.trans t2).trans t3).trans t4
    exact ⟨x.a, C, dx, us, rfl, u1, c1, c2, by rw [u2.len]; exact c3, k.nx _ _ _ _ tt (a.to tt ok4) h5⟩
  | nk _ _ _ => rw [hm] at h4; exact h4.elim
  | lst _ => rw [hm] at h4; exact h4.elim
  | dct _ => rw [hm] at h4; exact h4.elim⟩
/-! ### dicts -/
def putKD (kvs : List (Key × D)) (k : Key) (d : D) : List (Key × D) := match kvs with
  | [] => [(k, d)]
  | (k', x) :: r => if k' = k then (k', d) :: r else (k', x) :: putKD r k d
def moD (m : MO) (k : List (Key × D) → Prop) : Prop := match m with
  | .dct kvs => k kvs
  | _ => False
theorem any_rep {Hv : Hp} {k : Key} : ∀ {ks : List (Key × V)} {gs : List (Key × D)}, RepK K Hv ks gs → (ks.any fun kv => decide (kv.1 = k)) = (gs.any fun kv => decide (kv.1 = k))
  | _, _, .nil => rfl
  | _, _, .cons _ r => by rw [List.any_cons, List.any_cons, any_rep r]
theorem map_rep {Hv : Hp} {k : Key} {v : V} {d : D} (q : Rep K Hv v d) : ∀ {ks : List (Key × V)} {gs : List (Key × D)}, RepK K Hv ks gs → RepK K Hv (ks.map fun kv => if kv.1 = k then (kv.1, v) else kv) (gs.map fun kv => if kv.1 = k then (kv.1, d) else kv)
  | _, _, .nil => .nil
  | _, _, @RepK.cons _ _ k' u x vs ds r1 r2 => by
    rw [List.map_cons, List.map_cons]
    by_cases e : k' = k
    · rw [if_pos e, if_pos e]; exact .cons q (map_rep q r2)
    · rw [if_neg e, if_neg e]; exact .cons r1 (map_rep q r2)
theorem appK_rep {Hv : Hp} : ∀ {ks ls : List (Key × V)} {gs hs : List (Key × D)}, RepK K Hv ks gs → RepK K Hv ls hs → RepK K Hv (ks ++ ls) (gs ++ hs)
  | _, _, _, _, .nil, s => s
  | _, _, _, _, .cons h r, s => .cons h (appK_rep r s)
/-- as the layer puts a pair -/
def putKE (kvs : List (Key × D)) (k : Key) (d : D) : List (Key × D) := if (kvs.any fun kv => decide (kv.1 = k)) = true then kvs.map (fun kv => if kv.1 = k then (kv.1, d) else kv) else kvs ++ [(k, d)]
theorem putK_rep {Hv : Hp} {k : Key} {v : V} {d : D} (q : Rep K Hv v d) {ks : List (Key × V)} {gs : List (Key × D)} (r : RepK K Hv ks gs) : RepK K Hv (putK ks k v) (putKE gs k d) := by
  unfold putK putKE
  rw [any_rep r]
  split
  · exact map_rep q r
  · exact appK_rep r (.cons q .nil)
theorem putKE_len (gs : List (Key × D)) (k : Key) (d : D) : (putKE gs k d).length ≤ gs.length + 1 := by
  unfold putKE
  split
  · rw [List.length_map]; omega
  · rw [List.length_append]; exact Nat.le_refl _
def wDPut (wd wy wv : WE) : WS := fun e Γ s => wv Γ s fun d s1 => wd Γ s1 fun o s2 => wy Γ s2 fun y s3 => escP s3 d fun d' s4 => mutP s4 o fun h m => moD m fun kvs => match keyD y with
  | some ky => kvs.length < sizeLine ∧ e.nx Γ (s4.put h (.dct (putKE kvs ky d')))
  | none => False
instance {td ty tv : TE} {wd wy wv : WE} [ld : LE K td wd] [ly : LE K ty wy] [lv : LE K tv wv] : LS K (sDPut td ty tv) (wDPut wd wy wv) := ⟨fun {F s H σ Γ e D0} a h k => lv.go a h fun v1 H1 d1 s1 t1 ok1 r1 h1 => ld.go (a.to t1 ok1) h1 fun v2 H2 d2 s2 t2 ok2 r2 h2 => ly.go (a.to (t1.trans t2) ok2) h2 fun v3 H3 d3 s3 t3 ok3 r3 h3 => by
  obtain ⟨d', s4, h4, ok4, t4, r4⟩ := esc ok3 (r1.mono (t2.trans t3).ex) h3
  obtain ⟨n, x, q1, q2, rfl, h5, rfl⟩ := mutP_of (r2.mono (t3.trans t4).ex) h4
  cases hm : x.o with
  | dct kvs =>
    rw [hm] at h5
    unfold moD at h5
    simp only at h5
    cases hk : keyD d3 with
    | none => rw [hk] at h5; exact h5.elim
    | some ky =>
      rw [hk] at h5
      obtain ⟨c1, h6⟩ := h5
      have h0 := ok4.ents x (mget_mem q1).1
      rw [hm] at h0
      obtain ⟨us, u1, u2, u3⟩ := h0
      have hy := keyD_v (r3.w vis_ex) hk
      obtain ⟨ok5, t5⟩ := ok4.put (o := .dK (putK us ky v1)) (m := .dct (putKE kvs ky d')) q1 q2 (fun Hv ex => ⟨_, upd_same, putK_rep (r4.mono ex) (u2.mono ex), by have := putKE_len kvs ky d'; omega⟩)
      have tt := (((t1.trans t2).trans t3).trans t4).trans t5
      refine ⟨x.a, _, rfl, ?_, k.nx _ _ _ _ tt (a.to tt ok5) h6⟩
      rw [hy]
      exact DPut.k u1 (by rw [u2.len]; exact c1)
  | nk _ _ _ => rw [hm] at h5; exact h5.elim
  | lst _ => rw [hm] at h5; exact h5.elim
  | obj _ _ => rw [hm] at h5; exact h5.elim⟩
/-! ### whole defs -/
def deOf (Q : D → Nat → Prop) : DE := ⟨fun _ s => Q .non s.n, fun d s => Q d s.n, fun _ _ => False, fun _ _ => False⟩
def startG (N : List Str) (args : List D) : Ga := args.map some ++ List.replicate (N.length - args.length) none
theorem look_app : ∀ {a b : Ga} {i : Nat}, look (a ++ b) i = if i < a.length then look a i else look b (i - a.length)
  | [], b, i => by simp
  | x :: r, b, 0 => by simp [look]
  | x :: r, b, i + 1 => by
    show look (r ++ b) i = _
    rw [look_app]
    by_cases h : i < r.length
    · rw [if_pos h, if_pos (by simp; omega)]; rfl
    · rw [if_neg h, if_neg (by simp; omega)]
      congr 1
      simp
theorem look_rep : ∀ {n i : Nat}, look (List.replicate n none) i = none
  | 0, _ => rfl
  | n + 1, 0 => rfl
  | n + 1, i + 1 => look_rep (n := n)
theorem look_map : ∀ {ds : List D} {i : Nat}, look (ds.map some) i = ds[i]?
  | [], i => by cases i <;> rfl
  | _ :: _, 0 => rfl
  | d :: r, i + 1 => look_map (ds := r)
theorem start_rep {Hv : Hp} {N : List Str} {vs : List V} {args : List D} (r : RepL K Hv vs args) : RepG K Hv (L2.start N vs) (startG N args) := by
  refine ⟨by unfold L2.start startG; simp [r.len], fun i d h => ?_⟩
  unfold startG at h
  rw [look_app] at h
  by_cases hi : i < (args.map some).length
  · rw [if_pos hi, look_map] at h
    obtain ⟨v, h1, h2⟩ := r.get h
    refine ⟨v, ?_, h2⟩
    unfold L2.start
    have : i < vs.length := (List.getElem?_eq_some_iff.mp h1).1
    rw [List.getElem?_append_left (by simpa using this), List.getElem?_map, h1]
    rfl
  · rw [if_neg hi, look_rep] at h
    cases h
def S.done (s : S) : S := { s with M := [] }
theorem OkS.done {K : PySem.W.Frag} {F : Fr} {s : S} {H : Hp} (ok : OkS K F s H) : OkS K F s.done H ∧ Tr F s H s.done H :=
  ok.less (fun e he => nomatch he) List.nodup_nil rfl (Nat.le_refl _)
theorem done_eq (s : S) {n : Nat} {pn : Option (Addr × Addr)} (h : s.pn = pn) : s.done = st0 s.n pn := by
  subst h; rfl
theorem up_len {dsp : DSp} {m : Nat} (hl : ∀ pn args n Q X, dsp pn args n Q X → args.length = m) {vs : List V} {Q : VK} {E : XK} (h : upSp K dsp vs H Q E) : vs.length = m := by
  obtain ⟨F, args, pn, n, Qd, Xd, r, _, h, _⟩ := h
  rw [r.len]
  exact hl _ _ _ _ _ h
/-- a body without raises -/
theorem go_up {dsp : DSp} {N : List Str} {t : TS} {w : WS} {vs : List V} {Q : VK} {E : XK} (h : upSp K dsp vs H Q E) [l : LS K t w] (hw : ∀ pn args n Qd Xd, dsp pn args n Qd Xd → w (deOf Qd) (startG N args) (st0 n pn)) : t { nx := fun _ H' => Q .non H', rt := Q } (L2.start N vs) H := by
  obtain ⟨F, args, pn, n, Qd, Xd, r, ok, h, k, _⟩ := h
  have fin : ∀ v H' d s', Tr F (st0 n pn) H s' H' → OkS K F s' H' → Rep K (vis F s' H') v d → Qd d s'.n → Q v H' := fun v H' d s' t ok' r' q => by
    obtain ⟨o1, o2⟩ := ok'.done
    have e : s'.done = st0 s'.n pn := done_eq s' (n := n) t.pn
    rw [e] at o1 o2
    exact k v H' d s'.n (t.trans o2) o1 (r'.mono o2.ex) q
  exact l.go (σ := L2.start N vs) ⟨start_rep r, ok⟩ (hw pn args n Qd Xd h) ⟨fun σ' H' Γ' s' t a' q => fin _ H' .non s' t a'.ok .non q, fun v H' d s' t ok' r' q => fin v H' d s' t ok' r' q, fun _ _ _ _ _ _ q => q.elim, fun _ _ _ _ _ _ q => q.elim⟩
def startI (N : List Str) (x : Addr) (args : List D) : Ga := startG N (.loc x 0 :: args)
def deIn (x C : Addr) (Q : List (Str × D) → Nat → Prop) : DE := ⟨fun _ s => mutP s (.loc x 0) fun _ m => moO m fun C' fs => C' = C ∧ Q fs s.n, fun d s => match d with
  | .non => mutP s (.loc x 0) fun _ m => moO m fun C' fs => C' = C ∧ Q fs s.n
  | _ => False, fun _ _ => False, fun _ _ => False⟩
/-- the body of an __init__ -/
theorem go_in {C : Addr} {dsp : DIn} {N : List Str} {t : TS} {w : WS} {vs : List V} {Q : VK} {E : XK} (h : upIn K C dsp vs H Q E) [l : LS K t w] (hw : ∀ x pn args n Qd Xd, dsp pn args n Qd Xd → w (deIn x C Qd) (startI N x args) (st1 x C [] n pn)) : t { nx := fun _ H' => Q .non H', rt := Q } (L2.start N vs) H := by
  obtain ⟨F, x, rest, args, pn, n, Qd, Xd, rfl, r, ok, h, k, _⟩ := h
  have fin : ∀ H' s', Tr F (st1 x C [] n pn) H s' H' → OkS K F s' H' → (mutP s' (.loc x 0) fun _ m => moO m fun C' fs => C' = C ∧ Qd fs s'.n) → Q .non H' := fun H' s' t ok' q => by
    obtain ⟨m, e, q1, q2, q3, q4, q5⟩ := mutP_of (K := K) (F := F) (H := H') (v := .ref x) .loc q
    injection q5 with ea en
    subst en
    obtain ⟨hm1, hm2⟩ := mget_mem q1
    obtain ⟨eh, ea2, eo, ef⟩ := e
    simp only at ea hm2 q2 q4
    subst ea hm2 q2
    cases eo with
    | obj C' fs =>
      obtain ⟨rfl, q4⟩ := q4
      have hless := ok'.less (s' := st1 x C' fs s'.n pn) (fun e he => ⟨e, by rw [List.mem_singleton.mp he]; exact hm1, rfl, rfl, id⟩) (by simp) t.pn.symm (Nat.le_refl _)
      exact k H' fs s'.n (t.trans hless.2) hless.1 q4
    | nk _ _ _ => exact q4.elim
    | lst _ => exact q4.elim
    | dct _ => exact q4.elim
  exact l.go (σ := L2.start N (.ref x :: rest)) ⟨start_rep (.cons .loc r), ok⟩ (hw x pn args n Qd Xd h) ⟨fun σ' H' Γ' s' t a' q => fin H' s' t a'.ok q, fun v H' d s' t ok' r' q => by
    cases d with
    | non => cases r'; exact fin H' s' t ok' q
    | _ => exact q.elim, fun _ _ _ _ _ _ q => q.elim, fun _ _ _ _ _ _ q => q.elim⟩
theorem in_len {C : Addr} {dsp : DIn} {m : Nat} (hl : ∀ pn args n Q X, dsp pn args n Q X → args.length = m) {vs : List V} {Q : VK} {E : XK} (h : upIn K C dsp vs H Q E) : vs.length = m + 1 := by
  obtain ⟨F, x, rest, args, pn, n, Qd, Xd, rfl, r, _, h, _⟩ := h
  rw [List.length_cons, r.len, hl _ _ _ _ _ h]
end
end Da
namespace Da
open PySem PySem.Spec PyProof.Rows L2 Evl Hd
/-! ### promises by the number of arguments -/
abbrev R0 := Option (Addr × Addr) → Nat → (D → Nat → Prop) → XD → Prop
abbrev R1 := Option (Addr × Addr) → D → Nat → (D → Nat → Prop) → XD → Prop
abbrev R2' := Option (Addr × Addr) → D → D → Nat → (D → Nat → Prop) → XD → Prop
abbrev R3 := Option (Addr × Addr) → D → D → D → Nat → (D → Nat → Prop) → XD → Prop
abbrev R4 := Option (Addr × Addr) → D → D → D → D → Nat → (D → Nat → Prop) → XD → Prop
def sp0 (f : R0) : DSp := fun pn args n Q X => match args with
  | [] => f pn n Q X
  | _ => False
def sp1 (f : R1) : DSp := fun pn args n Q X => match args with
  | [a] => f pn a n Q X
  | _ => False
def sp2 (f : R2') : DSp := fun pn args n Q X => match args with
  | [a, b] => f pn a b n Q X
  | _ => False
def sp3 (f : R3) : DSp := fun pn args n Q X => match args with
  | [a, b, c] => f pn a b c n Q X
  | _ => False
def sp4 (f : R4) : DSp := fun pn args n Q X => match args with
  | [a, b, c, d] => f pn a b c d n Q X
  | _ => False
section
variable {K : PySem.W.Frag} {H : Hp} {vs : List V} {Q : VK} {E : XK}
theorem sp0_of {f : R0} {pn args n Q X} (h : sp0 f pn args n Q X) : args = [] ∧ f pn n Q X := by
  unfold sp0 at h; split at h
  · exact ⟨rfl, h⟩
  · exact h.elim
theorem sp1_of {f : R1} {pn args n Q X} (h : sp1 f pn args n Q X) : ∃ a, args = [a] ∧ f pn a n Q X := by
  unfold sp1 at h; split at h
  · exact ⟨_, rfl, h⟩
  · exact h.elim
theorem sp2_of {f : R2'} {pn args n Q X} (h : sp2 f pn args n Q X) : ∃ a b, args = [a, b] ∧ f pn a b n Q X := by
  unfold sp2 at h; split at h
  · exact ⟨_, _, rfl, h⟩
  · exact h.elim
theorem sp3_of {f : R3} {pn args n Q X} (h : sp3 f pn args n Q X) : ∃ a b c, args = [a, b, c] ∧ f pn a b c n Q X := by
  unfold sp3 at h; split at h
  · exact ⟨_, _, _, rfl, h⟩
  · exact h.elim
theorem sp4_of {f : R4} {pn args n Q X} (h : sp4 f pn args n Q X) : ∃ a b c d, args = [a, b, c, d] ∧ f pn a b c d n Q X := by
  unfold sp4 at h; split at h
  · exact ⟨_, _, _, _, rfl, h⟩
  · exact h.elim
theorem up_len0 {f : R0} (h : upSp K (sp0 f) vs H Q E) : vs.length = 0 := up_len (fun _ _ _ _ _ h => by rw [(sp0_of h).1]; rfl) h
theorem up_len1 {f : R1} (h : upSp K (sp1 f) vs H Q E) : vs.length = 1 := up_len (fun _ _ _ _ _ h => by obtain ⟨_, e, _⟩ := sp1_of h; rw [e]; rfl) h
theorem up_len2 {f : R2'} (h : upSp K (sp2 f) vs H Q E) : vs.length = 2 := up_len (fun _ _ _ _ _ h => by obtain ⟨_, _, e, _⟩ := sp2_of h; rw [e]; rfl) h
theorem up_len3 {f : R3} (h : upSp K (sp3 f) vs H Q E) : vs.length = 3 := up_len (fun _ _ _ _ _ h => by obtain ⟨_, _, _, e, _⟩ := sp3_of h; rw [e]; rfl) h
theorem up_len4 {f : R4} (h : upSp K (sp4 f) vs H Q E) : vs.length = 4 := up_len (fun _ _ _ _ _ h => by obtain ⟨_, _, _, _, e, _⟩ := sp4_of h; rw [e]; rfl) h
variable {N : List Str} {t : TS} {w : WS}
theorem go_up0 {f : R0} (h : upSp K (sp0 f) vs H Q E) [l : LS K t w] (hw : ∀ pn n Qd Xd, f pn n Qd Xd → w (deOf Qd) (startG N []) (st0 n pn)) : t { nx := fun _ H' => Q .non H', rt := Q } (L2.start N vs) H :=
  go_up h fun pn args n Qd Xd q => by obtain ⟨rfl, q⟩ := sp0_of q; exact hw pn n Qd Xd q
theorem go_up1 {f : R1} (h : upSp K (sp1 f) vs H Q E) [l : LS K t w] (hw : ∀ pn a n Qd Xd, f pn a n Qd Xd → w (deOf Qd) (startG N [a]) (st0 n pn)) : t { nx := fun _ H' => Q .non H', rt := Q } (L2.start N vs) H :=
  go_up h fun pn args n Qd Xd q => by obtain ⟨a, rfl, q⟩ := sp1_of q; exact hw pn a n Qd Xd q
theorem go_up2 {f : R2'} (h : upSp K (sp2 f) vs H Q E) [l : LS K t w] (hw : ∀ pn a b n Qd Xd, f pn a b n Qd Xd → w (deOf Qd) (startG N [a, b]) (st0 n pn)) : t { nx := fun _ H' => Q .non H', rt := Q } (L2.start N vs) H :=
  go_up h fun pn args n Qd Xd q => by obtain ⟨a, b, rfl, q⟩ := sp2_of q; exact hw pn a b n Qd Xd q
theorem go_up3 {f : R3} (h : upSp K (sp3 f) vs H Q E) [l : LS K t w] (hw : ∀ pn a b c n Qd Xd, f pn a b c n Qd Xd → w (deOf Qd) (startG N [a, b, c]) (st0 n pn)) : t { nx := fun _ H' => Q .non H', rt := Q } (L2.start N vs) H :=
  go_up h fun pn args n Qd Xd q => by obtain ⟨a, b, c, rfl, q⟩ := sp3_of q; exact hw pn a b c n Qd Xd q
theorem go_up4 {f : R4} (h : upSp K (sp4 f) vs H Q E) [l : LS K t w] (hw : ∀ pn a b c d n Qd Xd, f pn a b c d n Qd Xd → w (deOf Qd) (startG N [a, b, c, d]) (st0 n pn)) : t { nx := fun _ H' => Q .non H', rt := Q } (L2.start N vs) H :=
  go_up h fun pn args n Qd Xd q => by obtain ⟨a, b, c, d, rfl, q⟩ := sp4_of q; exact hw pn a b c d n Qd Xd q
end
end Da
namespace Da
open PySem PySem.Spec PyProof.Rows L2 Evl Hd
/-! ### draws -/
/-- a number below m: one draw more -/
@[irreducible] def dDraw : R2' := fun pn a b n Q _ => ∃ p q, pn = some (p, q) ∧ a = .val (.ref p) ∧ ∃ m, b = .int m ∧ (n < 549755813888 ∧ 0 < m ∧ m < 1606938044258990275541962092341162602522202993782792835301376) ∧ ∀ r, 0 ≤ r → r < m → Q (.int r) (n + 1)
theorem i_draw {p q : Addr} {m : Int} {n : Nat} {Q : D → Nat → Prop} {X : XD} (h : n < 549755813888 ∧ 0 < m ∧ m < 1606938044258990275541962092341162602522202993782792835301376) (k : ∀ r, 0 ≤ r → r < m → Q (.int r) (n + 1)) : dDraw (some (p, q)) (.val (.ref p)) (.int m) n Q X := by
  delta dDraw
  exact ⟨p, q, rfl, rfl, m, rfl, h, k⟩
theorem draw_up {K : PySem.W.Frag} {vs : List V} {H : Hp} {Q : VK} {E : XK} (h : upSp K (sp2 dDraw) vs H Q E) : ∃ (p q : Addr) (m s : Int), vs = [.ref p, .int m] ∧ Pen H p q s ∧ s < 1099511627776 ∧ 0 < m ∧ m < 1606938044258990275541962092341162602522202993782792835301376 ∧ ∀ r H', 0 ≤ r → r < m → Pen H' p q (s + 1) → But2 p q H H' → Q (.int r) H' := by
  obtain ⟨F, args, pn, n, Qd, Xd, r, ok, h, k, _⟩ := h
  obtain ⟨a, b, rfl, hd⟩ := sp2_of h
  delta dDraw at hd
  obtain ⟨p, q, rfl, rfl, m, rfl, ⟨n1, m0, m1⟩, h⟩ := hd
  obtain ⟨⟨z, hz, hzn⟩, _⟩ := ok.pen p q rfl
  cases r with
  | cons r1 r2 =>
    cases r2 with
    | cons r2 r3 =>
      cases r3
      cases r1
      cases r2
      have hzn : z ≤ (n : Int) := hzn
      refine ⟨p, q, m, z, rfl, hz, by omega, m0, m1, fun r H' r0 r1 pen' but => ?_⟩
      obtain ⟨f1, f2⟩ := ok.frP p q rfl
      have nf : ∀ a, F a = true → a ≠ p ∧ a ≠ q := fun a ha => ⟨fun e => (by rw [e, f1] at ha; cases ha), fun e => (by rw [e, f2] at ha; cases ha)⟩
      have fr : ∀ a, F a = true → H' a = H a := fun a ha => but a (nf a ha).1 (nf a ha).2
      refine k (.int r) H' (.int r) (n + 1) ⟨fun a o e => ?_, fr, rfl⟩ ⟨fun e he => (nomatch he), List.nodup_nil, fun p' q' e => ?_, fun a ha => by rw [fr a ha]; exact ok.fr a ha, fun e he => (nomatch he), ok.frP⟩ .int (h r r0 r1)
      · obtain ⟨h1, h2⟩ := vis_iff.mp e
        have h3 := h1
        unfold S.hid S.hidP at h3
        simp only [Bool.or_eq_false_iff, beq_eq_false_iff_ne] at h3
        exact vis_iff.mpr ⟨h1, by rw [but a h3.2.1 h3.2.2]; exact h2⟩
      · cases e
        exact ⟨⟨z + 1, pen', by show z + 1 ≤ ((n + 1 : Nat) : Int); omega⟩, fun e he => (nomatch he)⟩
end Da

/-! The layer's rules with the written part as a letter of its own, so that a reading says nothing of the context (own). -/
namespace Da
open PySem PySem.Spec PyProof.Rows L2 Evl Hd RZ
section
variable {X : Cx} {K : PySem.W.Frag} (hK : X.K = K)
include hK
theorem gK {e : Expr} {v : V} {d : D} (h : ∀ H, Rep K H v d) (p : PE X e (tC v)) : PE X e (tCg v d h) := p
theorem addK : OpR X (binaryOp .Add) (rAddA K) := by subst hK; exact op_addA
theorem mulK : OpR X (binaryOp .Mult) (rMulA K) := by subst hK; exact op_mulA
theorem eqK (hu : X.A.units + 64 < cLine) : OpR X (compareOp .Eq) (rEqA K) := by subst hK; exact op_eqA hu
theorem neK (hu : X.A.units + 64 < cLine) : OpR X (compareOp .NotEq) (rNeA K) := by subst hK; exact op_neA hu
theorem inK (hu : X.A.units + 65 < cLine) : OpR X (compareOp .In) (rInA K false) := by subst hK; exact op_inA hu
theorem ninK (hu : X.A.units + 65 < cLine) : OpR X (compareOp .NotIn) (rInA K true) := by subst hK; exact op_ninA hu
theorem ixK : IxR X (rIx K) := by subst hK; exact ix_seq
theorem slK : SlR X (rSlX K) := by subst hK; exact sl_any
theorem lenK : CallR X (.builtin "len") (rLen0 K) := by subst hK; exact call_len
theorem listK : CallR X (.type "list") (rListO K) := by subst hK; exact call_list_of
theorem tupleK : CallR X (.type "tuple") (Nr.rTup K) := by subst hK; exact Nr.call_tupR
theorem sumK (hc : X.calm = true) : CallR X (.builtin "sum") (rSum K) := by subst hK; exact cr_sum hc
theorem allK (hc : X.calm = true) : CallR X (.builtin "all") (rAll K) := by subst hK; exact cr_all hc
theorem anyK (hc : X.calm = true) : CallR X (.builtin "any") (rAny K) := by subst hK; exact cr_any hc
theorem maxK (hc : X.calm = true) : CallR X (.builtin "max") (L2.rMax K) := by subst hK; exact cr_max hc
theorem minK (hc : X.calm = true) : CallR X (.builtin "min") (L2.rMin K) := by subst hK; exact cr_min hc
theorem isiK : CallR X (.builtin "isinstance") (rIsi K) := by subst hK; exact call_isi
theorem fldK {e : Expr} {f : Str} {ta : TE} {pos : Pos} (he : PE X e ta) (hb : attributeBase e f X.env (eval e X.env) = eval e X.env) : PE X (.Attribute e f pos) (tFld K ta f) := by subst hK; exact pe_fld he hb
theorem bm0K {T name : _} {id : String} {r : V → List V → Hp → VK → Prop} {o : Expr} {to : TE} {apos cpos : Pos} (pa : PlainAttrs T) (slot : Slot T name id) (hty : typeOf (.builtin id) = pure (.type "method_descriptor")) (hm : MtR X id r) (ho : PE X o to)
    (hbase : attributeBase o name X.env (eval o X.env) = eval o X.env := by rfl) (hline : (apos.endLine == cpos.line) = true := by rfl) : PE X (.Call (.Attribute o name apos) [] [] cpos) (tBM0 K T r to) := by subst hK; exact pe_bm0 pa slot hty hm ho hbase hline
theorem bmK {T name : _} {id : String} {r : V → List V → Hp → VK → Prop} {o e : Expr} {es : List Expr} {to : TE} {t : TA} {apos cpos : Pos} (pa : PlainAttrs T) (slot : Slot T name id) (hty : typeOf (.builtin id) = pure (.type "method_descriptor")) (hm : MtR X id r) (ho : PE X o to) (ha : PA X (e :: es) t)
    (hbase : attributeBase o name X.env (eval o X.env) = eval o X.env := by rfl)
    (hfew : ((backTo cpos (starEach (e :: es) X.env)).all (fun x => !x.1) && (backToKw cpos (keywordEach [] X.env)).all (fun x => x.1.isSome)
      && decide ((e :: es).length + ([] : List Keyword).length + (if ([] : List Keyword).isEmpty then 0 else 1) < 30)) = true := by rfl)
    (hline : (apos.endLine == cpos.line) = true := by rfl) (hs : starEach (e :: es) X.env = (false, eval e X.env) :: starEach es X.env := by rfl) (hplain : (backTo cpos (starEach es X.env)).any (·.1) = false := by rfl) :
    PE X (.Call (.Attribute o name apos) (e :: es) [] cpos) (tBM K T r to t) := by subst hK; exact pe_bm pa slot hty hm ho ha hbase hfew hline hs hplain
theorem gtupK {es : List Expr} {k : Nat} {t : TGs} {n : Nat} {pos : Pos} (hc : X.calm = true) (h : PGs X es t)
    (hn : (assignEach es X.env).length = n := by rfl) (hst : (assignEach es X.env).findIdx? (·.1) = none := by rfl) : PG X (.Tuple es k pos) (gTup K n t) := by subst hK; exact pg_tup hc h hn hst
theorem seqK {tg l : Expr} {tl : TE} (hl : PE X l tl) : PI X tg l (Nr.iSeq K tl) := by subst hK; exact Nr.pi_seq hl
theorem enumK {e : Expr} {ta : TA} {p pos tpos : Pos} {elts : List Expr} {kk : Nat} (hg : Gl X "enumerate") (hm : X.mg "enumerate" = none) (ha : PA X [e] ta) (hs : starEach [e] X.env = [(false, eval e X.env)] := by rfl) :
    PI X (.Tuple elts kk tpos) (.Call (.Name "enumerate" p) [e] [] pos) (iEnum K ta) := by subst hK; exact pi_enum hg hm ha hs
theorem enumTK {e : Expr} {ta : TA} {p pos tpos : Pos} {elts : List Expr} {kk : Nat} (hg : Gl X "enumerate") (hm : X.mg "enumerate" = none) (ha : PA X [e] ta) (hs : starEach [e] X.env = [(false, eval e X.env)] := by rfl) :
    PI X (.Tuple elts kk tpos) (.Call (.Name "enumerate" p) [e] [] pos) (En.iEnumT K ta) := by subst hK; exact En.pi_enumT hg hm ha hs
theorem zipK {e e2 : Expr} {ta : TA} {p pos tpos : Pos} {elts : List Expr} {kk : Nat} (hg : Gl X "zip") (hm : X.mg "zip" = none) (ha : PA X [e, e2] ta)
    (hs : starEach [e, e2] X.env = (false, eval e X.env) :: starEach [e2] X.env := by rfl) (hpl : (backTo pos (starEach [e2] X.env)).any (·.1) = false := by rfl) :
    PI X (.Tuple elts kk tpos) (.Call (.Name "zip" p) [e, e2] [] pos) (iZipA K ta) := by subst hK; exact pi_zipA hg hm ha hs hpl
theorem setfK {o value : Expr} {ta tv : TE} {f : Str} {pos pos' : Pos} (ha : PE X o ta) (hv : PE X value tv) (hs : swapsWith value (some (.Attribute o f pos')) pos.line X.env = pure false) : PS X (.Assign [.Attribute o f pos'] value pos) (sFld K ta tv f) := by subst hK; exact ps_fld ha hv hs
theorem starK {e : Expr} {es : List Expr} {te : TE} {t : TA} {p : Pos} (he : PE X e te) (hr : PA X es t) (hs : starEach (.Starred e p :: es) X.env = (true, eval e X.env) :: starEach es X.env := by rfl) : PA X (.Starred e p :: es) (Nr.tStar K te t) := by subst hK; exact Nr.pa_star he hr hs
theorem orTK {a b : Expr} {rest : List Expr} {ta tb : TE} {pos : Pos} (ha : PE X a ta) (hb : PE X (.BoolOp .Or (b :: rest) pos) tb) : PE X (.BoolOp .Or (a :: b :: rest) pos) (tOrT K ta tb) := by subst hK; exact pe_orT ha hb
end
/-! ### zip -/
section
variable {K : PySem.W.Frag} {F : Fr} {s : S} {H : Hp}
theorem walk_zipT {a b : Addr} {xs ys : List V} {n : Nat} (hn : n = min xs.length ys.length) : Walk (ItzT K a b) n (fun H => SqT K H a xs ∧ SqT K H b ys) (YPair (fun i => xs[i]?) (fun i => ys[i]?)) := by
  subst hn
  refine ⟨fun i _ hi q => ?_, fun _ q => ⟨xs, ys, q.1, q.2, by omega⟩, fun i H v H' _ q y => ?_⟩
  · have h1 : i < xs.length := by omega
    have h2 : i < ys.length := by omega
    exact ⟨xs, ys, xs[i], ys[i], q.1, q.2, by simp [h1], by simp [h2]⟩
  · obtain ⟨T, x, y', h1, h2, h3, h4, h5⟩ := y
    exact ⟨T, x, y', h1, h2, h3, h4 xs q.1, h5 ys q.2⟩
def zipSrc (d e : D) (k : Src → Prop) : Prop := match d, e with
  | .lst ds, .lst es => k (.zip ds es)
  | .tup ds, .tup es => k (.zip ds es)
  | _, _ => False
def wiZip (w : WA) : WI := fun Γ s Q => w Γ s fun ds s1 => escA s1 ds fun ds' s2 => match ds' with
  | [d, e] => zipSrc d e fun src => Q src s2
  | _ => False
instance {ta : TA} {w : WA} [l : LA K ta w] : LI K (iZipA K ta) (wiZip w) := ⟨fun {F s H σ Γ Q R} a h k => l.go a h fun vs H1 ds s1 t1 ok1 r1 h1 => by
  obtain ⟨ds', s2, h2, ok2, t2, r2⟩ := escs ok1 r1 h1
  split at h2
  · rename_i d e
    cases r2 with
    | cons q1 q2 =>
      cases q2 with
      | cons q2 q3 =>
        cases q3
        unfold zipSrc at h2
        split at h2
        · rename_i es fs
          cases q1 with
          | @lst b xs _ g1 g2 g3 =>
            cases q2 with
            | @lst c ys _ g4 g5 g6 =>
              refine ⟨b, c, xs, ys, rfl, .inl ⟨SqL.of (vis_ex _ _ g1), SqL.of (vis_ex _ _ g4), k _ _ _ _ (t1.trans t2) ok2 ⟨⟨_, _, walk_zip (n := (Src.zip es fs).n) (xs := xs) (ys := ys) (by rw [g2.len, g5.len]; rfl), fun F2 s2 H2 e _ => ⟨SqL.of (vis_ex _ _ (e _ _ g1)), SqL.of (vis_ex _ _ (e _ _ g4))⟩, fun F2 i s2 H2 x H3 hi e ok y => ?_⟩⟩ h2⟩⟩
              obtain ⟨T, u, v, rfl, hT, h3, e1, e2⟩ := y
              obtain ⟨dd, h4, h5⟩ := g2.get' e1
              obtain ⟨ee, h6, h7⟩ := g5.get' e2
              obtain ⟨q1, q2, q3, q4⟩ := new_pair ok hT h3 (h5.mono e) (h7.mono e)
              exact ⟨_, by show (match es[i]?, fs[i]? with | some d, some e => some (D.tup [d, e]) | _, _ => none) = _; rw [h4, h6], q1, q2, q3, q4⟩
        · rename_i es fs
          cases q1 with
          | @tup b xs _ g1 g2 g3 =>
            cases q2 with
            | @tup c ys _ g4 g5 g6 =>
              refine ⟨b, c, xs, ys, rfl, .inr ⟨ex_t vis_ex g1, ex_t vis_ex g4, k _ _ _ _ (t1.trans t2) ok2 ⟨⟨_, _, walk_zipT (n := (Src.zip es fs).n) (xs := xs) (ys := ys) (by rw [g2.len, g5.len]; rfl), fun F2 s2 H2 e _ => ⟨ex_t vis_ex (ex_t e g1), ex_t vis_ex (ex_t e g4)⟩, fun F2 i s2 H2 x H3 hi e ok y => ?_⟩⟩ h2⟩⟩
              obtain ⟨T, u, v, rfl, hT, h3, e1, e2⟩ := y
              obtain ⟨dd, h4, h5⟩ := g2.get' e1
              obtain ⟨ee, h6, h7⟩ := g5.get' e2
              obtain ⟨q1, q2, q3, q4⟩ := new_pair ok hT h3 (h5.mono e) (h7.mono e)
              exact ⟨_, by show (match es[i]?, fs[i]? with | some d, some e => some (D.tup [d, e]) | _, _ => none) = _; rw [h4, h6], q1, q2, q3, q4⟩
        · exact h2.elim
  · exact h2.elim⟩
end
end Da

/-! Readings over data: texts' methods, dicts (own). -/
namespace Da
open PySem PySem.Spec PyProof.Rows L2 Evl Hd RZ
section
variable {K : PySem.W.Frag} {F : Fr} {s : S} {H : Hp} {x y : V} {dx dy : D} {Q : QD} {Q0 : VK}
/-! ### methods of texts -/
class LM (K : PySem.W.Frag) (r : V → List V → Hp → VK → Prop) (f : outParam F2) : Prop where
  go : ∀ {F : Fr} {s : S} {H : Hp} {x y : V} {dx dy : D} {Q : QD} {Q0 : VK}, OkS K F s H → RepW K (vis F s H) H x dx → RepW K (vis F s H) H y dy → f dx dy s Q → KE K F s H Q Q0 → r x [y] H Q0
def asS (d : D) (k : Prop) : Prop := match d with
  | .str _ => k
  | _ => False
def wM1 (f : F2) (wo we : WE) : WE := fun Γ s Q => wo Γ s fun o s1 => asS o (we Γ s1 fun y s2 => seeP s2 o fun o' => seeP s2 y fun y' => f o' y' s2 Q)
instance {r : V → List V → Hp → VK → Prop} {f : F2} {to te : TE} {wo we : WE} [lr : LM K r f] [lo : LE K to wo] [le : LE K te we] : LE K (tM1 r to te) (wM1 f wo we) := ⟨fun {F s H σ Γ Q Q0} a h k =>
  lo.go a h fun v1 H1 d1 s1 t1 ok1 r1 h1 => by
    cases d1 with
    | str z =>
      have hz : v1 = .str z := by cases r1; rfl
      refine ⟨⟨z, hz⟩, le.go (a.to t1 ok1) h1 fun v2 H2 d2 s2 t2 ok2 r2 h2 => ?_⟩
      obtain ⟨x', h3, q1⟩ := see ok2 (r1.mono t2.ex) h2
      obtain ⟨y', h4, q2⟩ := see ok2 r2 h3
      exact lr.go ok2 q1 q2 h4 fun v H3 d s3 t3 ok3 r3 h5 => k v H3 d s3 ((t1.trans t2).trans t3) ok3 r3 h5
    | _ => exact h1.elim⟩
def rJoin (K : PySem.W.Frag) : V → List V → Hp → VK → Prop := fun x xs H Q => ∃ a p, ∃ ys : List Str, x = .str a ∧ xs = [.ref p] ∧ (SqL K H p (ys.map V.str) ∨ SqT K H p (ys.map V.str)) ∧ (ys.map (·.length)).sum + ys.length * a.length ≤ 16777216 ∧ Q (.str (Txt.join a ys)) H
def fJoin : F2 := fun x y s Q => match x, y with
  | .str a, .lst ds => ∃ ys : List Str, ds = ys.map D.str ∧ (ys.map (·.length)).sum + ys.length * a.length ≤ 16777216 ∧ Q (.str (Txt.join a ys)) s
  | .str a, .tup ds => ∃ ys : List Str, ds = ys.map D.str ∧ (ys.map (·.length)).sum + ys.length * a.length ≤ 16777216 ∧ Q (.str (Txt.join a ys)) s
  | _, _ => False
instance : LM K (rJoin K) fJoin := ⟨fun {F s H x y dx dy Q Q0} ok rx ry h k => by
  unfold fJoin at h
  split at h
  · obtain ⟨ys, rfl, h1, h2⟩ := h
    cases rx
    obtain ⟨a, xs, rfl, g1, g2, g3⟩ := ry
    have e := g2.of_strs
    subst e
    exact ⟨_, a, ys, rfl, rfl, .inl (SqL.of g1), h1, k _ _ _ _ Tr.refl ok .str h2⟩
  · obtain ⟨ys, rfl, h1, h2⟩ := h
    cases rx
    obtain ⟨a, xs, rfl, g1, g2, g3⟩ := ry.tup vis_ex
    have e := g2.of_strs
    subst e
    exact ⟨_, a, ys, rfl, rfl, .inr g1, h1, k _ _ _ _ Tr.refl ok .str h2⟩
  · exact h.elim⟩
theorem joinK {X : Cx} (hK : X.K = K) {o e : Expr} {to te : TE} {apos pos : Pos} (ho : PE X o to) (he : PE X e te)
    (hbase : attributeBase o "join" X.env (eval o X.env) = eval o X.env := by rfl) (hline : (apos.endLine == pos.line) = true := by rfl) (hs : starEach [e] X.env = [(false, eval e X.env)] := by rfl) :
    PE X (.Call (.Attribute o "join" apos) [e] [] pos) (tM1 (rJoin K) to te) := by subst hK; exact pe_join ho he hs hbase hline
/-! ### d.get(k, x) -/
def asD (d : D) (k : Prop) : Prop := match d with
  | .dct _ => k
  | _ => False
def getP (d y : D) (k : D → Prop) (n : Prop) : Prop := match d with
  | .dct kvs => match keyD y with
    | some ky => (∀ e, lookK kvs ky = some e → k e) ∧ (lookK kvs ky = none → n)
    | none => False
  | _ => False
def wDGet2 (wd wy wx : WE) : WE := fun Γ s Q => wd Γ s fun d s1 => seeP s1 d fun d1 => asD d1 (wy Γ s1 fun y s2 => wx Γ s2 fun z s3 => seeP s3 d fun d3 => seeP s3 y fun y' => getP d3 y' (fun e => Q e s3) (Q z s3))
instance {td ty tx : TE} {wd wy wx : WE} [ld : LE K td wd] [ly : LE K ty wy] [lx : LE K tx wx] : LE K (tDGet2 td ty tx) (wDGet2 wd wy wx) := ⟨fun {F s H σ Γ Q Q0} a h k =>
  ld.go a h fun v1 H1 d1 s1 t1 ok1 r1 h1 => by
    obtain ⟨x', h2, q1⟩ := see ok1 r1 h1
    cases x' with
    | dct kvs =>
      obtain ⟨b, ks, rfl, g1, g2, g3⟩ := q1
      refine ⟨b, rfl, .inl ⟨ks, .inl g1⟩, ly.go (a.to t1 ok1) h2 fun v2 H2 d2 s2 t2 ok2 r2 h3 => lx.go (a.to (t1.trans t2) ok2) h3 fun v3 H3 d3 s3 t3 ok3 r3 h4 => ?_⟩
      obtain ⟨x3, h5, q3⟩ := see ok3 (r1.mono (t2.trans t3).ex) h4
      obtain ⟨y3, h6, q4⟩ := see ok3 (r2.mono t3.ex) h5
      cases x3 with
      | dct kvs3 =>
        unfold getP at h6
        simp only at h6
        cases e : keyD y3 with
        | none => rw [e] at h6; exact h6.elim
        | some ky =>
          rw [e] at h6
          obtain ⟨b3, ks3, eb, f1, f2, f3⟩ := q3
          cases eb
          have ek := keyD_v q4 e
          subst ek
          refine ⟨_, DGet.k f1, ?_⟩
          cases el : lookK kvs3 ky with
          | none =>
            rw [f2.val_none el]
            exact k _ _ _ _ ((t1.trans t2).trans t3) ok3 r3 (h6.2 el)
          | some dd =>
            obtain ⟨v, e2, r⟩ := f2.val el
            rw [e2]
            exact k _ _ _ _ ((t1.trans t2).trans t3) ok3 r (h6.1 _ el)
      | _ => exact h6.elim
    | _ => exact h2.elim⟩
/-! ### written dicts -/
def rKIx (K : PySem.W.Frag) (w : World) (a : Addr) (tab : List (Str × D)) (h : ∀ x d, (x, d) ∈ tab → ∃ v, KDct K w a x v ∧ ∀ H, Rep K H v d) : R2 := rIxD K w
theorem ixT {X : Cx} {w : World} (hK : X.K = K) (hw : X.w = w) {a : Addr} {tab : List (Str × D)} (h : ∀ x d, (x, d) ∈ tab → ∃ v, KDct K w a x v ∧ ∀ H, Rep K H v d) : IxR X (rKIx K w a tab h) := by
  subst hK; subst hw; exact ix_kdict
theorem lookup_mem {tab : List (Str × D)} {z : Str} {d : D} (h : tab.lookup z = some d) : (z, d) ∈ tab := by
  induction tab with
  | nil => cases h
  | cons p r ih =>
    obtain ⟨x, e⟩ := p
    rw [List.lookup_cons] at h
    cases hb : z == x with
    | true =>
      rw [hb] at h
      cases h
      rw [eq_of_beq hb]
      exact List.mem_cons_self
    | false =>
      rw [hb] at h
      exact List.mem_cons_of_mem _ (ih h)
def fKIx (a : Addr) (tab : List (Str × D)) : F2 := fun x y s Q => match x, y with
  | .val (.ref b), .str z => b = a ∧ ∃ d, tab.lookup z = some d ∧ Q d s
  | _, _ => False
instance {w : World} {a : Addr} {tab : List (Str × D)} {hh : ∀ x d, (x, d) ∈ tab → ∃ v, KDct K w a x v ∧ ∀ H, Rep K H v d} : LR K (rKIx K w a tab hh) (fKIx a tab) := ⟨fun {F s H x y dx dy Q Q0} ok rx ry h k => by
  unfold fKIx at h
  split at h
  · cases rx
    cases ry
    obtain ⟨rfl, d, e, q⟩ := h
    obtain ⟨v, g1, g2⟩ := hh _ _ (lookup_mem e)
    exact ⟨_, _, v, rfl, rfl, g1, k _ _ _ _ Tr.refl ok (g2 _) q⟩
  · exact h.elim⟩
def rKIn (K : PySem.W.Frag) (w : World) (neg : Bool) (a : Addr) (tab : List (Str × D)) (ab : List Str) (h : ∀ x d, (x, d) ∈ tab → ∃ v, KDct K w a x v ∧ ∀ H, Rep K H v d) (h2 : ∀ x, x ∈ ab → PySem.W.nsIn K a x = some none) : R2 :=
  fun x y H Q => ∃ (z : Str) (r : Option Value), x = .str z ∧ y = .ref a ∧ PySem.W.nsIn K a z = some r ∧ Q (.bl (if neg = true then !r.isSome else r.isSome)) H
theorem kinT {X : Cx} {w : World} (hK : X.K = K) (hw : X.w = w) {a : Addr} {es : Array DictEntry} {n : Nat} {tab : List (Str × D)} {ab : List Str} (kd : KDict K w a es n) (h : ∀ x d, (x, d) ∈ tab → ∃ v, KDct K w a x v ∧ ∀ H, Rep K H v d) (h2 : ∀ x, x ∈ ab → PySem.W.nsIn K a x = some none) : OpR X (compareOp .In) (rKIn K w false a tab ab h h2) := by
  subst hK; subst hw; exact op_in_kd kd
theorem kninT {X : Cx} {w : World} (hK : X.K = K) (hw : X.w = w) {a : Addr} {es : Array DictEntry} {n : Nat} {tab : List (Str × D)} {ab : List Str} (kd : KDict K w a es n) (h : ∀ x d, (x, d) ∈ tab → ∃ v, KDct K w a x v ∧ ∀ H, Rep K H v d) (h2 : ∀ x, x ∈ ab → PySem.W.nsIn K a x = some none) : OpR X (compareOp .NotIn) (rKIn K w true a tab ab h h2) := by
  subst hK; subst hw; exact op_notIn_kd kd
def hasT (tab : List (Str × D)) (z : Str) : Bool := tab.any fun p => decide (p.1 = z)
def fKIn (neg : Bool) (a : Addr) (tab : List (Str × D)) (ab : List Str) : F2 := fun x y s Q => match x, y with
  | .str z, .val (.ref b) => b = a ∧ (hasT tab z = false → z ∈ ab) ∧ Q (.bl (if neg = true then !hasT tab z else hasT tab z)) s
  | _, _ => False
instance {w : World} {neg : Bool} {a : Addr} {tab : List (Str × D)} {ab : List Str} {hh : ∀ x d, (x, d) ∈ tab → ∃ v, KDct K w a x v ∧ ∀ H, Rep K H v d} {h2 : ∀ x, x ∈ ab → PySem.W.nsIn K a x = some none} : LR K (rKIn K w neg a tab ab hh h2) (fKIn neg a tab ab) := ⟨fun {F s H x y dx dy Q Q0} ok rx ry h k => by
  unfold fKIn at h
  split at h
  · cases rx
    cases ry
    obtain ⟨rfl, e, q⟩ := h
    rename_i z _
    cases hb : hasT tab z with
    | true =>
      obtain ⟨p, hp, hz⟩ := List.any_eq_true.mp hb
      obtain ⟨x, d⟩ := p
      have hz : x = z := of_decide_eq_true hz
      subst hz
      obtain ⟨v, ⟨es, n, u, _, _, g, _⟩, _⟩ := hh _ _ hp
      rw [hb] at q
      exact ⟨_, _, rfl, rfl, g, k _ _ _ _ Tr.refl ok .bl q⟩
    | false =>
      rw [hb] at q
      exact ⟨_, _, rfl, rfl, h2 _ (e hb), k _ _ _ _ Tr.refl ok .bl q⟩
  · exact h.elim⟩
/-! ### what is handed on with all that it holds -/
def tDeep (te : TE) : TE := te
theorem pe_deep {X : Cx} {e : Expr} {te : TE} (p : PE X e te) : PE X e (tDeep te) := p
def escK (s : S) : List (Key × D) → (List (Key × D) → S → Prop) → Prop
  | [], k => k [] s
  | (ky, d) :: r, k => escP s d fun d' s1 => escK s1 r fun r' s2 => k ((ky, d') :: r') s2
theorem escKs : ∀ {vs : List (Key × V)} {ds : List (Key × D)} {s : S} (ok : OkS K F s H) (r : RepK K (vis F s H) vs ds) {k : List (Key × D) → S → Prop} (h : escK s ds k), ∃ ds' s', k ds' s' ∧ OkS K F s' H ∧ Tr F s H s' H ∧ RepK K (vis F s' H) vs ds'
  | _, _, s, ok, .nil, k, h => ⟨_, _, h, ok, Tr.refl, .nil⟩
  | _, _, s, ok, .cons q r, k, h => by
    obtain ⟨d', s1, h1, ok1, t1, q1⟩ := esc ok q h
    obtain ⟨ds', s2, h2, ok2, t2, r2⟩ := escKs ok1 (r.mono t1.ex) h1
    exact ⟨_, _, h2, ok2, t1.trans t2, .cons (q1.mono t2.ex) r2⟩
def deepP (s : S) (d : D) (k : D → S → Prop) : Prop := match d with
  | .loc a h => match mget s.M h with
    | some e => e.a = a ∧ match e.o with
      | .dct kvs => escK (s.frz h) kvs fun kvs' s2 => k (.dct kvs') s2
      | .lst ds => escA (s.frz h) ds fun ds' s2 => k (.lst ds') s2
      | .obj _ _ => False
      | .nk _ _ _ => False
    | none => False
  | _ => False
theorem deep {v : V} {d : D} (ok : OkS K F s H) (r : Rep K (vis F s H) v d) {k : D → S → Prop} (h : deepP s d k) : ∃ d' s', k d' s' ∧ OkS K F s' H ∧ Tr F s H s' H ∧ Rep K (vis F s' H) v d' := by
  cases d with
  | loc a n =>
    cases r
    unfold deepP at h
    simp only at h
    cases e : mget s.M n with
    | none => rw [e] at h; exact h.elim
    | some x =>
      rw [e] at h
      obtain ⟨h1, h2⟩ := h
      subst h1
      obtain ⟨q1, q2⟩ := ok.frz n
      have hx := ok.ents x (mget_mem e).1
      cases ho : x.o with
      | dct kvs =>
        rw [ho] at h2 hx
        obtain ⟨ks, g1, g2, g3⟩ := hx
        obtain ⟨kvs', s2, h3, ok2, t2, r2⟩ := escKs q1 (g2.mono q2.ex) h2
        have hv := ok.frz_vis e g1
        refine ⟨_, s2, h3, ok2, q2.trans t2, .dct (t2.ex _ _ hv) r2 ?_⟩
        rw [← r2.len, g2.len]; exact g3
      | lst ds =>
        rw [ho] at h2 hx
        obtain ⟨us, g1, g2, g3⟩ := hx
        obtain ⟨ds', s2, h3, ok2, t2, r2⟩ := escs q1 (g2.mono q2.ex) h2
        have hv := ok.frz_vis e g1
        refine ⟨_, s2, h3, ok2, q2.trans t2, .lst (t2.ex _ _ hv) r2 ?_⟩
        rw [← r2.len, g2.len]; exact g3
      | nk _ _ _ => rw [ho] at h2; exact h2.elim
      | obj _ _ => rw [ho] at h2; exact h2.elim
  | _ => exact h.elim
def wDeep (w : WE) : WE := fun Γ s Q => w Γ s fun d s1 => deepP s1 d Q
instance {te : TE} {w : WE} [l : LE K te w] : LE K (tDeep te) (wDeep w) := ⟨fun {F s H σ Γ Q Q0} a h k => l.go a h fun v H1 d s1 t1 ok1 r1 h1 => by
  obtain ⟨d', s2, h2, ok2, t2, r2⟩ := deep ok1 r1 h1
  exact k _ _ _ _ (t1.trans t2) ok2 r2 h2⟩
/-! ### dict displays -/
theorem lookK_hit {k : Key} {d : D} {r : List (Key × D)} : lookK ((k, d) :: r) k = some d := by simp [lookK]
theorem lookK_skip {k k' : Key} {d e : D} {r : List (Key × D)} (n : k' ≠ k) (h : lookK r k = some e) : lookK ((k', d) :: r) k = some e := by simp [lookK, n, h]
/-- the pairs from the left -/
def wPairs : List (WE × WE) → Ga → S → (List (Key × D) → S → Prop) → Prop
  | [], _, s, Q => Q [] s
  | (wk, wv) :: r, Γ, s, Q => wk Γ s fun x s1 => wv Γ s1 fun y s2 => match keyD x with
    | some k => wPairs r Γ s2 fun ps s3 => Q ((k, y) :: ps) s3
    | none => False
class LPs (K : PySem.W.Frag) (trs : List (TE × TE)) (w : outParam (List (WE × WE))) : Prop where
  go : ∀ {F : Fr} {s : S} {H : Hp} {σ : L2.St} {Γ : Ga} {Q : List (Key × D) → S → Prop} {Q0 : List (V × V) → Hp → Prop}, At K F s H σ Γ → wPairs w Γ s Q → (∀ kvs H' ds s', Tr F s H s' H' → OkS K F s' H' → RepK K (vis F s' H') kvs ds → Q ds s' → Q0 (kvs.map fun kv => (kV kv.1, kv.2)) H') → tPairs trs σ H Q0
instance : LPs K [] [] := ⟨fun {F s H σ Γ Q Q0} a h k => k [] H [] s Tr.refl a.ok .nil h⟩
instance {tk tv : TE} {trs : List (TE × TE)} {wk wv : WE} {wr : List (WE × WE)} [lk : LE K tk wk] [lv : LE K tv wv] [lr : LPs K trs wr] : LPs K ((tk, tv) :: trs) ((wk, wv) :: wr) := ⟨fun {F s H σ Γ Q Q0} a h k =>
  lk.go a h fun v1 H1 d1 s1 t1 ok1 r1 h1 => lv.go (a.to t1 ok1) h1 fun v2 H2 d2 s2 t2 ok2 r2 h2 => by
    cases e : keyD d1 with
    | none => rw [e] at h2; exact h2.elim
    | some ky =>
      rw [e] at h2
      refine lr.go (a.to (t1.trans t2) ok2) h2 fun kvs H3 ds s3 t3 ok3 r3 h3 => ?_
      have ek := keyD_v ((r1.mono (t2.trans t3).ex).w vis_ex) e
      subst ek
      exact k ((ky, v2) :: kvs) H3 _ s3 ((t1.trans t2).trans t3) ok3 (.cons (r2.mono t3.ex) r3) h3⟩
def mergeE (kvs more : List (Key × D)) : List (Key × D) := more.foldl (fun acc kv => putKE acc kv.1 kv.2) kvs
theorem merge_rep {Hv : Hp} : ∀ {more : List (Key × V)} {es : List (Key × D)} {kvs : List (Key × V)} {ds : List (Key × D)}, RepK K Hv more es → RepK K Hv kvs ds → RepK K Hv (mergeK kvs more) (mergeE ds es)
  | _, _, _, _, .nil, q => q
  | (_, _) :: more, (_, _) :: es, _, _, .cons r t, q => merge_rep (more := more) (es := es) t (putK_rep r q)
theorem mergeE_len : ∀ {es : List (Key × D)} {ds : List (Key × D)}, (mergeE ds es).length ≤ ds.length + es.length
  | [], ds => Nat.le_refl _
  | (k, d) :: r, ds => by
    have h1 := mergeE_len (es := r) (ds := putKE ds k d)
    have h2 := putKE_len ds k d
    show (mergeE (putKE ds k d) r).length ≤ ds.length + (r.length + 1)
    omega
theorem putKE_new {ds : List (Key × D)} {k : Key} {d : D} (h : k ∉ ds.map (·.1)) : putKE ds k d = ds ++ [(k, d)] := by
  unfold putKE
  rw [if_neg]
  intro z
  obtain ⟨p, hp, e⟩ := List.any_eq_true.mp z
  exact h (List.mem_map.mpr ⟨p, hp, of_decide_eq_true e⟩)
theorem mergeE_nd : ∀ {es : List (Key × D)} {ds : List (Key × D)}, ((ds ++ es).map (·.1)).Nodup → mergeE ds es = ds ++ es
  | [], ds, _ => by rw [List.append_nil]; rfl
  | (k, d) :: r, ds, h => by
    show mergeE (putKE ds k d) r = _
    rw [putKE_new, mergeE_nd, List.append_assoc]
    · rfl
    · rw [List.append_assoc]; exact h
    · intro z
      rw [List.map_append, List.map_cons, List.nodup_append] at h
      exact h.2.2 k z k List.mem_cons_self rfl
theorem le15 {n : Nat} (h : n ≤ 15) : n ≤ sizeLine := Nat.le_trans h (by decide)
/-- a display: its keys are all unlike -/
def wDisp (w : List (WE × WE)) : WE := fun Γ s Q => wPairs w Γ s fun ps s1 => escK s1 ps fun ps' s2 => (ps'.length ≤ 15 ∧ (ps'.map (·.1)).Nodup) ∧ Q (.dct ps') s2
theorem pairs_hide {trs : List (TE × TE)} {w : List (WE × WE)} [l : LPs K trs w] {σ : L2.St} {Γ : Ga} {Qd : List (Key × D) → S → Prop} {Q0 : VK} (a : At K F s H σ Γ) (h : wPairs w Γ s Qd)
    (k : ∀ p kvs H2 ds s2, F p = false → Ex (vis F s H) (vis (hidA F p) s2 H2) → (∀ b, F b = true → H2 b = H b) → s2.pn = s.pn → OkS K (hidA F p) s2 H2 → H2 p = some (.dK []) → RepK K (vis (hidA F p) s2 H2) kvs ds → Qd ds s2 → kvs.length ≤ 15 ∧ Q0 (.ref p) (upd H2 p (.dK (mergeK [] kvs)))) : tDisp trs σ H Q0 := fun p hp => by
  obtain ⟨okh, exh⟩ := a.ok.hide (o := .dK []) hp
  have hF : F p = false := by
    cases e : F p with
    | false => rfl
    | true => exact absurd hp (a.ok.fr p e)
  have hFp : hidA F p p = true := by unfold hidA; simp
  have fr0 : ∀ b, F b = true → hidA F p b = true := fun b hb => by unfold hidA; rw [hb]; rfl
  refine l.go (σ := σ) (Γ := Γ) ⟨a.g.mono exh, okh⟩ h fun kvs H2 ds s2 t ok2 r2 h2 => ?_
  have hp2 : H2 p = some (.dK []) := by rw [t.fr p hFp]; exact upd_same
  obtain ⟨h3, h4⟩ := k p kvs H2 ds s2 hF (exh.trans t.ex) (fun b hb => by rw [t.fr b (fr0 b hb)]; exact upd_ne fun z => by rw [z, hF] at hb; cases hb) t.pn ok2 hp2 r2 h2
  exact ⟨hp2, kvs, rfl, h3, h4⟩
instance {trs : List (TE × TE)} {w : List (WE × WE)} [l : LPs K trs w] : LE K (tDisp trs) (wDisp w) := ⟨fun {F s H σ Γ Q Q0} a h k => by
  unfold wDisp at h
  refine pairs_hide (w := w) a h fun p kvs H2 ds s2 hF e1 e2 e3 ok2 hp r2 h2 => ?_
  obtain ⟨ds', s3, ⟨⟨h3, hnd⟩, h4⟩, ok3, t3, r3⟩ := escKs ok2 r2 h2
  have hl : kvs.length ≤ 15 := by rw [r3.len]; exact h3
  refine ⟨hl, ?_⟩
  obtain ⟨ok7, hv⟩ := ok3.hupd (o := .dK (mergeK [] kvs))
  obtain ⟨ok8, ex8⟩ := ok7.unhide
  have hm := merge_rep r3 (RepK.nil (K := K) (H := vis (hidA F p) s3 H2))
  rw [mergeE_nd (ds := []) hnd, List.nil_append] at hm
  have ha := unhide_at ok7 (o := .dK (mergeK [] kvs)) upd_same hF
  rw [hv] at ex8
  refine k _ _ (.dct ds') s3 ⟨(e1.trans t3.ex).trans ex8, fun b hb => ?_, t3.pn.trans e3⟩ ok8 (.dct ha (hm.mono ex8) (le15 (by assumption))) h4
  rw [upd_ne fun z => by rw [z, hF] at hb; cases hb]
  exact e2 b hb⟩
def woDisp (w : List (WE × WE)) : WM := fun Γ s Q => wPairs w Γ s fun ps s1 => (ps.length ≤ 15 ∧ (ps.map (·.1)).Nodup) ∧ Q (.dct ps) s1
instance {trs : List (TE × TE)} {w : List (WE × WE)} [l : LPs K trs w] : LEo K (tDisp trs) (woDisp w) := ⟨fun {F s H σ Γ Q Q0} a h k => by
  unfold woDisp at h
  refine pairs_hide (w := w) a h fun p kvs H2 ds s2 hF e1 e2 e3 ok2 hp r2 h2 => ?_
  obtain ⟨⟨h3, hnd⟩, h4⟩ := h2
  have hl : kvs.length ≤ 15 := by rw [r2.len]; exact h3
  refine ⟨hl, ?_⟩
  obtain ⟨ok7, hv⟩ := ok2.hupd (o := .dK (mergeK [] kvs))
  have hm := merge_rep r2 (RepK.nil (K := K) (H := vis (hidA F p) s2 H2))
  rw [mergeE_nd (ds := []) hnd, List.nil_append] at hm
  refine k p _ (.dct ds) s2 hF ok7 (by rw [hv]; exact e1) (fun b hb => ?_) e3 ⟨_, upd_same, by rw [hv]; exact hm, le15 (by assumption)⟩ h4
  rw [upd_ne fun z => by rw [z, hF] at hb; cases hb]
  exact e2 b hb⟩
/-! ### dict comprehensions -/
theorem dc_it {J : It} {n : Nat} {G : Hp → Prop} {Y : Nat → Hp → V → Hp → Prop} (w : Walk J n G Y) {g : TG} {tt : TT} {tk tv : TE} {vs : List Nat} {σ : L2.St} {H1 : Hp} {D0 : Addr} {Qd : Hp → Prop} (Pv : Nat → Hp → Prop) (h0 : Pv 0 (upd H1 D0 (.dK []))) (hG : ∀ i H, i ≤ n → Pv i H → G H)
    (hs : ∀ i x H H', i < n → Pv i H → Y i H x H' → g x (L2.wipe σ vs) H' fun σ2 H2 => L2.wipe σ2 vs = L2.wipe σ vs ∧ tt σ2 H2 fun b H3 =>
      if b = true then tk σ2 H3 fun y H4 => tv σ2 H4 fun z H5 => ∃ kvs k, y = kV k ∧ H5 D0 = some (.dK kvs) ∧ kvs.length < sizeLine ∧ Pv (i + 1) (upd H5 D0 (.dK (putK kvs k z))) else Pv (i + 1) H3) (hd : ∀ H, Pv n H → Qd H) :
    ∃ W : Nat → Nat → Hp → Prop, (∃ m, W 0 m (upd H1 D0 (.dK []))) ∧ ∀ i m H, W i m H →
      (J.stop i H ∧ Qd H) ∨ (J.go i H ∧ ∃ Nx : Hp → Prop, (∀ H', Nx H' → ∃ m', m' < m ∧ W (i + 1) m' H') ∧ ∀ x H', J.yld i H x H' → g x (L2.wipe σ vs) H' fun σ2 H2 => L2.wipe σ2 vs = L2.wipe σ vs ∧ tt σ2 H2 fun b H3 =>
        if b = true then tk σ2 H3 fun y H4 => tv σ2 H4 fun z H5 => ∃ kvs k, y = kV k ∧ H5 D0 = some (.dK kvs) ∧ kvs.length < sizeLine ∧ Nx (upd H5 D0 (.dK (putK kvs k z))) else Nx H3) := by
  refine ⟨fun i m H => m = n - i ∧ i ≤ n ∧ Pv i H, ⟨n, by simp, Nat.zero_le _, h0⟩, ?_⟩
  rintro i m H ⟨rfl, hi, p⟩
  have q := hG i H hi p
  by_cases hlt : i < n
  · refine .inr ⟨w.goes i H hlt q, Pv (i + 1), fun H' p' => ⟨n - (i + 1), by omega, rfl, hlt, p'⟩, fun x H' y => hs i x H H' hlt p (w.yields i H x H' hlt q y)⟩
  · have e : i = n := by omega
    subst e
    exact .inl ⟨w.stops H q, hd H p⟩
end
end Da

/-! Readings over data: dict comprehensions, comprehensions with two clauses (own). -/
namespace Da
open PySem PySem.Spec PyProof.Rows L2 Evl Hd RZ
section
variable {K : PySem.W.Frag} {F : Fr} {s : S} {H : Hp} {x y : V} {dx dy : D} {Q : QD} {Q0 : VK}
@[irreducible] def DcB (wg : WG) (wt : WT) (wk we : WE) (vs : List Nat) (Γ : Ga) (Q : QD) (src : Src) (s1 : S) : Prop := src.n ≤ sizeLine ∧ ∃ Inv : Nat → List (Key × D) → S → Prop, Inv 0 [] s1 ∧
    (∀ i d acc s', i < src.n → src.at i = some d → acc.length ≤ i → Inv i acc s' → wg d (wipeG Γ vs) s' fun Γ2 s2 => wt Γ2 s2 fun b s3 => Br b (wk Γ2 s3 fun y s4 => we Γ2 s4 fun z s5 => match keyD y with
      | some ky => escP s5 z fun z' s6 => Inv (i + 1) (putKE acc ky z') s6
      | none => False) (Inv (i + 1) acc s3)) ∧
    ∀ acc s', acc.length ≤ src.n → Inv src.n acc s' → Q (.dct acc) s'
theorem dc_inv {wg : WG} {wt : WT} {wk we : WE} {vs : List Nat} {Γ : Ga} {Q : QD} {src : Src} {s1 : S} (Inv : Nat → List (Key × D) → S → Prop) (hn : src.n ≤ sizeLine) (h0 : Inv 0 [] s1)
    (step : ∀ i d acc s', i < src.n → src.at i = some d → acc.length ≤ i → Inv i acc s' → wg d (wipeG Γ vs) s' fun Γ2 s2 => wt Γ2 s2 fun b s3 => Br b (wk Γ2 s3 fun y s4 => we Γ2 s4 fun z s5 => match keyD y with
      | some ky => escP s5 z fun z' s6 => Inv (i + 1) (putKE acc ky z') s6
      | none => False) (Inv (i + 1) acc s3))
    (fin : ∀ acc s', acc.length ≤ src.n → Inv src.n acc s' → Q (.dct acc) s') : DcB wg wt wk we vs Γ Q src s1 := by
  unfold DcB
  exact ⟨hn, Inv, h0, step, fin⟩
theorem DcB.out {wg : WG} {wt : WT} {wk we : WE} {vs : List Nat} {Γ : Ga} {Q : QD} {src : Src} {s1 : S} (h : DcB wg wt wk we vs Γ Q src s1) : src.n ≤ sizeLine ∧ ∃ Inv : Nat → List (Key × D) → S → Prop, Inv 0 [] s1 ∧
    (∀ i d acc s', i < src.n → src.at i = some d → acc.length ≤ i → Inv i acc s' → wg d (wipeG Γ vs) s' fun Γ2 s2 => wt Γ2 s2 fun b s3 => Br b (wk Γ2 s3 fun y s4 => we Γ2 s4 fun z s5 => match keyD y with
      | some ky => escP s5 z fun z' s6 => Inv (i + 1) (putKE acc ky z') s6
      | none => False) (Inv (i + 1) acc s3)) ∧
    ∀ acc s', acc.length ≤ src.n → Inv src.n acc s' → Q (.dct acc) s' := by
  unfold DcB at h
  exact h
/-- a dict comprehension: Inv by the turn, what is found, the state -/
def wDc (ws : WI) (is : List Nat) (wg : WG) (wt : WT) (wk we : WE) (vs : List Nat) : WE := fun Γ s Q => match subN is vs with
  | false => False
  | true => ws Γ s fun src s1 => DcB wg wt wk we vs Γ Q src s1
instance {wi : TI} {g : TG} {tt : TT} {tk te : TE} {vs is : List Nat} {ws : WI} {wg : WG} {wt : WT} {wk we : WE} [li : LI K wi ws] [lgk : LGk g is] [m2 : Mono2 g] [lg : LG K g wg] [lt : LT K tt wt] [lk : LE K tk wk] [le : LE K te we] : LE K (tDc wi g tt tk te vs) (wDc ws is wg wt wk we vs) := ⟨fun {F s H σ Γ Q Q0} a h k => by
  unfold wDc at h
  cases hs : subN is vs with
  | false => rw [hs] at h; exact h.elim
  | true =>
    rw [hs] at h
    refine li.go a h fun src H1 s1 J t1 ok1 wd h1 => ?_
    obtain ⟨hn, Inv, i0, step, fin⟩ := h1.out
    obtain ⟨G, Y, W, hG, hY⟩ := wd.w
    intro D0 hD
    obtain ⟨okh, exh⟩ := ok1.hide (o := .dK []) hD
    have hFD : F D0 = false := by
      cases e : F D0 with
      | false => rfl
      | true => exact absurd hD (ok1.fr D0 e)
    refine dc_it W (fun i H' => ∃ acc s' us, Ex (vis F s1 H1) (vis (hidA F D0) s' H') ∧ (∀ b, F b = true → H' b = H1 b) ∧ s'.pn = s1.pn ∧ OkS K (hidA F D0) s' H' ∧ H' D0 = some (.dK us) ∧ RepK K (vis (hidA F D0) s' H') us acc ∧ acc.length ≤ i ∧ Inv i acc s') ⟨[], s1, [], exh, fun b hb => upd_ne fun z => (by rw [z, hFD] at hb; cases hb), rfl, okh, upd_same, .nil, Nat.zero_le _, i0⟩ (fun i H' _ ⟨acc, s', us, e1, _, _, ok, _⟩ => hG _ s' H' e1 ok) ?_ ?_
    · rintro i x H' H2 hi ⟨acc, s', us, e1, e2, e3, ok, e4, e5, e6, inv⟩ y
      obtain ⟨d, hd, t2, ok2, r2, keep⟩ := hY _ i s' H' x H2 hi e1 ok y
      have g2 : RepG K (vis (hidA F D0) s' H2) (wipe σ vs) (wipeG Γ vs) := ((a.g.mono t1.ex).mono (e1.trans t2.ex)).wipe
      have hD2 : H2 D0 = some (.dK us) := by rw [keep D0 (by rw [e4]; exact fun z => nomatch z)]; exact e4
      have q := lg.go ⟨g2, ok2⟩ r2 (step i d acc s' hi hd e6 inv) fun σ3 H3 Γ3 s3 t3 a3 h3 => (⟨Γ3, s3, t3, a3, h3⟩ : ∃ Γ3 s3, Tr (hidA F D0) s' H2 s3 H3 ∧ At K (hidA F D0) s3 H3 σ3 Γ3 ∧ wt Γ3 s3 fun b s3 => Br b (wk Γ3 s3 fun y s4 => we Γ3 s4 fun z s5 => match keyD y with
        | some ky => escP s5 z fun z' s6 => Inv (i + 1) (putKE acc ky z') s6
        | none => False) (Inv (i + 1) acc s3))
      refine m2.go (fun σ3 H3 ⟨kp, Γ3, s3, t3, a3, h3⟩ => ⟨?_, ?_⟩) (lgk.go q)
      · exact (wipe_eq kp.1 (fun j hj => kp.2 j fun z => hj (subN_mem hs j z))).trans (wipe_eq (wipe_length σ vs) (fun j hj => by rw [wipe_get, if_neg fun z => hj z.1]))
      have hFD0 : hidA F D0 D0 = true := by unfold hidA; simp
      have fr0 : ∀ b, F b = true → hidA F D0 b = true := fun b hb => by unfold hidA; rw [hb]; rfl
      refine lt.go a3 h3 fun b H4 s4 t4 ok4 h4 => h4.ite (fun _ h5 => ?_) (fun _ h5 => ?_)
      · refine lk.go (a3.to t4 ok4) h5 fun v H5 dk s5 t5 ok5 r5 h6 => le.go (a3.to (t4.trans t5) ok5) h6 fun v6 H6 dv s6 t6 ok6 r6 h7 => ?_
        cases ek : keyD dk with
        | none => rw [ek] at h7; exact h7.elim
        | some ky =>
          rw [ek] at h7
          have eky := keyD_v ((r5.mono t6.ex).w vis_ex) ek
          obtain ⟨y', s7, h8, ok7, t7, r7⟩ := esc ok6 r6 h7
          have tt := ((t2.trans t3).trans (t4.trans (t5.trans t6))).trans t7
          have hD5 : H6 D0 = some (.dK us) := by rw [tt.fr D0 hFD0, e4]
          obtain ⟨ok8, hv⟩ := ok7.hupd (o := .dK (putK us ky v6))
          have hlen := putKE_len acc ky y'
          refine ⟨us, ky, eky, hD5, ?_, putKE acc ky y', s7, putK us ky v6, by rw [hv]; exact e1.trans tt.ex, fun b hb => ?_, tt.pn.trans e3, ok8, upd_same, ?_, by omega, h8⟩
          · rw [e5.len]; omega
          · rw [upd_ne fun z => (by rw [z, hFD] at hb; cases hb), tt.fr b (fr0 b hb), e2 b hb]
          · rw [hv]
            exact putK_rep r7 (e5.mono tt.ex)
      · have tt := (t2.trans t3).trans t4
        exact ⟨acc, s4, us, e1.trans tt.ex, fun b hb => by rw [tt.fr b (fr0 b hb), e2 b hb], tt.pn.trans e3, ok4, by rw [tt.fr D0 hFD0, e4], e5.mono tt.ex, by omega, h5⟩
    · rintro H' ⟨acc, s', us, e1, e2, e3, ok, e4, e5, e6, inv⟩
      obtain ⟨ok8, ex8⟩ := ok.unhide
      refine k _ _ _ _ (t1.trans ⟨e1.trans ex8, e2, e3⟩) ok8 (.dct (unhide_at ok e4 hFD) (e5.mono ex8) (Nat.le_trans e6 hn)) (fin acc s' e6 inv)⟩
/-! ### ranges made into lists -/
abbrev WR := Ga → S → (Int → Int → S → Prop) → Prop
class LRg (K : PySem.W.Frag) (te : L2.St → Hp → (Int → Int → Hp → Prop) → Prop) (w : outParam WR) : Prop where
  go : ∀ {F : Fr} {s : S} {H : Hp} {σ : L2.St} {Γ : Ga} {Q : Int → Int → S → Prop} {Q0 : Int → Int → Hp → Prop}, At K F s H σ Γ → w Γ s Q → (∀ a b H' s', Tr F s H s' H' → OkS K F s' H' → Q a b s' → Q0 a b H') → te σ H Q0
def wRg1 (w : WE) : WR := fun Γ s Q => w Γ s fun d s1 => asI d fun n => Q 0 n s1
def wRg2 (wa wb : WE) : WR := fun Γ s Q => wa Γ s fun d s1 => wb Γ s1 fun e s2 => asI d fun i => asI e fun j => Q i j s2
theorem asI_of {Hv : Hp} {v : V} {d : D} {k : Int → Prop} (h : asI d k) (r : Rep K Hv v d) : ∃ i, v = .int i ∧ k i := by
  cases d with
  | int i => cases r; exact ⟨i, rfl, h⟩
  | _ => exact h.elim
instance {ta : TE} {w : WE} [l : LE K ta w] : LRg K (tRg1 ta) (wRg1 w) := ⟨fun {F s H σ Γ Q Q0} a h k => l.go a h fun v H1 d s1 t1 ok1 r1 h1 => by
  obtain ⟨i, e, h2⟩ := asI_of h1 r1
  exact ⟨i, e, k _ _ _ _ t1 ok1 h2⟩⟩
instance {ta tb : TE} {wa wb : WE} [l : LE K ta wa] [lb : LE K tb wb] : LRg K (tRg2 ta tb) (wRg2 wa wb) := ⟨fun {F s H σ Γ Q Q0} a h k => l.go a h fun v H1 d s1 t1 ok1 r1 h1 => lb.go (a.to t1 ok1) h1 fun v2 H2 d2 s2 t2 ok2 r2 h2 => by
  obtain ⟨i, e, h3⟩ := asI_of h2 (r1.mono t2.ex)
  obtain ⟨j, e2, h4⟩ := asI_of h3 r2
  exact ⟨i, j, e, e2, k _ _ _ _ (t1.trans t2) ok2 h4⟩⟩
def rgD (a b : Int) : List D := (List.range (b - a).toNat).map fun i => D.int (a + (i : Nat))
theorem rgD_len (a b : Int) : (rgD a b).length = (b - a).toNat := by unfold rgD; rw [List.length_map, List.length_range]
theorem rg_rep {Hv : Hp} {a b : Int} : RepL K Hv (rgV a b) (rgD a b) := by
  unfold rgV rgD
  generalize List.range (b - a).toNat = l
  induction l with
  | nil => exact .nil
  | cons x r ih => exact .cons .int ih
def wLstRg (w : WR) : WE := fun Γ s Q => w Γ s fun a b s1 => RgOk a b ∧ Q (.lst (rgD a b)) s1
theorem rg_size {a b : Int} (h : RgOk a b) : (rgD a b).length ≤ sizeLine := by
  rw [rgD_len]
  exact Nat.le_trans h.2.2.2.2 (by decide)
instance {te : L2.St → Hp → (Int → Int → Hp → Prop) → Prop} {w : WR} [l : LRg K te w] : LE K (tLstRg te) (wLstRg w) := ⟨fun {F s H σ Γ Q Q0} a h k => l.go a h fun x y H1 s1 t1 ok1 h1 =>
  ⟨h1.1, new_lst ok1 rg_rep (rg_size h1.1) h1.2 fun v H3 d s3 t3 ok3 r3 h4 => k v H3 d s3 (t1.trans t3) ok3 r3 h4⟩⟩
def wTupRg (w : WR) : WE := fun Γ s Q => w Γ s fun a b s1 => RgOk a b ∧ Q (.tup (rgD a b)) s1
instance {te : L2.St → Hp → (Int → Int → Hp → Prop) → Prop} {w : WR} [l : LRg K te w] : LE K (tTupRg te) (wTupRg w) := ⟨fun {F s H σ Γ Q Q0} a h k => l.go a h fun x y H1 s1 t1 ok1 h1 =>
  ⟨h1.1, new_tup ok1 rg_rep (rg_size h1.1) h1.2 fun v H3 d s3 t3 ok3 r3 h4 => k v H3 d s3 (t1.trans t3) ok3 r3 h4⟩⟩
/-! ### whether a list or a tuple holds anything -/
def tTruth (K : PySem.W.Frag) (ta : TE) : TT := fun σ H Q => ta σ H fun x H' => ∃ k, TruV K x H' k ∧ Q k H'
theorem truthK {X : Cx} (hK : X.K = K) {a : Expr} {ta : TE} (ha : PE X a ta) (he : ∀ whole, isTrue a X.env whole = (do let v ← whole; standAt a.pos; holding [v] (truthy v))) : PT X a (tTruth K ta) := by subst hK; exact pt_truth ha he
def wTruth (w : WE) : WT := fun Γ s Q => w Γ s fun d s1 => seeP s1 d fun d' => match d' with
  | .lst ds => Q (!ds.isEmpty) s1
  | .tup ds => Q (!ds.isEmpty) s1
  | .dct ks => Q (!ks.isEmpty) s1
  | _ => False
theorem emp_l {Hv : Hp} {vs : List V} {ds : List D} (r : RepL K Hv vs ds) : ds.isEmpty = vs.isEmpty := by cases r <;> rfl
theorem emp_k {Hv : Hp} {vs : List (Key × V)} {ds : List (Key × D)} (r : RepK K Hv vs ds) : ds.isEmpty = vs.isEmpty := by cases r <;> rfl
instance {ta : TE} {w : WE} [l : LE K ta w] : LT K (tTruth K ta) (wTruth w) := ⟨fun {F s H σ Γ Q Q0} a h k => l.go a h fun v H1 d s1 t1 ok1 r1 h1 => by
  obtain ⟨d', h2, q⟩ := see ok1 r1 h1
  cases d' with
  | lst ds =>
    obtain ⟨a, xs, rfl, g1, g2, g3⟩ := q
    exact ⟨_, .inl ⟨xs, SqL.of g1, rfl⟩, k _ _ _ t1 ok1 (by rw [← emp_l g2]; exact h2)⟩
  | tup ds =>
    obtain ⟨a, xs, rfl, g1, g2, g3⟩ := q.tup vis_ex
    exact ⟨_, .inr (.inl ⟨xs, g1, rfl⟩), k _ _ _ t1 ok1 (by rw [← emp_l g2]; exact h2)⟩
  | dct ks =>
    obtain ⟨a, xs, rfl, g1, g2, g3⟩ := q
    exact ⟨_, .inr (.inr ⟨xs, g1, rfl⟩), k _ _ _ t1 ok1 (by rw [← emp_k g2]; exact h2)⟩
  | _ => exact h2.elim⟩
end
end Da
namespace Da
open PySem PySem.Spec PyProof.Rows L2 Evl Hd
/-! ### promises of an __init__ by the number of arguments -/
abbrev QF := List (Str × D) → Nat → Prop
abbrev I0 := Option (Addr × Addr) → Nat → QF → XD → Prop
abbrev I1 := Option (Addr × Addr) → D → Nat → QF → XD → Prop
abbrev I2 := Option (Addr × Addr) → D → D → Nat → QF → XD → Prop
abbrev I7 := Option (Addr × Addr) → D → D → D → D → D → D → D → Nat → QF → XD → Prop
def di1 (f : I1) : DIn := fun pn args n Q X => match args with
  | [a] => f pn a n Q X
  | _ => False
def di2 (f : I2) : DIn := fun pn args n Q X => match args with
  | [a, b] => f pn a b n Q X
  | _ => False
def di7 (f : I7) : DIn := fun pn args n Q X => match args with
  | [a, b, c, d, e, g, i] => f pn a b c d e g i n Q X
  | _ => False
section
variable {K : PySem.W.Frag} {H : Hp} {vs : List V} {Q : VK} {E : XK} {C : Addr} {N : List Str} {t : TS} {w : WS}
theorem di1_of {f : I1} {pn args n Q X} (h : di1 f pn args n Q X) : ∃ a, args = [a] ∧ f pn a n Q X := by
  unfold di1 at h; split at h
  · exact ⟨_, rfl, h⟩
  · exact h.elim
theorem di2_of {f : I2} {pn args n Q X} (h : di2 f pn args n Q X) : ∃ a b, args = [a, b] ∧ f pn a b n Q X := by
  unfold di2 at h; split at h
  · exact ⟨_, _, rfl, h⟩
  · exact h.elim
theorem di7_of {f : I7} {pn args n Q X} (h : di7 f pn args n Q X) : ∃ a b c d e g i, args = [a, b, c, d, e, g, i] ∧ f pn a b c d e g i n Q X := by
  unfold di7 at h; split at h
  · exact ⟨_, _, _, _, _, _, _, rfl, h⟩
  · exact h.elim
theorem in_len1 {f : I1} (h : upIn K C (di1 f) vs H Q E) : vs.length = 2 := in_len (fun _ _ _ _ _ h => by obtain ⟨_, e, _⟩ := di1_of h; rw [e]; rfl) h
theorem in_len2 {f : I2} (h : upIn K C (di2 f) vs H Q E) : vs.length = 3 := in_len (fun _ _ _ _ _ h => by obtain ⟨_, _, e, _⟩ := di2_of h; rw [e]; rfl) h
theorem in_len7 {f : I7} (h : upIn K C (di7 f) vs H Q E) : vs.length = 8 := in_len (fun _ _ _ _ _ h => by obtain ⟨_, _, _, _, _, _, _, e, _⟩ := di7_of h; rw [e]; rfl) h
theorem go_in1 {f : I1} (h : upIn K C (di1 f) vs H Q E) [l : LS K t w] (hw : ∀ x pn a n Qd Xd, f pn a n Qd Xd → w (deIn x C Qd) (startI N x [a]) (st1 x C [] n pn)) : t { nx := fun _ H' => Q .non H', rt := Q } (L2.start N vs) H :=
  go_in h fun x pn args n Qd Xd q => by obtain ⟨a, rfl, q⟩ := di1_of q; exact hw x pn a n Qd Xd q
theorem go_in2 {f : I2} (h : upIn K C (di2 f) vs H Q E) [l : LS K t w] (hw : ∀ x pn a b n Qd Xd, f pn a b n Qd Xd → w (deIn x C Qd) (startI N x [a, b]) (st1 x C [] n pn)) : t { nx := fun _ H' => Q .non H', rt := Q } (L2.start N vs) H :=
  go_in h fun x pn args n Qd Xd q => by obtain ⟨a, b, rfl, q⟩ := di2_of q; exact hw x pn a b n Qd Xd q
theorem go_in7 {f : I7} (h : upIn K C (di7 f) vs H Q E) [l : LS K t w] (hw : ∀ x pn a b c d e g i n Qd Xd, f pn a b c d e g i n Qd Xd → w (deIn x C Qd) (startI N x [a, b, c, d, e, g, i]) (st1 x C [] n pn)) : t { nx := fun _ H' => Q .non H', rt := Q } (L2.start N vs) H :=
  go_in h fun x pn args n Qd Xd q => by obtain ⟨a, b, c, d, e, g, i, rfl, q⟩ := di7_of q; exact hw x pn a b c d e g i n Qd Xd q
end
end Da

/-! An own __eq__, both answers, of two instances or of an instance and a tuple. -/
namespace Oq
open PySem PySem.Spec PyProof.Rows L2 Evl
def rEqOwn (C : Addr) (sp : Sp) (E : XK) : R2 := fun x y H Q => ∃ a b dx fs, x = .ref a ∧ y = .ref b ∧ H a = some (.ins C dx fs) ∧ ((∃ dy gs, H b = some (.ins C dy gs)) ∨ ∃ xs, H b = some (.tup xs)) ∧ sp [.ref a, .ref b] H (fun v H' => ∃ k, v = .bl k ∧ Q (.bl k) H') E
theorem op_eqOwn {X : Cx} {CX : CXT} {n : Nat} {C f : Addr} {fd : FuncData} {ps : List Str} {sp : Sp} {E : XK} (F : FnOk X.prog X.w X.K X.mg X.base CX n f fd ps sp) (hs : PySem.W.findIn X.K (.ref C) "__eq__" = some (some (.ref f)))
    (hf : PySem.W.isFn X.K (.ref f) = true) (hb : Binds X.K fd ps []) (hx : Passes CX X E) (hr : Room n X.A) (nt : PySem.W.notFirst X.K C (.type "tuple") = true) : OpR X (compareOp .Eq) (rEqOwn C sp E) := by
  intro pins s σ H x y v u Q I rx ry ⟨a, b, dx, fs, ex, ey, ha, hy, hsp⟩
  subst ex
  subst ey
  cases rx
  cases ry
  obtain ⟨mA, J0, _⟩ := ins_get I.hok ha
  obtain ⟨od, J, _⟩ := J0.look
  obtain ⟨m, hF⟩ := I.fr
  have hu := hr.units0
  show wpAny (model X.prog X.w) X.A (richCompare .Eq (.ref a) (.ref b)) (EP X pins σ Q) X.xe s
  have body : wpAny (model X.prog X.w) X.A (call (.ref f) [.ref a, .ref b]) (PySem.W.CmpBack (EP X pins σ Q)) X.xe s := by
    have hl := F.len _ _ _ _ hsp
    refine wpAny_call (codeAny_mono (F.run X.A X.stack s H ⟨[.ref a, .ref b], []⟩ [.ref a, .ref b] [.ref a, .ref b] _ E hr I.env0 (by
      have z := hb s [.ref a, .ref b] I.kIn (by simpa using hl)
      simpa using z) (.cons rfl (.cons rfl .nil)) hsp) fun r st hq => ?_)
    cases r with
    | error er => exact hx pins σ H s er st I hq
    | ok fl =>
      cases fl with
      | ret wv =>
        obtain ⟨z, H2, I2, rz, k, ez, q2⟩ := I.after hq
        subst ez
        cases rz
        exact ⟨.bl k, H2, I2, rfl, q2⟩
      | next => exact False.elim hq
      | brk => exact False.elim hq
      | cont => exact False.elim hq
  rcases hy with ⟨dy, gs, hy⟩ | ⟨xs, hy⟩
  · obtain ⟨mB, J1, _⟩ := ins_get I.hok hy
    obtain ⟨od2, J2, _⟩ := J1.look
    exact PySem.W.cmp_K (op := .Eq) (tb := .ref C) hu hF I.ok.mod.kin J J2.type (by simp [PySem.W.notFirst]) hs hf body
  · obtain ⟨_, _, _, o, h1, h2, _⟩ := (show ObjOk X.prog X.w H s.heap b (.tup xs) from I.hok b _ hy)
    exact PySem.W.cmp_K (op := .Eq) (tb := .type "tuple") hu hF I.ok.mod.kin J (fun A Q E st kk q => wpAny_typeOf_ref (kk _ _ h1) (by rw [h2]; exact q)) nt hs hf body
end Oq

/-! Readings over data: an own == (own). -/
namespace Da
open PySem PySem.Spec PyProof.Rows L2 Evl Hd
def rEqOwnA (K : PySem.W.Frag) (C : Addr) (sp : Sp) (E : XK) : R2 := fun x y H Q => ∃ a b dx fs, x = .ref a ∧ y = .ref b ∧ H a = some (.ins C dx fs) ∧ ((∃ dy gs, H b = some (.ins C dy gs)) ∨ ∃ xs, SqT K H b xs) ∧ sp [.ref a, .ref b] H (fun v H' => ∃ k, v = .bl k ∧ Q (.bl k) H') E
theorem eqOwnA {X : Cx} {CX : CXT} {n : Nat} {C f : Addr} {fd : FuncData} {ps : List Str} {sp : Sp} {E : XK} {K : PySem.W.Frag} (hK : X.K = K) (F : FnOk X.prog X.w X.K X.mg X.base CX n f fd ps sp) (hs : PySem.W.findIn X.K (.ref C) "__eq__" = some (some (.ref f)))
    (hf : PySem.W.isFn X.K (.ref f) = true) (hb : Binds X.K fd ps []) (hx : Passes CX X E) (hr : Room n X.A) (nt : PySem.W.notFirst X.K C (.type "tuple") = true) : OpR X (compareOp .Eq) (rEqOwnA K C sp E) := by
  subst hK
  intro pins s σ H x y v u Q I rx ry ⟨a, b, dx, fs, ex, ey, ha, hy, hsp⟩
  subst ex
  subst ey
  cases rx
  cases ry
  obtain ⟨mA, J0, _⟩ := ins_get I.hok ha
  obtain ⟨od, J, _⟩ := J0.look
  obtain ⟨m, hF⟩ := I.fr
  have hu := hr.units0
  show wpAny (model X.prog X.w) X.A (richCompare .Eq (.ref a) (.ref b)) (EP X pins σ Q) X.xe s
  have body : wpAny (model X.prog X.w) X.A (call (.ref f) [.ref a, .ref b]) (PySem.W.CmpBack (EP X pins σ Q)) X.xe s := by
    have hl := F.len _ _ _ _ hsp
    refine wpAny_call (codeAny_mono (F.run X.A X.stack s H ⟨[.ref a, .ref b], []⟩ [.ref a, .ref b] [.ref a, .ref b] _ E hr I.env0 (by
      have z := hb s [.ref a, .ref b] I.kIn (by simpa using hl)
      simpa using z) (.cons rfl (.cons rfl .nil)) hsp) fun r st hq => ?_)
    cases r with
    | error er => exact hx pins σ H s er st I hq
    | ok fl =>
      cases fl with
      | ret wv =>
        obtain ⟨z, H2, I2, rz, k, ez, q2⟩ := I.after hq
        subst ez
        cases rz
        exact ⟨.bl k, H2, I2, rfl, q2⟩
      | next => exact False.elim hq
      | brk => exact False.elim hq
      | cont => exact False.elim hq
  rcases hy with ⟨dy, gs, hy⟩ | ⟨xs, hy⟩
  · obtain ⟨mB, J1, _⟩ := ins_get I.hok hy
    obtain ⟨od2, J2, _⟩ := J1.look
    exact PySem.W.cmp_K (op := .Eq) (tb := .ref C) hu hF I.ok.mod.kin J J2.type (by simp [PySem.W.notFirst]) hs hf body
  · obtain ⟨_, _, ⟨o, h1, h2, _⟩, _⟩ := I.tuple hy
    exact PySem.W.cmp_K (op := .Eq) (tb := .type "tuple") hu hF I.ok.mod.kin J (fun A Q E st kk q => wpAny_typeOf_ref (kk _ _ h1) (by rw [h2]; exact q)) nt hs hf body
section
variable {K : PySem.W.Frag} {F : Fr} {s : S} {H H' : Hp}
def eqArgs (C : Addr) (ds : List D) (k : D → D → Prop) : Prop := match ds with
  | [.obj C' fs, .obj C2 gs] => (C' = C ∧ C2 = C) ∧ k (.obj C' fs) (.obj C2 gs)
  | [.obj C' fs, .tup es] => C' = C ∧ k (.obj C' fs) (.tup es)
  | _ => False
def wEqOwn (C : Addr) (dsp : DSp) (wa wb : WE) : WE := fun Γ s Q => wa Γ s fun x s1 => wb Γ s1 fun y s2 => escA s2 [x, y] fun ds s3 => eqArgs C ds fun d e => dsp s3.pn [d, e] s3.n (fun d n' => asB d fun k => Q (.bl k) (s3.at n')) XF
instance {C : Addr} {dsp : DSp} {E : XK} {ta tb : TE} {wa wb : WE} [la : LE K ta wa] [lb : LE K tb wb] : LE K (tOp (rEqOwnA K C (upSp K dsp) E) ta tb) (wEqOwn C dsp wa wb) := ⟨fun {F s H σ Γ Q Q0} a h k =>
  la.go a h fun v1 H1 d1 s1 t1 ok1 r1 h1 => lb.go (a.to t1 ok1) h1 fun v2 H2 d2 s2 t2 ok2 r2 h2 => by
    obtain ⟨ds, s3, h3, ok3, t3, r3⟩ := escs ok2 (.cons (r1.mono t2.ex) (.cons r2 .nil)) h2
    have tt := (t1.trans t2).trans t3
    unfold eqArgs at h3
    split at h3
    · obtain ⟨⟨rfl, e2⟩, h4⟩ := h3
      subst e2
      cases r3 with
      | cons q1 q2 =>
        cases q2 with
        | cons q2 q3 =>
          cases q3
          cases q1 with
          | @obj a1 c1 dx fv fs g1 g2 =>
            cases q2 with
            | @obj a2 c2 dy gv gs g3 g4 =>
              refine ⟨a1, a2, dx, fv, rfl, rfl, vis_ex _ _ g1, .inl ⟨dy, gv, vis_ex _ _ g3⟩, ?_⟩
              refine call_data ok3 (.cons (.obj g1 g2) (.cons (.obj g3 g4) .nil)) h4 (fun v H4 d n' t4 ok4 r4 q => ?_) (fun _ _ _ _ _ _ _ _ q => q.elim)
              obtain ⟨b, e, q⟩ := asB_of q r4
              subst e
              exact ⟨b, rfl, k _ _ _ _ (tt.trans t4) ok4 .bl q⟩
    · obtain ⟨rfl, h4⟩ := h3
      cases r3 with
      | cons q1 q2 =>
        cases q2 with
        | cons q2 q3 =>
          cases q3
          cases q1 with
          | @obj a1 c1 dx fv fs g1 g2 =>
            cases q2 with
            | @tup a2 us es g3 g4 g5 =>
              refine ⟨a1, a2, dx, fv, rfl, rfl, vis_ex _ _ g1, .inr ⟨us, ex_t vis_ex g3⟩, ?_⟩
              refine call_data ok3 (.cons (.obj g1 g2) (.cons (.tup g3 g4 g5) .nil)) h4 (fun v H4 d n' t4 ok4 r4 q => ?_) (fun _ _ _ _ _ _ _ _ q => q.elim)
              obtain ⟨b, e, q⟩ := asB_of q r4
              subst e
              exact ⟨b, rfl, k _ _ _ _ (tt.trans t4) ok4 .bl q⟩
    · exact h3.elim⟩
end
end Da

namespace Da
open PySem PySem.Spec
theorem Br.tt {A B : Prop} (h : A) : Br true A B := ⟨(fun _ => h), (fun z => by cases z)⟩
theorem Br.ff {A B : Prop} (h : B) : Br false A B := ⟨(fun z => by cases z), (fun _ => h)⟩
theorem Br.yes {c : Bool} {A B : Prop} (e : c = true) (h : A) : Br c A B := by subst e; exact Br.tt h
theorem Br.no {c : Bool} {A B : Prop} (e : c = false) (h : B) : Br c A B := by subst e; exact Br.ff h
theorem Br.dec {p : Prop} {ip : Decidable p} {A B : Prop} (h1 : p → A) (h2 : ¬ p → B) : Br (decide p) A B := ⟨(fun z => h1 (of_decide_eq_true z)), (fun z => h2 (of_decide_eq_false z))⟩
theorem Br.ndec {p : Prop} {ip : Decidable p} {A B : Prop} (h1 : ¬ p → A) (h2 : p → B) : Br (!decide p) A B := ⟨(fun z => h1 (by simpa using z)), (fun z => h2 (by simpa using z))⟩
theorem at_w {ds : List D} {i : Int} {d : D} {R : D → Prop} (e : L2.atI ds i = some d) (q : R d) : ∃ d, L2.atI ds i = some d ∧ R d := ⟨d, e, q⟩
theorem Br.y {p : Prop} {ip : Decidable p} {A B : Prop} (e : p) (h : A) : Br (decide p) A B := Br.yes (decide_eq_true e) h
theorem Br.n {p : Prop} {ip : Decidable p} {A B : Prop} (e : ¬ p) (h : B) : Br (decide p) A B := Br.no (decide_eq_false e) h
theorem Br.ny {p : Prop} {ip : Decidable p} {A B : Prop} (e : ¬ p) (h : A) : Br (!decide p) A B := Br.yes (by rw [decide_eq_false e]; rfl) h
theorem Br.nn {p : Prop} {ip : Decidable p} {A B : Prop} (e : p) (h : B) : Br (!decide p) A B := Br.no (by rw [decide_eq_true e]; rfl) h
def NoL (d : D) : Prop := ∀ a h, d ≠ .loc a h
theorem escP_of {s : S} {d : D} {k : D → S → Prop} (h : NoL d) (q : k d s) : escP s d k := by
  cases d with
  | loc a n => exact absurd rfl (h a n)
  | _ => exact q
theorem seeP_of {s : S} {d : D} {k : D → Prop} (h : NoL d) (q : k d) : seeP s d k := by
  cases d with
  | loc a n => exact absurd rfl (h a n)
  | _ => exact q
theorem escA_of : ∀ {ds : List D} {s : S} {k : List D → S → Prop}, (∀ d ∈ ds, NoL d) → k ds s → escA s ds k
  | [], _, _, _, q => q
  | d :: r, s, k, h, q => escP_of (h d List.mem_cons_self) (escA_of (fun e he => h e (List.mem_cons_of_mem _ he)) q)
theorem dec_t {p : Prop} {ip : Decidable p} (h : p) : decide p = true := decide_eq_true h
theorem dec_f {p : Prop} {ip : Decidable p} (h : ¬ p) : decide p = false := decide_eq_false h
theorem lookF_hit {f : Str} {d : D} {fs : List (Str × D)} : lookF ((f, d) :: fs) f = some d := by
  unfold lookF
  rw [decide_eq_true rfl]
theorem lookF_skip {f g : Str} {d e : D} {fs : List (Str × D)} (n : f ≠ g) (h : lookF fs g = some e) : lookF ((f, d) :: fs) g = some e := by
  unfold lookF
  rw [decide_eq_false n]
  exact h
theorem lookF_put {f : Str} {d : D} : ∀ {fs : List (Str × D)}, lookF (putFD f d fs) f = some d
  | [] => lookF_hit
  | (g, x) :: r => by
    unfold putFD
    by_cases e : g = f
    · rw [decide_eq_true e, e]; exact lookF_hit
    · rw [decide_eq_false e]; exact lookF_skip e lookF_put
theorem lookF_other {f g : Str} {d e : D} (n : f ≠ g) : ∀ {fs : List (Str × D)}, lookF fs g = some e → lookF (putFD f d fs) g = some e
  | [], h => by cases h
  | (k, x) :: r, h => by
    unfold putFD
    by_cases e1 : k = f
    · rw [decide_eq_true e1]
      rw [e1] at h
      have h : (match decide (f = g) with | true => some x | false => lookF r g) = some e := h
      rw [decide_eq_false n] at h
      rw [e1]
      exact lookF_skip n h
    · rw [decide_eq_false e1]
      by_cases e2 : k = g
      · subst e2
        have h : (match decide (k = k) with | true => some x | false => lookF r k) = some e := h
        rw [decide_eq_true rfl] at h
        rw [← Option.some.inj h]
        exact lookF_hit
      · have h : (match decide (k = g) with | true => some x | false => lookF r g) = some e := h
        rw [decide_eq_false e2] at h
        exact lookF_skip e2 (lookF_other n h)
theorem putFD_skip {f g : Str} {d x : D} {r : List (Str × D)} (n : g ≠ f) : putFD f d ((g, x) :: r) = (g, x) :: putFD f d r := by
  show (match decide (g = f) with | true => (g, d) :: r | false => (g, x) :: putFD f d r) = _
  rw [decide_eq_false n]
theorem putFD_nil {f : Str} {d : D} : putFD f d [] = [(f, d)] := rfl
theorem putFD_lt {f : Str} {d : D} : ∀ {fs : List (Str × D)} {k : Nat}, fs.length < k → (putFD f d fs).length < k + 1
  | [], k, h => Nat.succ_lt_succ h
  | (g, x) :: r, k + 1, h => by
    unfold putFD
    by_cases e : g = f
    · rw [decide_eq_true e]; exact Nat.lt_succ_of_lt h
    · rw [decide_eq_false e]; exact Nat.succ_lt_succ (putFD_lt (Nat.lt_of_succ_lt_succ h))
theorem fld_w {fs : List (Str × D)} {f : Str} {d : D} {R : D → Prop} (e : lookF fs f = some d) (q : R d) : ∃ d, lookF fs f = some d ∧ R d := ⟨d, e, q⟩
theorem ex_at {ds : List D} {i : Int} {R : D → Prop} (h : ∃ d, L2.atI ds i = some d ∧ R d) : ∃ d, L2.atI ds i = some d ∧ R d := h
theorem ex_fld {fs : List (Str × D)} {f : Str} {R : D → Prop} (h : ∃ d, lookF fs f = some d ∧ R d) : ∃ d, lookF fs f = some d ∧ R d := h
theorem ix_last {m : Nat} : L2.ixN (m + 1) (-1) = some m := by
  unfold L2.ixN
  rw [if_neg (by omega), if_pos (by omega)]
  have e : ((-1 : Int) + ((m + 1 : Nat) : Int)).toNat = m := by omega
  rw [e]
theorem at_last {α : Type} {ds : List α} {d : α} : L2.atI (ds ++ [d]) (-1) = some d := by
  unfold L2.atI
  rw [List.length_append, show ([d] : List α).length = 1 from rfl, ix_last]
  simp
theorem set_last {α : Type} {ds : List α} {d e : α} : (ds ++ [d]).set ds.length e = ds ++ [e] := by
  rw [List.set_append_right _ _ (Nat.le_refl _), Nat.sub_self]
  rfl
theorem ixN_of {m : Nat} {i : Int} {j : Nat} (h : i = (j : Int)) (hj : j < m) : L2.ixN m i = some j := by rw [h]; exact Evl.ixN_nat hj
end Da
/-! What a drawn reader is: words, names, lines, by places (own). -/
namespace Lw
open PySem PySem.Spec L2 Da
def AZ (x : Str) : Prop := ∀ c ∈ x.cps.toList, 97 ≤ c ∧ c ≤ 122
theorem abc_at : ∀ j : _root_.Fin 26, (Str.ofString "abcdefghijklmnopqrstuvwxyz").cps.toList[j.1]? = some (97 + j.1) := by decide +kernel
abbrev lkL : List Str := ["take", "take", "take", "take", "case", "case", "rest", "cap", "jump"]
abbrev qtL : List Str := ["skip", "skip", "skip", "cut", "cut", "upto", "upto", "set", "refuse"]
/-- the words of lines that read, of silent ones -/
def Lk (x : Str) : Prop := x ∈ (["take", "case", "rest", "cap", "jump"] : List Str)
def Qt (x : Str) : Prop := x ∈ (["skip", "cut", "upto", "set", "refuse"] : List Str)
instance (x : Str) : Decidable (Lk x) := inferInstanceAs (Decidable (x ∈ _))
instance (x : Str) : Decidable (Qt x) := inferInstanceAs (Decidable (x ∈ _))
theorem lk_of : ∀ x ∈ lkL, Lk x := by decide +kernel
theorem qt_of : ∀ x ∈ qtL, Qt x := by decide +kernel
theorem qt_cut : Qt "cut" := by decide +kernel
theorem qt_skip : Qt "skip" := by decide +kernel
/-- the words of a reader's lines -/
structure Wds (ws : List Str) : Prop where
  all : ∀ x ∈ ws, Lk x ∨ Qt x
  beg : (∃ x, ws[0]? = some x ∧ Lk x) ∨ (2 < ws.length ∧ (∃ x, ws[0]? = some x ∧ x ∈ (["set", "upto"] : List Str)) ∧ ∃ x, ws[1]? = some x ∧ Lk x)
/-- the words of any reader that is taken -/
structure WdsW (ws : List Str) : Prop where
  all : ∀ x ∈ ws, Lk x ∨ Qt x
  beg : (∃ x, ws[0]? = some x ∧ Lk x) ∨ (∃ x, ws[0]? = some x ∧ x ∈ (["set", "upto"] : List Str))
theorem Wds.weak {ws : List Str} (h : Wds ws) : WdsW ws := ⟨h.all, h.beg.imp id (fun z => z.2.1)⟩
/-- words as they are drawn at first -/
structure Wd0 (ws : List Str) : Prop where
  all : ∀ x ∈ ws, Lk x ∨ Qt x
  beg : ∃ x, ws[0]? = some x ∧ Lk x
theorem Wd0.one {x : Str} (h : Lk x) : Wd0 [x] := ⟨fun y hy => by rw [List.mem_singleton] at hy; rw [hy]; exact .inl h, ⟨x, rfl, h⟩⟩
theorem Wd0.app {ws : List Str} {x : Str} (h : Wd0 ws) (hx : Lk x ∨ Qt x) : Wd0 (ws ++ [x]) := by
  obtain ⟨y, h1, h2⟩ := h.beg
  refine ⟨fun z hz => ?_, y, ?_, h2⟩
  · rcases List.mem_append.mp hz with hz | hz
    · exact h.all z hz
    · rw [List.mem_singleton] at hz
      rw [hz]
      exact hx
  · rw [List.getElem?_append_left (List.getElem?_eq_some_iff.mp h1).1]
    exact h1
theorem Wd0.set {ws : List Str} {x : Str} {j : Nat} (h : Wd0 ws) (hj : 1 ≤ j) (hx : Lk x ∨ Qt x) : Wd0 (ws.set j x) := by
  obtain ⟨y, h1, h2⟩ := h.beg
  refine ⟨fun z hz => ?_, y, ?_, h2⟩
  · rcases List.mem_or_eq_of_mem_set hz with hz | hz
    · exact h.all z hz
    · rw [hz]
      exact hx
  · rw [List.getElem?_set_ne (by omega)]
    exact h1
theorem Wd0.wds {ws : List Str} (h : Wd0 ws) : Wds ws := ⟨h.all, .inl h.beg⟩
theorem Wd0.swap {ws : List Str} {x y : Str} (h : Wd0 ws) (hl : 2 < ws.length) (hx : ws[0]? = some x) (hy : y ∈ (["set", "upto"] : List Str)) : Wds ((ws.set 1 x).set 0 y) := by
  obtain ⟨z, h1, h2⟩ := h.beg
  rw [hx] at h1
  cases h1
  refine ⟨fun u hu => ?_, .inr ⟨by rw [List.length_set, List.length_set]; exact hl, ⟨y, by rw [List.getElem?_set_self (by rw [List.length_set]; omega)], hy⟩, ⟨x, by rw [List.getElem?_set_ne (by omega), List.getElem?_set_self (by omega)], h2⟩⟩⟩
  rcases List.mem_or_eq_of_mem_set hu with hu | hu
  · rcases List.mem_or_eq_of_mem_set hu with hu | hu
    · exact h.all u hu
    · rw [hu]; exact .inl h2
  · rw [hu]
    exact .inr ((show ∀ y ∈ (["set", "upto"] : List Str), Qt y by decide +kernel) y hy)
theorem le1000 {n : Nat} (h : n ≤ 1000) : n ≤ sizeLine := Nat.le_trans h (by decide)
theorem log2_small {i : Int} {k : Nat} (h : i.natAbs < 2 ^ k) (hk : 0 < k) : i.natAbs.log2 < k := by
  by_cases e : i.natAbs = 0
  · rw [e]; exact hk
  · exact (Nat.log2_lt e).mpr h
theorem set_str (ws : List Str) (j : Nat) (x : Str) : (ws.map D.str).set j (.str x) = (ws.set j x).map D.str := by rw [List.map_set]
theorem app_str (ws : List Str) (x : Str) : ws.map D.str ++ [.str x] = (ws ++ [x]).map D.str := by rw [List.map_append]; rfl
theorem str_mem {ws : List Str} {x : Str} : D.str x ∈ ws.map D.str ↔ x ∈ ws := by
  rw [List.mem_map]
  exact ⟨fun ⟨y, h, e⟩ => by cases e; exact h, fun h => ⟨x, h, rfl⟩⟩
theorem az_ok {x : Str} (h : AZ x) : PySem.PyData.strOk x = true := by
  unfold PySem.PyData.strOk
  rw [Array.all_eq_true']
  intro c hc
  have := h c (by simpa using hc)
  exact decide_eq_true (by omega)
theorem wd_ok : ∀ {x : Str}, Lk x ∨ Qt x → PySem.PyData.strOk x = true := fun {x} h => by
  rcases h with h | h
  · exact (show ∀ x ∈ (["take", "case", "rest", "cap", "jump"] : List Str), PySem.PyData.strOk x = true by decide +kernel) x h
  · exact (show ∀ x ∈ (["skip", "cut", "upto", "set", "refuse"] : List Str), PySem.PyData.strOk x = true by decide +kernel) x h
theorem int_mem {ns : List Int} {x : Int} : D.int x ∈ ns.map D.int ↔ x ∈ ns := by
  rw [List.mem_map]
  exact ⟨fun ⟨y, h, e⟩ => by cases e; exact h, fun h => ⟨x, h, rfl⟩⟩
theorem int_plain {ns : List Int} : ∀ d ∈ ns.map D.int, Pl 0 d := fun d hd => by
  obtain ⟨x, hx, rfl⟩ := List.mem_map.mp hd
  trivial
theorem take_nodup {α : Type} {l : List α} (h : l.Nodup) {i : Nat} {x : α} (e : l[i]? = some x) : x ∉ l.take i := by
  intro hx
  obtain ⟨j, hj⟩ := List.getElem?_of_mem hx
  obtain ⟨hj1, hj2⟩ := List.getElem?_eq_some_iff.mp hj
  rw [List.length_take] at hj1
  rw [List.getElem?_take_of_lt (by omega)] at hj
  have := nd_ix h hj e
  omega
theorem take_more {α : Type} {l : List α} {i : Nat} {x : α} (e : l[i]? = some x) : l.take (i + 1) = l.take i ++ [x] := by rw [List.take_succ, e]; rfl
theorem str_plain {ws : List Str} (h : ∀ x ∈ ws, PySem.PyData.strOk x = true) : ∀ d ∈ ws.map D.str, Pl 0 d := fun d hd => by
  obtain ⟨x, hx, rfl⟩ := List.mem_map.mp hd
  exact h x hx
/-! ### names -/
/-- a name that may stand -/
structure Nm (x : Str) : Prop where
  az : AZ x
  lo : 1 ≤ x.length
  hi : x.length ≤ 12
def aRep (i : Nat) : Str := Hd.strRep (Str.ofString "a") (i + 1)
theorem aRep_nodup : ((List.range 12).map aRep).Nodup := by decide +kernel
theorem aRep_nm : ∀ i : _root_.Fin 12, Nm (aRep i.1) := fun i =>
  ⟨fun c hc => (show ∀ i : _root_.Fin 12, ∀ c ∈ (aRep i.1).cps.toList, 97 ≤ c ∧ c ≤ 122 by decide +kernel) i c hc, (show ∀ i : _root_.Fin 12, 1 ≤ (aRep i.1).length by decide +kernel) i, (show ∀ i : _root_.Fin 12, (aRep i.1).length ≤ 12 by decide +kernel) i⟩
theorem places_len {fs : List Nat} {k : Nat} (nd : fs.Nodup) (h : ∀ f ∈ fs, f < k) : fs.length ≤ k := by
  have := Hd.nodup_len (l' := List.range k) nd (fun f hx => List.mem_range.mpr (h f hx))
  rw [List.length_range] at this
  exact this
theorem nodup_snoc {α : Type} {l : List α} {a : α} (h : l.Nodup) (n : a ∉ l) : (l ++ [a]).Nodup := by
  rw [List.nodup_append]
  exact ⟨h, List.nodup_cons.mpr ⟨List.not_mem_nil, .nil⟩, fun x hx y hy e => n (by rw [List.mem_singleton] at hy; rw [← hy, ← e]; exact hx)⟩
theorem all_snoc {α : Type} {l : List α} {a : α} {q : α → Prop} (h : ∀ x ∈ l, q x) (n : q a) : ∀ x ∈ l ++ [a], q x := fun x hx => by
  rcases List.mem_append.mp hx with hx | hx
  · exact h x hx
  · rw [List.mem_singleton.mp hx]; exact n
theorem spare_is {ns : List Str} (h : ns.length < 12) : ∃ i, i < 12 ∧ aRep i ∉ ns := by
  apply Classical.byContradiction
  intro hc
  have h2 := Hd.nodup_len aRep_nodup (l' := ns) (fun a ha => by
    obtain ⟨i, hi, rfl⟩ := List.mem_map.mp ha
    apply Classical.byContradiction
    intro hn
    exact hc ⟨i, List.mem_range.mp hi, hn⟩)
  rw [List.length_map, List.length_range] at h2
  omega
/-! ### places -/
def wAt (ws : List Str) (i : Nat) : Str := ws.getD i (Str.ofString "")
theorem wAt_some {ws : List Str} {i : Nat} {x : Str} (h : ws[i]? = some x) : wAt ws i = x := by
  unfold wAt
  rw [List.getD_eq_getElem?_getD, h]
  rfl
theorem wAt_at {ws : List Str} {i : Nat} (h : i < ws.length) : ws[i]? = some (wAt ws i) := by
  rw [List.getElem?_eq_getElem h, wAt_some (List.getElem?_eq_getElem h)]
theorem wAt_mem {ws : List Str} {i : Nat} (h : i < ws.length) : wAt ws i ∈ ws := List.mem_of_getElem? (wAt_at h)
theorem at_str {ws : List Str} {i : Nat} {z : Int} (h : i < ws.length) (e : z = (i : Int)) : atI (ws.map D.str) z = some (.str (wAt ws i)) := by
  rw [e]
  refine atI_nat ?_
  rw [List.getElem?_map, wAt_at h]
  rfl
/-- where a line of words may go -/
def Gok (ws : List Str) (at_ g : Nat) : Prop := g < ws.length ∧ (¬ Lk (wAt ws at_) → Lk (wAt ws g) ∨ (0 < at_ ∧ at_ < g))
/-- the same by a rank of the lines -/
def GokR (rk : Nat → Nat) (ws : List Str) (at_ g : Nat) : Prop := g < ws.length ∧ (¬ Lk (wAt ws at_) → Lk (wAt ws g) ∨ (0 < at_ ∧ rk at_ < rk g))
def GokW (ws : List Str) (g : Nat) : Prop := g < ws.length ∧ True
def vals (s t : Int) (m : Nat) : List Int := (List.range m).map fun (k : Nat) => (s + t * (k : Int)).fmod 6
theorem vals5 : ∀ s : _root_.Fin 6, ∀ t ∈ ([1, 5] : List Int), (vals (s.1 : Int) t 5).Nodup := by decide +kernel
theorem vals_nodup {s t : Int} {m : Nat} (hs : 0 ≤ s) (hs6 : s < 6) (ht : t ∈ ([1, 5] : List Int)) (hm : m ≤ 5) : (vals s t m).Nodup := by
  have h := vals5 ⟨s.toNat, by omega⟩ t ht
  have e : ((s.toNat : Nat) : Int) = s := by omega
  simp only [e] at h
  exact h.sublist ((List.range_sublist.mpr hm).map _)
theorem vals_in {s t : Int} {m : Nat} : ∀ v ∈ vals s t m, 0 ≤ v ∧ v ≤ 5 := fun v hv => by
  obtain ⟨k, _, rfl⟩ := List.mem_map.mp hv
  have h1 := Int.fmod_nonneg_of_pos (s + t * (k : Int)) (b := 6) (by decide)
  have h2 := Int.fmod_lt_of_pos (s + t * (k : Int)) (b := 6) (by decide)
  exact ⟨h1, by omega⟩
theorem vals_len {s t : Int} {m : Nat} : (vals s t m).length = m := by unfold vals; rw [List.length_map, List.length_range]
theorem vals_succ (s t : Int) (i : Nat) : vals s t (i + 1) = vals s t i ++ [(s + t * (i : Int)).fmod 6] := by
  unfold vals
  rw [List.range_succ, List.map_append]
  rfl
/-! ### lines -/
/-- a line, its goals by their places -/
inductive Li where
  | case (wy : List (Int × Nat)) (o : Nat)
  | take (o : Nat)
  | num (w : Str) (c : Int) (o : Nat)
  | upto (c : Int) (a b : Nat)
  | fin (w : Str)
/-- the bounds of a number behind its word -/
def NumOk (w : Str) (c : Int) : Prop := (w = "rest" ∧ 2 ≤ c ∧ c ≤ 4) ∨ (w = "cap" ∧ 0 ≤ c ∧ c ≤ 5) ∨ (w = "jump" ∧ 1 ≤ c ∧ c ≤ 4) ∨ (w = "set" ∧ 0 ≤ c ∧ c ≤ 5) ∨ (w = "skip" ∧ -3 ≤ c ∧ c ≤ 4)
def LiOk (ws : List Str) (at_ : Nat) : Li → Prop
  | .case wy o => wAt ws at_ = "case" ∧ (wy.map (·.1)).Nodup ∧ (∀ y ∈ wy, 0 ≤ y.1 ∧ y.1 ≤ 5 ∧ Gok ws at_ y.2) ∧ wy.length ≤ 5 ∧ Gok ws at_ o
  | .take o => wAt ws at_ = "take" ∧ Gok ws at_ o
  | .num w c o => wAt ws at_ = w ∧ NumOk w c ∧ Gok ws at_ o
  | .upto c a b => wAt ws at_ = "upto" ∧ 0 ≤ c ∧ c ≤ 5 ∧ Gok ws at_ a ∧ Gok ws at_ b
  | .fin w => wAt ws at_ = w ∧ (w = "cut" ∨ w = "refuse")
/-- by a rank; by its shape alone -/
def LiOkR (rk : Nat → Nat) (ws : List Str) (at_ : Nat) : Li → Prop
  | .case wy o => wAt ws at_ = "case" ∧ (wy.map (·.1)).Nodup ∧ (∀ y ∈ wy, 0 ≤ y.1 ∧ y.1 ≤ 5 ∧ GokR rk ws at_ y.2) ∧ wy.length ≤ 5 ∧ GokR rk ws at_ o
  | .take o => wAt ws at_ = "take" ∧ GokR rk ws at_ o
  | .num w c o => wAt ws at_ = w ∧ NumOk w c ∧ GokR rk ws at_ o
  | .upto c a b => wAt ws at_ = "upto" ∧ 0 ≤ c ∧ c ≤ 5 ∧ GokR rk ws at_ a ∧ GokR rk ws at_ b
  | .fin w => wAt ws at_ = w ∧ (w = "cut" ∨ w = "refuse")
def LiOkW (ws : List Str) (at_ : Nat) : Li → Prop
  | .case wy o => wAt ws at_ = "case" ∧ (wy.map (·.1)).Nodup ∧ (∀ y ∈ wy, 0 ≤ y.1 ∧ y.1 ≤ 5 ∧ GokW ws y.2) ∧ wy.length ≤ 5 ∧ GokW ws o
  | .take o => wAt ws at_ = "take" ∧ GokW ws o
  | .num w c o => wAt ws at_ = w ∧ NumOk w c ∧ GokW ws o
  | .upto c a b => wAt ws at_ = "upto" ∧ 0 ≤ c ∧ c ≤ 5 ∧ GokW ws a ∧ GokW ws b
  | .fin w => wAt ws at_ = w ∧ (w = "cut" ∨ w = "refuse")
theorem LiOk.rk {ws : List Str} {at_ : Nat} {li : Li} (h : LiOk ws at_ li) : LiOkR (fun x => x) ws at_ li := by cases li <;> exact h
theorem GokR.weak {rk : Nat → Nat} {ws : List Str} {at_ g : Nat} (h : GokR rk ws at_ g) : GokW ws g := ⟨h.1, trivial⟩
theorem LiOkR.weak {rk : Nat → Nat} {ws : List Str} {at_ : Nat} {li : Li} (h : LiOkR rk ws at_ li) : LiOkW ws at_ li := by
  cases li with
  | case wy o => exact ⟨h.1, h.2.1, fun y hy => ⟨(h.2.2.1 y hy).1, (h.2.2.1 y hy).2.1, (h.2.2.1 y hy).2.2.weak⟩, h.2.2.2.1, h.2.2.2.2.weak⟩
  | take o => exact ⟨h.1, h.2.weak⟩
  | num w c o => exact ⟨h.1, h.2.1, h.2.2.weak⟩
  | upto c a b => exact ⟨h.1, h.2.1, h.2.2.1, h.2.2.2.1.weak, h.2.2.2.2.weak⟩
  | fin w => exact h
theorem LiOk.weak {ws : List Str} {at_ : Nat} {li : Li} (h : LiOk ws at_ li) : LiOkW ws at_ li := h.rk.weak
/-- a way, a line as data: its ways a list (drawn) or a tuple (kept) -/
def wayD (ns : List Str) (y : Int × Nat) : D := .tup [.int y.1, .str (wAt ns y.2)]
def liD (ns : List Str) (kept : Bool) : Li → D
  | .case wy o => .tup [.str "case", if kept = true then .tup (wy.map (wayD ns)) else .lst (wy.map (wayD ns)), .str (wAt ns o)]
  | .take o => .tup [.str "take", .str (wAt ns o)]
  | .num w c o => .tup [.str w, .int c, .str (wAt ns o)]
  | .upto c a b => .tup [.str "upto", .int c, .str (wAt ns a), .str (wAt ns b)]
  | .fin w => .tup [.str w]
/-- the pair of a name and a line -/
def pairD (ns : List Str) (kept : Bool) (y : Nat × Li) : D := .tup [.str (wAt ns y.1), liD ns kept y.2]
def numbered (ls : List Li) : List (Nat × Li) := (List.range ls.length).zip ls
theorem numbered_app (ls : List Li) (li : Li) : numbered (ls ++ [li]) = numbered ls ++ [(ls.length, li)] := by
  unfold numbered
  rw [List.length_append]
  show (List.range (ls.length + 1)).zip (ls ++ [li]) = _
  rw [List.range_succ, List.zip_append (by rw [List.length_range])]
  rfl
theorem numbered_len (ls : List Li) : (numbered ls).length = ls.length := by unfold numbered; rw [List.length_zip, List.length_range, Nat.min_self]
theorem numbered_at {ls : List Li} {i : Nat} {li : Li} (h : ls[i]? = some li) : (numbered ls)[i]? = some (i, li) := by
  unfold numbered
  rw [List.getElem?_zip_eq_some]
  exact ⟨List.getElem?_range (List.getElem?_eq_some_iff.mp h).1, h⟩
/-- a drawn reader's lines: names, words, lines by places -/
structure Drawn (ns ws : List Str) (ls : List Li) : Prop where
  len : ns.length = ws.length
  lenL : ls.length = ws.length
  pos : 1 ≤ ws.length
  most : ws.length ≤ 8
  nd : ns.Nodup
  nm : ∀ x ∈ ns, Nm x
  wds : WdsW ws
  okR : ∃ rk : Nat → Nat, (∀ i, i < ws.length → rk i < ws.length) ∧ ∀ i li, ls[i]? = some li → LiOkR rk ws i li
theorem Drawn.ok {ns ws : List Str} {ls : List Li} (d : Drawn ns ws ls) (i : Nat) (li : Li) (h : ls[i]? = some li) : LiOkW ws i li := by
  obtain ⟨rk, _, hr⟩ := d.okR
  exact (hr i li h).weak
theorem Drawn.mk' {ns ws : List Str} {ls : List Li} (len : ns.length = ws.length) (lenL : ls.length = ws.length) (pos : 1 ≤ ws.length) (most : ws.length ≤ 8) (nd : ns.Nodup) (nm : ∀ x ∈ ns, Nm x) (wds : Wds ws) (ok : ∀ i li, ls[i]? = some li → LiOk ws i li) : Drawn ns ws ls := ⟨len, lenL, pos, most, nd, nm, wds.weak, fun x => x, fun _ h => h, fun i li h => (ok i li h).rk⟩
/-- a drawn reader with all that its draws tell -/
structure DrS (ns ws : List Str) (ls : List Li) : Prop where
  len : ns.length = ws.length
  lenL : ls.length = ws.length
  pos : 1 ≤ ws.length
  most : ws.length ≤ 8
  nd : ns.Nodup
  nm : ∀ x ∈ ns, Nm x
  wds : Wds ws
  ok : ∀ i li, ls[i]? = some li → LiOk ws i li
theorem DrS.dr {ns ws : List Str} {ls : List Li} (h : DrS ns ws ls) : Drawn ns ws ls := Drawn.mk' h.len h.lenL h.pos h.most h.nd h.nm h.wds h.ok
def linesD (ns : List Str) (ls : List Li) (kept : Bool) : List D := (numbered ls).map (pairD ns kept)
theorem liD_tup (ns : List Str) (k : Bool) (li : Li) : ∃ ds, liD ns k li = .tup ds := by
  cases li <;> exact ⟨_, rfl⟩
theorem linesD_len {ns : List Str} {ls : List Li} {k : Bool} : (linesD ns ls k).length = ls.length := by unfold linesD; rw [List.length_map, numbered_len]
theorem wAt_inj {ns : List Str} (nd : ns.Nodup) {i j : Nat} (hi : i < ns.length) (hj : j < ns.length) (e : wAt ns i = wAt ns j) : i = j := nd_ix nd (wAt_at hi) (by rw [e]; exact wAt_at hj)
theorem linesD_app {ns : List Str} {ls : List Li} {li : Li} {k : Bool} : linesD ns (ls ++ [li]) k = linesD ns ls k ++ [pairD ns k (ls.length, li)] := by unfold linesD; rw [numbered_app, List.map_append]; rfl
theorem linesD_at {ns : List Str} {ls : List Li} {k : Bool} {i : Nat} {li : Li} (h : ls[i]? = some li) : (linesD ns ls k)[i]? = some (pairD ns k (i, li)) := by
  unfold linesD
  rw [List.getElem?_map, numbered_at h]
  rfl
/-- the tables of the law's own draws -/
abbrev lowE : List (Key × D) := [(Sum.inr "rest", .int 2), (Sum.inr "cap", .int 0), (Sum.inr "jump", .int 1), (Sum.inr "set", .int 0), (Sum.inr "skip", .int (-3))]
abbrev manyE : List (Key × D) := [(Sum.inr "rest", .int 3), (Sum.inr "cap", .int 6), (Sum.inr "jump", .int 4), (Sum.inr "set", .int 6), (Sum.inr "skip", .int 8)]
theorem lookI {kvs : List (Key × D)} {x : Str} {i : Int} (h : (match lookK kvs (Sum.inr x) with | some (.int j) => decide (j = i) | _ => false) = true) : lookK kvs (Sum.inr x) = some (.int i) := by
  split at h
  · rename_i j e
    rw [e, of_decide_eq_true h]
  · cases h
theorem keys5 : ([Sum.inr "rest", Sum.inr "cap", Sum.inr "jump", Sum.inr "set", Sum.inr "skip"] : List Key).Nodup := by decide +kernel
theorem num_of {x : Str} (h : x ∈ (["rest", "cap", "jump", "set", "skip"] : List Str)) : ∃ lo mn : Int, lookK lowE (Sum.inr x) = some (.int lo) ∧ lookK manyE (Sum.inr x) = some (.int mn) ∧ 0 < mn ∧ mn < 10 ∧ ∀ r, 0 ≤ r → r < mn → NumOk x (lo + r) := by
  rcases List.mem_cons.mp h with rfl | h
  · exact ⟨2, 3, lookI (by decide +kernel), lookI (by decide +kernel), by decide, by decide, fun r h0 h1 => .inl ⟨rfl, by omega, by omega⟩⟩
  rcases List.mem_cons.mp h with rfl | h
  · exact ⟨0, 6, lookI (by decide +kernel), lookI (by decide +kernel), by decide, by decide, fun r h0 h1 => .inr (.inl ⟨rfl, by omega, by omega⟩)⟩
  rcases List.mem_cons.mp h with rfl | h
  · exact ⟨1, 4, lookI (by decide +kernel), lookI (by decide +kernel), by decide, by decide, fun r h0 h1 => .inr (.inr (.inl ⟨rfl, by omega, by omega⟩))⟩
  rcases List.mem_cons.mp h with rfl | h
  · exact ⟨0, 6, lookI (by decide +kernel), lookI (by decide +kernel), by decide, by decide, fun r h0 h1 => .inr (.inr (.inr (.inl ⟨rfl, by omega, by omega⟩)))⟩
  rcases List.mem_cons.mp h with rfl | h
  · exact ⟨-3, 8, lookI (by decide +kernel), lookI (by decide +kernel), by decide, by decide, fun r h0 h1 => .inr (.inr (.inr (.inr ⟨rfl, by omega, by omega⟩)))⟩
  · cases h
theorem ten {x : Str} (h : Lk x ∨ Qt x) (h1 : x ∉ (["cut", "refuse"] : List Str)) (h2 : x ≠ "take") (h3 : x ≠ "case") (h4 : x ≠ "upto") : x ∈ (["rest", "cap", "jump", "set", "skip"] : List Str) := by
  unfold Lk Qt at h
  simp only [List.mem_cons, List.not_mem_nil, or_false] at h h1 ⊢
  rcases h with (h | h | h | h | h) | (h | h | h | h | h)
  · exact absurd h h2
  · exact absurd h h3
  · exact .inl h
  · exact .inr (.inl h)
  · exact .inr (.inr (.inl h))
  · exact .inr (.inr (.inr (.inr h)))
  · exact absurd (.inl h) h1
  · exact absurd h h4
  · exact .inr (.inr (.inr (.inl h)))
  · exact absurd (.inr h) h1
end Lw

/-! Exceptions of the program's own classes as values: made, a field read, isinstance. -/
namespace Xv
open PySem PySem.Spec PyProof.Rows L2

section
variable {X : Cx} {e : Expr} {es : List Expr} {te : TE} {ta : TA} {p pos : Pos}
/-- C(e, ..) as a value, C's own __init__ keeping sp -/
def tMkV (C : Addr) (sp : Sp) (ta : TA) : TE := fun σ H Q => ta σ H fun vs H1 => vs.length ≤ 1000 ∧ ∀ a, H1 a = none → sp (.ref a :: vs) (upd H1 a (exo a C none)) (fun v H2 => v = .non ∧ Q (.ref a) H2) (fun _ _ _ => False)
theorem pe_mkV {CX : CXT} {x : Str} {C fI : Addr} {k : Nat} {fd : FuncData} {ps : List Str} {sp : Sp} (T : OexC X.K C) (iC : PySem.W.findIn X.K (.ref C) "__init__" = some (some (.ref fI))) (tI : PySem.W.typeIn X.K (.ref fI) = some (.type "function"))
    (F1 : FnOk X.prog X.w X.K X.mg X.base CX k fI fd ps sp) (hr : Room (k + 1) X.A) (hb : Binds X.K fd ps []) (hx : Passes CX X (fun _ _ _ => False)) (hg : Gl X x) (hm : X.mg x = some (.ref C)) (ha : PA X (e :: es) ta)
    (hdb : (x == ("__debug__" : Str)) = false := by decide) (he : starEach (e :: es) X.env = (false, eval e X.env) :: starEach es X.env := by rfl) (hpl : (backTo pos (starEach es X.env)).any (·.1) = false := by rfl) :
    PE X (.Call (.Name x p) (e :: es) [] pos) (tMkV C sp ta) := by
  refine ⟨fun pins s σ H Q I h => ?_⟩
  obtain ⟨nm, q, N, bs, bm, sn, sub, ab, col, dd, k0, k1, k2, k3, k5, hC, hbm⟩ := T.cls
  refine wpAny_Call_Name_kw (ld_glob I hg hm ?_ hdb)
  refine PySem.W.callWith_K (h₀ := X.base) I.ok.mod.kin T.kC (thn (ha.run pos pins s σ H _ I h) fun us s1 ⟨vs, H1, I1, r1, hz, q1⟩ => ⟨I1.kIn, ?_⟩) he hpl
  show wpAny _ _ (call (.ref C) us) _ _ _
  obtain ⟨hp, g, dr, tk, os⟩ := s1
  have hsz : hp.objs.size ≤ hp.objs.size + 1 := Nat.le_succ _
  have hn : H1 (hp.objs.size + 1) = none := I1.hok.fresh hsz
  have hq := q1 (hp.objs.size + 1) hn
  have kk : ∀ b o, hp.get? b = some o → ((hp.push (PySem.W.kdv_tup us)).push (PySem.HandSPX.excO C hp.objs.size)).get? b = some o := fun b o e => Heap.get?_push_of_some _ (Heap.get?_push_of_some _ e)
  have hget : ((hp.push (PySem.W.kdv_tup us)).push (PySem.HandSPX.excO C hp.objs.size)).get? (hp.objs.size + 1) = some (PySem.HandSPX.excO C hp.objs.size) := by heap_get
  have I2 : Inv X pins σ (upd H1 (hp.objs.size + 1) (exo (hp.objs.size + 1) C none)) ⟨(hp.push (PySem.W.kdv_tup us)).push (PySem.HandSPX.excO C hp.objs.size), g, dr, tk, os⟩ :=
    I1.laid (t' := tk) (a := hp.objs.size + 1) (o := exo (hp.objs.size + 1) C none) (h' := (hp.push (PySem.W.kdv_tup us)).push (PySem.HandSPX.excO C hp.objs.size)) kk hsz (exo_ok hget)
  have r2 : Vals (V.ref (hp.objs.size + 1) :: vs) (Value.ref (hp.objs.size + 1) :: us) := .cons rfl r1
  have hl : (Value.ref (hp.objs.size + 1) :: us).length = ps.length := by
    have e := r2.length
    rw [F1.len _ _ _ _ hq] at e
    exact e.symm
  have hus : us.length ≤ sizeLine := by
    rw [← Paired.length r1, sizeLine_eq]
    omega
  have b0 := hb ⟨(hp.push (PySem.W.kdv_tup us)).push (PySem.HandSPX.excO C hp.objs.size), g, dr, tk, os⟩ (Value.ref (hp.objs.size + 1) :: us) I2.kIn (by rw [List.append_nil]; exact hl)
  rw [List.append_nil] at b0
  refine wpAny_call (PySem.HandSPX.call_own F.excBase_ValueError (fun Y => PySem.HandSPX.refsVE_contains Y bm hbm) (I1.kIn _ _ hC) (PySem.W.looks_findIn I1.kIn iC) (fun self => PySem.W.bind_fn I1.kIn self tI) hus
    (codeAny_mono (F1.run _ X.stack _ _ ⟨Value.ref (hp.objs.size + 1) :: us, []⟩ (Value.ref (hp.objs.size + 1) :: us) _ _ (fun _ _ _ => False) (hr.make C us []) (I2.env0.make C us []) b0 r2 hq) fun r s' hq' => ?_))
  cases r with
  | error er => exact hx pins σ _ _ er s' I2 hq'
  | ok fl =>
    cases fl with
    | ret u =>
      obtain ⟨v, H2, os2, bare2, un2, hok2, rv, ev, q2⟩ := hq'
      subst ev
      have J : Inv X pins σ H2 s' := I2.call' (ch := []) os2 un2 hok2 bare2 (fun b z => absurd z (by simp))
      exact ⟨rv, .ref (hp.objs.size + 1), H2, J, rfl, q2⟩
    | next => exact False.elim hq'
    | brk => exact False.elim hq'
    | cont => exact False.elim hq'
/-- C(), an own class without own __init__ -/
def tMkV0 (C : Addr) : TE := fun _ H Q => ∀ a, H a = none → Q (.ref a) (upd H a (exo a C none))
theorem pe_mkV0 {C : Addr} {x : Str} {bmB : List Value} {B newId initId : String} (F : ExcBaseFacts B newId initId bmB) (q : PySem.W.excIn X.K C bmB newId = true) (gC : X.mg x = some (.ref C)) (kC : PySem.W.keepIn X.K (.ref C) = true) (hg : Gl X x)
    (hdb : (x == ("__debug__" : Str)) = false := by decide) : PE X (.Call (.Name x p) [] [] pos) (tMkV0 C) := by
  refine ⟨fun pins s σ H Q I h => ?_⟩
  refine wpAny_Call_Name_kw (ld_glob I hg gC ?_ hdb)
  refine PySem.W.callWith_K0 I.kIn kC ?_
  obtain ⟨bm, N, nm, qn, bs, hdct, sn, sub, ab, col, dd, k0, k1, k2, k3, k5, mN, hC, hN, hni, T⟩ := exc_obj I.kIn q
  refine wpAny_call_exc_subT F T hC hN hni (fun h' a hm => ?_) (by show 0 ≤ sizeLine; exact Nat.zero_le _)
  have hn : H a = none := I.hok.gone hm.new
  obtain ⟨t, ht, _, _⟩ := hm.there
  exact ⟨.ref a, upd H a (exo a C none), I.laidN hm.keeps hm.new hn (exo_ok ht), rfl, h a hn⟩

/-- e.f, e an exception held as a value -/
def tXat (K : PySem.W.Frag) (f : Str) (te : TE) : TE := fun σ H Q => te σ H fun x H1 => ∃ (a C dx : Addr) (fs : List (Str × V)) (v : V), x = .ref a ∧ H1 a = some (exo a C (some dx)) ∧ H1 dx = some (exd dx fs) ∧ XfC K C ∧ PySem.W.findIn K (.ref C) f = some none ∧ fs.lookup f = some v ∧ Q v H1
theorem pe_xat {n : Str} (he : PE X e te) (hb : attributeBase e n X.env (eval e X.env) = eval e X.env := by rfl) : PE X (.Attribute e n pos) (tXat X.K n te) := by
  refine ⟨fun pins s σ H Q I h => ?_⟩
  refine attr_of hb (thn (he.run pins s σ H _ I h) fun u s1 hh => ?_)
  obtain ⟨x, H1, I1, rx, a, C, dd, fs, v, ex, ea, ed, T, hno, l, q⟩ := hh
  subst ex
  obtain rfl : u = Value.ref a := rx
  obtain ⟨t1, ha⟩ := exo_at I1.hok ea
  obtain ⟨mA, hns, hr⟩ := exd_at I1.hok ed
  obtain ⟨od, ho, hl⟩ := lookIn_ns hns
  obtain ⟨u, hu, ru⟩ := RelO.some_of (v := v) (o := mA n) (by rw [← l]; exact hr n)
  have J : PySem.W.InstAt s1.heap a _ C (some od) := ⟨ha, rfl, rfl, ho⟩
  exact HandSPX.exc_get I1.kIn J T.ga T.gg T.exC (PySem.W.findObj_own T.hdC hno rfl (by rw [hl, hu])) (handed_of ru) ⟨v, H1, I1.tok _, ru, q⟩

/-- isinstance(e, c), e an exception held as a value -/
def rIsX (K : PySem.W.Frag) : List V → Hp → VK → Prop := fun xs H Q => ∃ (c : V) (cv : Value) (b : Bool) (a D : Addr) (d : Option Addr), xs = [.ref a, c] ∧ ClsV c cv ∧ H a = some (exo a D d) ∧ (∀ dx, d = some dx → ∃ fs, H dx = some (exd dx fs)) ∧ ExcC K D ∧ PySem.W.kitOne K (.ref D) cv = some b ∧ Q (.bl b) H
theorem call_isX : CallR X (.builtin "isinstance") (rIsX X.K) := by
  intro pins s σ H xs us Q I r h
  obtain ⟨c, cv, b, a, D, d, rfl, k, ea, hd, T, e, q⟩ := h
  obtain ⟨u1, u2, rfl, r1, r2⟩ := vals2 r
  have e2 := k.eq r2
  subst e2
  obtain rfl : u1 = Value.ref a := r1
  obtain ⟨t1, ha⟩ := exo_at I.hok ea
  have hcl : (PySem.W.clsIn X.K D).isSome = true := by
    obtain ⟨cd, hc, _⟩ := PySem.W.any_some T.hd
    rw [hc]; rfl
  cases d with
  | none =>
    have J : PySem.W.InstAt s.heap a _ D none := ⟨ha, rfl, rfl, trivial⟩
    exact PySem.W.kia_one (PySem.W.kitx_exc hcl T.hg T.hk T.hs T.ha T.hn T.ht T.hm) I.kIn J e (fun z => nomatch z) fun tk => ⟨.bl b, H, I.tok tk, rfl, q⟩
  | some dx =>
    obtain ⟨fs, ed⟩ := hd dx rfl
    obtain ⟨mA, hns, hr⟩ := exd_at I.hok ed
    obtain ⟨od, ho, hl⟩ := lookIn_ns hns
    have J : PySem.W.InstAt s.heap a _ D (some od) := ⟨ha, rfl, rfl, ho⟩
    exact PySem.W.kia_one (PySem.W.kitx_exc hcl T.hg T.hk T.hs T.ha T.hn T.ht T.hm) I.kIn J e (fun z => nomatch z) fun tk => ⟨.bl b, H, I.tok tk, rfl, q⟩
end
end Xv
namespace Xv
open PySem PySem.Spec PyProof.Rows L2 Evl
/-- at a: an exception of the class at C with one field -/
def Er (H : Hp) (a C : Addr) (f : Str) (v : V) : Prop := ∃ dx : Addr, H a = some (exo a C (some dx)) ∧ H dx = some (exd dx [(f, v)])
theorem Er.mono {H H' : Hp} {a C : Addr} {f : Str} {v : V} (e : Ex H H') (h : Er H a C f v) : Er H' a C f v := by
  obtain ⟨dx, h1, h2⟩ := h
  exact ⟨dx, e _ _ h1, e _ _ h2⟩
/-- x is an exception of the class at C -/
def Ek (H : Hp) (x : V) (C : Addr) : Prop := ∃ (a : Addr) (d : Option Addr), x = .ref a ∧ H a = some (exo a C d) ∧ ∀ dx, d = some dx → ∃ fs, H dx = some (exd dx fs)
theorem Er.ek {H : Hp} {a C : Addr} {f : Str} {v : V} (h : Er H a C f v) : Ek H (.ref a) C := by
  obtain ⟨dx, h1, h2⟩ := h
  exact ⟨a, some dx, rfl, h1, fun d e => by cases e; exact ⟨_, h2⟩⟩
theorem Ek.mono {H H' : Hp} {x : V} {C : Addr} (e : Ex H H') (h : Ek H x C) : Ek H' x C := by
  obtain ⟨a, d, h1, h2, h3⟩ := h
  exact ⟨a, d, h1, e _ _ h2, fun dx q => by obtain ⟨fs, z⟩ := h3 dx q; exact ⟨fs, e _ _ z⟩⟩
def spInitX (C : Addr) (f : Str) : Sp := fun vs H Q _ => ∃ (a : Addr) (v : V), vs = [.ref a, v] ∧ H a = some (exo a C none) ∧ ∀ dx, H dx = none → dx ≠ a → Q .non (upd (upd H dx (exd dx [(f, v)])) a (exo a C (some dx)))
theorem i_mk {C : Addr} {f : Str} {v : V} {H : Hp} {R : Addr → Hp → Prop} (q : ∀ a H2, H a = none → Ex H H2 → Er H2 a C f v → R a H2) :
    [v].length ≤ 1000 ∧ ∀ a, H a = none → spInitX C f (.ref a :: [v]) (upd H a (exo a C none)) (fun u H2 => u = .non ∧ R a H2) (fun _ _ _ => False) := by
  refine ⟨by show 1 ≤ 1000; decide, fun a ha => ⟨a, v, rfl, upd_same, fun dx hd ne => ⟨rfl, q a _ ha (fun b o e => ?_) ⟨dx, upd_same, ?_⟩⟩⟩⟩
  · have nb : b ≠ a := ne_of_none e ha
    have nd : b ≠ dx := ne_of_none (H := upd H a (exo a C none)) (by rw [upd_ne nb]; exact e) hd
    rw [upd_ne nb, upd_ne nd, upd_ne nb]
    exact e
  · rw [upd_ne ne, upd_same]
theorem i_mkV {C : Addr} {sp : Sp} {A : TA} {σ : L2.St} {H : Hp} {Q : VK} (q : A σ H fun vs H1 => vs.length ≤ 1000 ∧ ∀ a, H1 a = none → sp (.ref a :: vs) (upd H1 a (exo a C none)) (fun v H2 => v = .non ∧ Q (.ref a) H2) (fun _ _ _ => False)) : tMkV C sp A σ H Q := q
theorem i_mkV0 {C : Addr} {σ : L2.St} {H : Hp} {Q : VK} (q : ∀ a H2, H a = none → Ex H H2 → Ek H2 (.ref a) C → Q (.ref a) H2) : tMkV0 C σ H Q := fun a ha => q a _ ha (Ex.new ha) ⟨a, none, rfl, upd_same, fun _ e => nomatch e⟩
theorem i_xat {K : PySem.W.Frag} {f : Str} {te : TE} {σ : L2.St} {H : Hp} {Q : VK} (q : te σ H fun x H1 => ∃ (a C dx : Addr) (fs : List (Str × V)) (v : V), x = .ref a ∧ H1 a = some (exo a C (some dx)) ∧ H1 dx = some (exd dx fs) ∧ XfC K C ∧ PySem.W.findIn K (.ref C) f = some none ∧ fs.lookup f = some v ∧ Q v H1) : tXat K f te σ H Q := q
/-- what the written part says of an own exception class that keeps one field -/
structure XC (K : PySem.W.Frag) (C fI : Addr) (f : Str) : Prop where
  oex : OexC K C
  xf : XfC K C
  no : PySem.W.findIn K (.ref C) f = some none
  iC : PySem.W.findIn K (.ref C) "__init__" = some (some (.ref fI))
  tI : PySem.W.typeIn K (.ref fI) = some (.type "function")
theorem i_er {K : PySem.W.Frag} {C fI a : Addr} {f : Str} {v : V} {H : Hp} {R : V → Prop} (T : XC K C fI f) (r : Er H a C f v) (q : R v) : ∃ (a' C' dx : Addr) (fs : List (Str × V)) (v' : V), V.ref a = .ref a' ∧ H a' = some (exo a' C' (some dx)) ∧ H dx = some (exd dx fs) ∧ XfC K C' ∧ PySem.W.findIn K (.ref C') f = some none ∧ fs.lookup f = some v' ∧ R v' := by
  obtain ⟨dx, h1, h2⟩ := r
  exact ⟨a, C, dx, _, v, rfl, h1, h2, T.xf, T.no, by simp [List.lookup], q⟩
theorem ev_er {K : PySem.W.Frag} {C fI a : Addr} {f : Str} {v : V} {H : Hp} {te : TE} {σ : L2.St} (T : XC K C fI f) (h : Ev te σ H (.ref a)) (r : Er H a C f v) : Ev (tXat K f te) σ H v := fun H1 e Q q =>
  h H1 e _ fun H2 e2 => i_er T (r.mono (e.trans e2)) (q H2 e2)
theorem i_isX {K : PySem.W.Frag} {C D : Addr} {x : V} {b : Bool} {H : Hp} {Q : VK} (T : ExcC K D) (r : Ek H x D) (k : PySem.W.kitOne K (.ref D) (.ref C) = some b) (q : Q (.bl b) H) : rIsX K [x, .ref C] H Q := by
  obtain ⟨a, d, rfl, h1, h2⟩ := r
  exact ⟨.ref C, .ref C, b, a, D, d, rfl, .own C, h1, h2, T, k, q⟩
mutual
theorem dp_mono {K : PySem.W.Frag} {H H' : Hp} (e : Ex H H') : ∀ {v : V} {d : PyData}, Dp K H v d → Dp K H' v d
  | _, _, .non => .non
  | _, _, .bl b => .bl b
  | _, _, .int i => .int i
  | _, _, .str x => .str x
  | _, _, .lst h a => .lst (ex_l e h) (dpAll_mono e a)
  | _, _, .tup h a => .tup (ex_t e h) (dpAll_mono e a)
theorem dpAll_mono {K : PySem.W.Frag} {H H' : Hp} (e : Ex H H') : ∀ {vs : List V} {ds : List PyData}, DpAll K H vs ds → DpAll K H' vs ds
  | _, _, .nil => .nil
  | _, _, .cons a b => .cons (dp_mono e a) (dpAll_mono e b)
end
theorem dp_bools {K : PySem.W.Frag} {H : Hp} : ∀ bs : List Bool, DpAll K H (bs.map V.bl) (bs.map PyData.bool)
  | [] => .nil
  | b :: r => .cons (.bl b) (dp_bools r)
theorem dp_ints {K : PySem.W.Frag} {H : Hp} : ∀ bs : List Int, DpAll K H (bs.map V.int) (bs.map PyData.int)
  | [] => .nil
  | b :: r => .cons (.int b) (dp_ints r)
end Xv
namespace Xv
open PySem PySem.Spec PyProof.Rows L2 Evl
theorem et_yes {σ : L2.St} {H : Hp} : EvT tYes σ H true := fun H1 _ _ q => q H1 (Ex.refl H1)
theorem i_eqSame {K : PySem.W.Frag} {x y : V} {d : PyData} {H : Hp} {Q : VK} (h1 : Dp K H x d) (h2 : Dp K H y d) (s : SeqAt.shaped d = true) (q : Q (.bl true) H) : rEqD K x y H Q :=
  ⟨d, d, h1, h2, s, s, by rw [SeqAt.eqv_refl d (SeqAt.canLay_of_shaped s)]; exact q⟩
theorem i_neSame {K : PySem.W.Frag} {x y : V} {d : PyData} {H : Hp} {Q : VK} (h1 : Dp K H x d) (h2 : Dp K H y d) (s : SeqAt.shaped d = true) (q : Q (.bl false) H) : rNeD K x y H Q :=
  ⟨d, d, h1, h2, s, s, by rw [SeqAt.eqv_refl d (SeqAt.canLay_of_shaped s)]; exact q⟩
end Xv
namespace Xv
open PySem PySem.Spec PyProof.Rows L2 Evl
theorem i_isXty {K : PySem.W.Frag} {D : Addr} {x : V} {n : String} {b : Bool} {H : Hp} {Q : VK} (T : ExcC K D) (r : Ek H x D) (k : PySem.W.kitOne K (.ref D) (.type n) = some b) (q : Q (.bl b) H) : rIsX K [x, .ty n] H Q := by
  obtain ⟨a, d, rfl, h1, h2⟩ := r
  exact ⟨.ty n, .type n, b, a, D, d, rfl, .ty n, h1, h2, T, k, q⟩
/-- all but p stands as it stood -/
def But (p : Addr) (H H' : Hp) : Prop := ∀ b, b ≠ p → H' b = H b
theorem But.upd {p : Addr} {H : Hp} {o : HO} : But p H (upd H p o) := fun _ hb => upd_ne hb
theorem But.ex {p : Addr} {H0 H H' : Hp} (b : But p H H') (e : Ex H0 H) (n : H0 p = none) : Ex H0 H' := fun a o h => by rw [b a (ne_of_none h n)]; exact e a o h
theorem But.at {p a : Addr} {H H' : Hp} {o : HO} (b : But p H H') (h : H a = some o) (n : a ≠ p) : H' a = some o := by rw [b a n]; exact h
end Xv

set_option synthInstance.maxHeartbeats 4000000
set_option synthInstance.maxSize 100000
namespace Lw
open PySem L2
def topS (i : Nat) : Stmt := PySem.Challenge.pw_splitalike_k07_whole_rows_by_runs.main.body.getD i (.Pass ⟨0, 0, 0, 0⟩)
abbrev s_joined : Stmt := topS 10
theorem sc_joined : FnScope ["pairs", "runs", "count", "cell"] ["pairs"] (defScope s_joined) := ⟨rfl, rfl, rfl, by decide +kernel, rfl, by decide +kernel, by decide +kernel⟩
abbrev s_law_draw : Stmt := topS 12
theorem sc_law_draw : FnScope ["_law_pen", "_law_many", "_law_spot", "_law_at", "_law_cell", "_law_mixed"] ["_law_pen", "_law_many"] (defScope s_law_draw) := ⟨rfl, rfl, rfl, by decide +kernel, rfl, by decide +kernel, by decide +kernel⟩
abbrev s_law_pick : Stmt := topS 13
theorem sc_law_pick : FnScope ["_law_pen", "_law_row"] ["_law_pen", "_law_row"] (defScope s_law_pick) := ⟨rfl, rfl, rfl, by decide +kernel, rfl, by decide +kernel, by decide +kernel⟩
abbrev s_law_ten : Stmt := topS 14
theorem sc_law_ten : FnScope ["_law_pen", "_law_number", "_law_k"] ["_law_pen"] (defScope s_law_ten) := ⟨rfl, rfl, rfl, by decide +kernel, rfl, by decide +kernel, by decide +kernel⟩
abbrev s_law_some : Stmt := topS 15
theorem sc_law_some : FnScope ["_law_pen", "_law_many", "_law_found", "_law_k", "_law_count", "_law_cell"] ["_law_pen", "_law_many"] (defScope s_law_some) := ⟨rfl, rfl, rfl, by decide +kernel, rfl, by decide +kernel, by decide +kernel⟩
abbrev s_law_merged : Stmt := topS 16
theorem sc_law_merged : FnScope ["_law_runs", "_law_found", "_law_count", "_law_cell"] ["_law_runs"] (defScope s_law_merged) := ⟨rfl, rfl, rfl, by decide +kernel, rfl, by decide +kernel, by decide +kernel⟩
abbrev s_law_size : Stmt := topS 17
theorem sc_law_size : FnScope ["_law_runs", "_law_count", "_law_cell"] ["_law_runs"] (defScope s_law_size) := ⟨rfl, rfl, rfl, by decide +kernel, rfl, by decide +kernel, by decide +kernel⟩
abbrev s_law_part : Stmt := topS 18
theorem sc_law_part : FnScope ["_law_runs", "_law_start", "_law_stop", "_law_found", "_law_behind", "_law_count", "_law_cell"] ["_law_runs", "_law_start", "_law_stop"] (defScope s_law_part) := ⟨rfl, rfl, rfl, by decide +kernel, rfl, by decide +kernel, by decide +kernel⟩
abbrev s_law_fits : Stmt := topS 19
theorem sc_law_fits : FnScope ["_law_row", "_law_runs", "_law_due", "_law_place", "_law_count", "_law_cell", "_law_cells"] ["_law_row", "_law_runs"] (defScope s_law_fits) := ⟨rfl, rfl, rfl, by decide +kernel, rfl, by decide +kernel, by decide +kernel⟩
abbrev s_law_places : Stmt := topS 20
theorem sc_law_places : FnScope ["_law_runs", "_law_size_here", "_law_ends", "_law_place", "_law_count", "_law_cell"] ["_law_runs"] (defScope s_law_places) := ⟨rfl, rfl, rfl, by decide +kernel, rfl, by decide +kernel, by decide +kernel⟩
abbrev s_law_parts_fit : Stmt := topS 21
theorem sc_law_parts_fit : FnScope ["_law_pen", "_law_row", "_law_runs", "_law_ends", "_law_k", "_law_start", "_law_stop"] ["_law_pen", "_law_row", "_law_runs"] (defScope s_law_parts_fit) := ⟨rfl, rfl, rfl, by decide +kernel, rfl, by decide +kernel, by decide +kernel⟩
abbrev s_law_short_fits : Stmt := topS 22
theorem sc_law_short_fits : FnScope ["_law_runs", "_law_cells", "_law_count", "_law_cell", "_law_short", "_law_told"] ["_law_runs"] (defScope s_law_short_fits) := ⟨rfl, rfl, rfl, by decide +kernel, rfl, by decide +kernel, by decide +kernel⟩
abbrev s_Row___init : Stmt := inClass (topS 9) 0
theorem sc_Row___init : FnScope ["self", "cells", "cell"] ["self", "cells"] (defScope s_Row___init) := ⟨rfl, rfl, rfl, by decide +kernel, rfl, by decide +kernel, by decide +kernel⟩
abbrev s_Row_of_runs : Stmt := inClass (topS 9) 1
theorem sc_Row_of_runs : FnScope ["runs", "count", "cell", "row"] ["runs"] (defScope s_Row_of_runs) := ⟨rfl, rfl, rfl, by decide +kernel, rfl, by decide +kernel, by decide +kernel⟩
abbrev s_Row___eq : Stmt := inClass (topS 9) 2
theorem sc_Row___eq : FnScope ["self", "other"] ["self", "other"] (defScope s_Row___eq) := ⟨rfl, rfl, rfl, by decide +kernel, rfl, by decide +kernel, by decide +kernel⟩
abbrev s_Row_size : Stmt := inClass (topS 9) 3
theorem sc_Row_size : FnScope ["self", "count", "_"] ["self"] (defScope s_Row_size) := ⟨rfl, rfl, rfl, by decide +kernel, rfl, by decide +kernel, by decide +kernel⟩
abbrev s_Row_cell_at : Stmt := inClass (topS 9) 4
theorem sc_Row_cell_at : FnScope ["self", "place", "end", "count", "cell"] ["self", "place"] (defScope s_Row_cell_at) := ⟨rfl, rfl, rfl, by decide +kernel, rfl, by decide +kernel, by decide +kernel⟩
abbrev s_Row_part : Stmt := inClass (topS 9) 5
theorem sc_Row_part : FnScope ["self", "start", "stop", "size", "place", "pieces", "begin", "count", "cell", "end", "inside"] ["self", "start", "stop"] (defScope s_Row_part) := ⟨rfl, rfl, rfl, by decide +kernel, rfl, by decide +kernel, by decide +kernel⟩
abbrev s_Row_cells : Stmt := inClass (topS 9) 6
theorem sc_Row_cells : FnScope ["self", "count", "cell", "_"] ["self"] (defScope s_Row_cells) := ⟨rfl, rfl, rfl, by decide +kernel, rfl, by decide +kernel, by decide +kernel⟩
abbrev s_Row___add : Stmt := inClass (topS 9) 7
theorem sc_Row___add : FnScope ["self", "other"] ["self", "other"] (defScope s_Row___add) := ⟨rfl, rfl, rfl, by decide +kernel, rfl, by decide +kernel, by decide +kernel⟩
abbrev s_Row___mul : Stmt := inClass (topS 9) 8
theorem sc_Row___mul : FnScope ["self", "times", "many", "count", "cell"] ["self", "times"] (defScope s_Row___mul) := ⟨rfl, rfl, rfl, by decide +kernel, rfl, by decide +kernel, by decide +kernel⟩
abbrev s_Row___contains : Stmt := inClass (topS 9) 9
theorem sc_Row___contains : FnScope ["self", "x", "_", "cell"] ["self", "x"] (defScope s_Row___contains) := ⟨rfl, rfl, rfl, by decide +kernel, rfl, by decide +kernel, by decide +kernel⟩
abbrev s_law : Stmt := topS 23
theorem sc_law : FnScope ["_law_script", "_law_pen", "_law_turn", "_law_runs", "_law_other", "_law_handed", "_law_row", "_law_second", "_law_times", "_law_lone", "_law_far", "_law_product", "_law_count", "_law_cell"] ["_law_script"] (defScope s_law) := ⟨rfl, rfl, rfl, by decide +kernel, rfl, by decide +kernel, by decide +kernel⟩

structure Tx (w : World) (K : PySem.W.Frag) (mg : Str → Option Value) where
  f_joined : Addr
  d_joined : FuncData
  F_joined : Fun K "_joined" "_joined" s_joined f_joined d_joined
  b_joined : Binds K d_joined ["pairs"] []
  m_joined : mg "_joined" = some (.ref f_joined)
  f_law_draw : Addr
  d_law_draw : FuncData
  F_law_draw : Fun K "_law_draw" "_law_draw" s_law_draw f_law_draw d_law_draw
  b_law_draw : Binds K d_law_draw ["_law_pen", "_law_many"] []
  m_law_draw : mg "_law_draw" = some (.ref f_law_draw)
  f_law_pick : Addr
  d_law_pick : FuncData
  F_law_pick : Fun K "_law_pick" "_law_pick" s_law_pick f_law_pick d_law_pick
  b_law_pick : Binds K d_law_pick ["_law_pen", "_law_row"] []
  m_law_pick : mg "_law_pick" = some (.ref f_law_pick)
  f_law_ten : Addr
  d_law_ten : FuncData
  F_law_ten : Fun K "_law_ten" "_law_ten" s_law_ten f_law_ten d_law_ten
  b_law_ten : Binds K d_law_ten ["_law_pen"] []
  m_law_ten : mg "_law_ten" = some (.ref f_law_ten)
  f_law_some : Addr
  d_law_some : FuncData
  F_law_some : Fun K "_law_some" "_law_some" s_law_some f_law_some d_law_some
  b_law_some : Binds K d_law_some ["_law_pen", "_law_many"] []
  m_law_some : mg "_law_some" = some (.ref f_law_some)
  f_law_merged : Addr
  d_law_merged : FuncData
  F_law_merged : Fun K "_law_merged" "_law_merged" s_law_merged f_law_merged d_law_merged
  b_law_merged : Binds K d_law_merged ["_law_runs"] []
  m_law_merged : mg "_law_merged" = some (.ref f_law_merged)
  f_law_size : Addr
  d_law_size : FuncData
  F_law_size : Fun K "_law_size" "_law_size" s_law_size f_law_size d_law_size
  b_law_size : Binds K d_law_size ["_law_runs"] []
  m_law_size : mg "_law_size" = some (.ref f_law_size)
  f_law_part : Addr
  d_law_part : FuncData
  F_law_part : Fun K "_law_part" "_law_part" s_law_part f_law_part d_law_part
  b_law_part : Binds K d_law_part ["_law_runs", "_law_start", "_law_stop"] []
  m_law_part : mg "_law_part" = some (.ref f_law_part)
  f_law_fits : Addr
  d_law_fits : FuncData
  F_law_fits : Fun K "_law_fits" "_law_fits" s_law_fits f_law_fits d_law_fits
  b_law_fits : Binds K d_law_fits ["_law_row", "_law_runs"] []
  m_law_fits : mg "_law_fits" = some (.ref f_law_fits)
  f_law_places : Addr
  d_law_places : FuncData
  F_law_places : Fun K "_law_places" "_law_places" s_law_places f_law_places d_law_places
  b_law_places : Binds K d_law_places ["_law_runs"] []
  m_law_places : mg "_law_places" = some (.ref f_law_places)
  f_law_parts_fit : Addr
  d_law_parts_fit : FuncData
  F_law_parts_fit : Fun K "_law_parts_fit" "_law_parts_fit" s_law_parts_fit f_law_parts_fit d_law_parts_fit
  b_law_parts_fit : Binds K d_law_parts_fit ["_law_pen", "_law_row", "_law_runs"] []
  m_law_parts_fit : mg "_law_parts_fit" = some (.ref f_law_parts_fit)
  f_law_short_fits : Addr
  d_law_short_fits : FuncData
  F_law_short_fits : Fun K "_law_short_fits" "_law_short_fits" s_law_short_fits f_law_short_fits d_law_short_fits
  b_law_short_fits : Binds K d_law_short_fits ["_law_runs"] []
  m_law_short_fits : mg "_law_short_fits" = some (.ref f_law_short_fits)
  z_int : mg "int" = none
  z_len : mg "len" = none
  z_max : mg "max" = none
  z_min : mg "min" = none
  z_range : mg "range" = none
  z_list : mg "list" = none
  z_tuple : mg "tuple" = none
  z_isinstance : mg "isinstance" = none
  z_sum : mg "sum" = none
  t_MOST_RUNS : Tok
  m_MOST_RUNS : mg "MOST_RUNS" = some (.int 1000 t_MOST_RUNS)
  t_MOST_CELLS : Tok
  m_MOST_CELLS : mg "MOST_CELLS" = some (.int 1000 t_MOST_CELLS)
  c_Row : Addr
  m_Row : mg "Row" = some (.ref c_Row)
  cl_Row : Cls K c_Row
  ob_Row : Da.ObjC K c_Row
  n_Row_runs : NoAttr K c_Row "runs"
  f_Row___init : Addr
  d_Row___init : FuncData
  dd_Row___init : V
  F_Row___init : FunD K "__init__" "Row.__init__" (defArgs s_Row___init) (defBody s_Row___init) (defScope s_Row___init) [dd_Row___init] [] f_Row___init d_Row___init
  b_Row___init : Binds K d_Row___init ["self", "cells"] []
  du_Row___init : Value
  bd_Row___init : Binds K d_Row___init ["self", "cells"] [du_Row___init]
  vd_Row___init : Vals [dd_Row___init] [du_Row___init]
  df_Row___init : ∀ H, Da.Rep K H dd_Row___init (.tup [])
  mk_Row : Mk K c_Row f_Row___init
  f_Row_of_runs : Addr
  d_Row_of_runs : FuncData
  F_Row_of_runs : Fun K "of_runs" "Row.of_runs" s_Row_of_runs f_Row_of_runs d_Row_of_runs
  b_Row_of_runs : Binds K d_Row_of_runs ["runs"] []
  sc_Row_of_runs : Value
  p_Row_of_runs : Addr
  h_Row_of_runs : Sm.SMet K c_Row sc_Row_of_runs "of_runs" p_Row_of_runs f_Row_of_runs
  f_Row___eq : Addr
  d_Row___eq : FuncData
  F_Row___eq : Fun K "__eq__" "Row.__eq__" s_Row___eq f_Row___eq d_Row___eq
  b_Row___eq : Binds K d_Row___eq ["self", "other"] []
  hs_Row___eq : PySem.W.findIn K (.ref c_Row) "__eq__" = some (some (.ref f_Row___eq))
  hf_Row___eq : PySem.W.isFn K (.ref f_Row___eq) = true
  f_Row_size : Addr
  d_Row_size : FuncData
  F_Row_size : Fun K "size" "Row.size" s_Row_size f_Row_size d_Row_size
  b_Row_size : Binds K d_Row_size ["self"] []
  p_Row_size : Addr
  h_Row_size : PropOf K c_Row "size" p_Row_size f_Row_size
  f_Row_cell_at : Addr
  d_Row_cell_at : FuncData
  F_Row_cell_at : Fun K "cell_at" "Row.cell_at" s_Row_cell_at f_Row_cell_at d_Row_cell_at
  b_Row_cell_at : Binds K d_Row_cell_at ["self", "place"] []
  h_Row_cell_at : Meth K c_Row "cell_at" f_Row_cell_at
  f_Row_part : Addr
  d_Row_part : FuncData
  F_Row_part : Fun K "part" "Row.part" s_Row_part f_Row_part d_Row_part
  b_Row_part : Binds K d_Row_part ["self", "start", "stop"] []
  h_Row_part : Meth K c_Row "part" f_Row_part
  f_Row_cells : Addr
  d_Row_cells : FuncData
  F_Row_cells : Fun K "cells" "Row.cells" s_Row_cells f_Row_cells d_Row_cells
  b_Row_cells : Binds K d_Row_cells ["self"] []
  h_Row_cells : Meth K c_Row "cells" f_Row_cells
  f_Row___add : Addr
  d_Row___add : FuncData
  F_Row___add : Fun K "__add__" "Row.__add__" s_Row___add f_Row___add d_Row___add
  b_Row___add : Binds K d_Row___add ["self", "other"] []
  hs_Row___add : PySem.W.findIn K (.ref c_Row) "__add__" = some (some (.ref f_Row___add))
  hf_Row___add : PySem.W.isFn K (.ref f_Row___add) = true
  f_Row___mul : Addr
  d_Row___mul : FuncData
  F_Row___mul : Fun K "__mul__" "Row.__mul__" s_Row___mul f_Row___mul d_Row___mul
  b_Row___mul : Binds K d_Row___mul ["self", "times"] []
  hs_Row___mul : PySem.W.findIn K (.ref c_Row) "__mul__" = some (some (.ref f_Row___mul))
  hf_Row___mul : PySem.W.isFn K (.ref f_Row___mul) = true
  f_Row___contains : Addr
  d_Row___contains : FuncData
  F_Row___contains : Fun K "__contains__" "Row.__contains__" s_Row___contains f_Row___contains d_Row___contains
  b_Row___contains : Binds K d_Row___contains ["self", "x"] []
  hs_Row___contains : PySem.W.findIn K (.ref c_Row) "__contains__" = some (some (.ref f_Row___contains))
  hf_Row___contains : PySem.W.isFn K (.ref f_Row___contains) = true
  kit_int_int : Da.Kit K (.type "int") (.type "int") true
  kit_int_str : Da.Kit K (.type "int") (.type "str") false
  kit_NoneType_int : Da.Kit K (.type "NoneType") (.type "int") false
  kit_list_list : Da.Kit K (.type "list") (.type "list") true
  kit_Row_Row : Da.Kit K (.ref c_Row) (.ref c_Row) true
  kit_list_Row : Da.Kit K (.type "list") (.ref c_Row) false
  kit_tuple_Row : Da.Kit K (.type "tuple") (.ref c_Row) false
  kit_Told_Told : Da.Kit K (.type "Told") (.type "Told") true
  kit_tuple_Told : Da.Kit K (.type "tuple") (.type "Told") false
  kit_tuple_tuple : Da.Kit K (.type "tuple") (.type "tuple") true
  rm_Row : PySem.W.findIn K (.ref c_Row) "__rmul__" = some none
  sf_Row : PySem.W.selfFirst K c_Row = true
  nt_Row : PySem.W.notFirst K c_Row (.type "tuple") = true
end Lw

/-! A while loop gone through turn by turn, its facts at hand (own). -/
namespace Wh
open PySem L2
def TW (c : TT) (tb : TS) (D : Ends) (m : Nat) : L2.St → Hp → Prop := fun σ H =>
  c σ H fun b H1 => if b = true then ∃ N : L2.St → Hp → Prop, (∀ σ' H', N σ' H' → ∃ m' : _root_.Fin m, TW c tb D m'.1 σ' H') ∧ tb { D with nx := N, ct := N, bk := D.nx } σ H1 else D.nx σ H1
termination_by m
decreasing_by exact m'.2
theorem tw_eq (c : TT) (tb : TS) (D : Ends) (m : Nat) (σ : L2.St) (H : Hp) : TW c tb D m σ H =
    c σ H fun b H1 => if b = true then ∃ N : L2.St → Hp → Prop, (∀ σ' H', N σ' H' → ∃ m', m' < m ∧ TW c tb D m' σ' H') ∧ tb { D with nx := N, ct := N, bk := D.nx } σ H1 else D.nx σ H1 := by
  have e : ∀ σ' H', (∃ m' : _root_.Fin m, TW c tb D m'.1 σ' H') = (∃ m', m' < m ∧ TW c tb D m' σ' H') := fun σ' H' => propext ⟨fun ⟨m', h⟩ => ⟨m'.1, m'.2, h⟩, fun ⟨m', hl, h⟩ => ⟨⟨m', hl⟩, h⟩⟩
  rw [TW]
  simp only [e]
theorem start {c : TT} {tb : TS} {D : Ends} {σ : L2.St} {H : Hp} (m : Nat) (h : TW c tb D m σ H) : tWhile c tb D σ H :=
  ⟨TW c tb D, ⟨m, h⟩, fun m σ H w => by rw [tw_eq] at w; exact w⟩
/-- one turn -/
theorem turn {c : TT} {tb : TS} {D : Ends} {m : Nat} {σ : L2.St} {H : Hp} (h : c σ H fun b H1 => if b = true then ∃ N : L2.St → Hp → Prop, (∀ σ' H', N σ' H' → ∃ m', m' < m ∧ TW c tb D m' σ' H') ∧ tb { D with nx := N, ct := N, bk := D.nx } σ H1 else D.nx σ H1) : TW c tb D m σ H := by
  rw [tw_eq]
  exact h
/-- the test was true -/
theorem go {c : TT} {tb : TS} {D : Ends} {m : Nat} {σ : L2.St} {H : Hp} {p : Prop} (h : tb { D with nx := TW c tb D m, ct := TW c tb D m, bk := D.nx } σ H) :
    if true = true then ∃ N : L2.St → Hp → Prop, (∀ σ' H', N σ' H' → ∃ m', m' < m + 1 ∧ TW c tb D m' σ' H') ∧ tb { D with nx := N, ct := N, bk := D.nx } σ H else p := by
  rw [if_pos rfl]
  exact ⟨TW c tb D m, fun _ _ h => ⟨m, Nat.lt_succ_self m, h⟩, h⟩
theorem go1 {c : TT} {tb : TS} {D : Ends} {m : Nat} {σ : L2.St} {H : Hp} (h : tb { D with nx := TW c tb D m, ct := TW c tb D m, bk := D.nx } σ H) :
    ∃ N : L2.St → Hp → Prop, (∀ σ' H', N σ' H' → ∃ m', m' < m + 1 ∧ TW c tb D m' σ' H') ∧ tb { D with nx := N, ct := N, bk := D.nx } σ H :=
  ⟨TW c tb D m, fun _ _ h => ⟨m, Nat.lt_succ_self m, h⟩, h⟩
/-- the same, the loop's own text kept out of the goals -/
theorem startW {c : TT} {tb : TS} {D : Ends} {σ : L2.St} {H : Hp} (m : Nat) (h : ∀ W : Nat → L2.St → Hp → Prop, (∀ k σ H, (c σ H fun b H1 => if b = true then ∃ N : L2.St → Hp → Prop, (∀ σ' H', N σ' H' → ∃ m', m' < k + 1 ∧ W m' σ' H') ∧ tb { D with nx := N, ct := N, bk := D.nx } σ H1 else D.nx σ H1) → W (k + 1) σ H) → W m σ H) : tWhile c tb D σ H :=
  start m (h (TW c tb D) fun _ _ _ q => turn q)
theorem goW {tb : TS} {D : Ends} {m : Nat} {σ : L2.St} {H : Hp} {W : Nat → L2.St → Hp → Prop} (h : tb { D with nx := W m, ct := W m, bk := D.nx } σ H) :
    ∃ N : L2.St → Hp → Prop, (∀ σ' H', N σ' H' → ∃ m', m' < m + 1 ∧ W m' σ' H') ∧ tb { D with nx := N, ct := N, bk := D.nx } σ H :=
  ⟨W m, fun _ _ h => ⟨m, Nat.lt_succ_self m, h⟩, h⟩
theorem i_seqM {s1 s2 : TS} {f b c : L2.St → Hp → Prop} {r : VK} {σ : L2.St} {H : Hp} (q : s1 ⟨s2 ⟨f, r, b, c⟩, r, b, c⟩ σ H) : tSeq s1 s2 ⟨f, r, b, c⟩ σ H := q
/-- the list with another thing at a place, written out -/
class SetC {α : Type} (l : List α) (i : Nat) (v : α) (l' : outParam (List α)) : Prop where
  is : l.set i v = l'
instance {α : Type} {x v : α} {t : List α} : SetC (x :: t) 0 v (v :: t) := ⟨rfl⟩
instance {α : Type} {x v : α} {t t' : List α} {i : Nat} [h : SetC t i v t'] : SetC (x :: t) (i + 1) v (x :: t') := ⟨congrArg (List.cons _) h.is⟩
theorem i_nameS {i : Nat} {v : V} {σ σ' : L2.St} {H : Hp} {QS : L2.St → Hp → Prop} [r : SetC σ i (some v) σ'] (q : QS σ' H) : gName i v σ H QS := by
  show QS (σ.set i (some v)) H
  rw [r.is]
  exact q
theorem i_set2 {σ σ1 σ2 : L2.St} {i j : Nat} {v w : Option V} {F : L2.St → Hp → Prop} {H : Hp} [r1 : SetC σ i v σ1] [r2 : SetC σ1 j w σ2] (q : F σ2 H) : F ((σ.set i v).set j w) H := by
  rw [r1.is, r2.is]
  exact q
/-! ### guards: a rule is tried where its head stands -/
section
variable {K : PySem.W.Frag} {σ : L2.St} {H : Hp} {Q : VK}
theorem g_ixL {x : V} {i : V} (q : rIxL K x i H Q) : rIxL K x i H Q := q
theorem g_ixT {x : V} {i : V} (q : rIxT K x i H Q) : rIxT K x i H Q := q
theorem g_setL {x i v : V} {QH : Hp → Prop} (q : rSetL x i v H QH) : rSetL x i v H QH := q
theorem g_gtup {n : Nat} {tg : TGs} {v : V} {QS : L2.St → Hp → Prop} (q : gTup K n tg v σ H QS) : gTup K n tg v σ H QS := q
theorem g_ite {c : Bool} {a b : Prop} (q : if c = true then a else b) : if c = true then a else b := q
theorem g_len {v : V} {R : List V → Prop} (q : ∃ p ys, [v] = [V.ref p] ∧ (SqL K H p ys ∨ SqT K H p ys) ∧ R ys) : ∃ p ys, [v] = [V.ref p] ∧ (SqL K H p ys ∨ SqT K H p ys) ∧ R ys := q
theorem g_tyL {v : V} {R : Prop} (q : tyV K "list" v H ∧ R) : tyV K "list" v H ∧ R := q
theorem g_tup {v : V} (q : Nr.rTup K [v] H Q) : Nr.rTup K [v] H Q := q
theorem g_rI {C : Int → Int → Prop} {g : Int → Int → V} {x y : V} (q : rI C g x y H Q) : rI C g x y H Q := q
theorem g_rEq {x y : V} (q : rEq x y H Q) : rEq x y H Q := q
theorem g_rNe {x y : V} (q : rNe x y H Q) : rNe x y H Q := q
theorem g_var {i : Nat} (q : tVar i σ H Q) : tVar i σ H Q := q
end
end Wh

namespace Lw
open PySem L2
local macro_rules | `(tactic| walk_at "rd1") => `(tactic| first
  | (with_reducible refine Wh.i_seqM ?_) | (with_reducible refine Rd.i_seq ?_) | (with_reducible refine Rd.i_asg ?_) | (with_reducible refine Wh.i_nameS ?_) | (with_reducible refine Rd.i_name ?_) | (with_reducible refine Rd.i_nx ?_) | (with_reducible refine Rd.i_rt ?_) | (with_reducible refine Rd.i_next ?_) | (with_reducible refine Rd.i_ct ?_) | (with_reducible refine Rd.i_bk ?_)
  | (with_reducible refine Rd.i_ret ?_) | (with_reducible refine Rd.i_drop ?_) | (with_reducible refine Rd.i_ifS ?_) | (with_reducible refine Rd.i_sub ?_)
  | ((with_reducible refine Wh.g_var ?_); (with_reducible refine Rd.i_var (by with_unfolding_all exact rfl) ?_)) | (with_reducible refine Rd.i_c ?_) | (with_reducible refine Rd.i_op ?_) | (with_reducible refine Rd.i_un ?_)
  | (with_reducible refine Rd.i_rI0 ?_) | ((with_reducible refine Wh.g_rI ?_); (with_reducible refine Rd.i_rI (by with_unfolding_all first | omega | exact Rd.mulL (by omega) (by omega) | exact Rd.mulR (by omega) (by omega) | decide | (refine ⟨?_, ?_⟩ <;> omega) | (refine ⟨?_, ?_, ?_⟩ <;> omega)) ?_))
  | ((with_reducible refine Wh.g_rEq ?_); (with_reducible refine Rd.i_rEq (by with_unfolding_all exact rfl) ?_)) | ((with_reducible refine Wh.g_rNe ?_); (with_reducible refine Rd.i_rNe (by with_unfolding_all exact rfl) ?_))
  | (with_reducible refine Rd.i_test ?_) | (with_reducible refine Rd.i_tB ?_) | (with_reducible refine Rd.i_bl ?_) | (with_reducible refine Rd.i_and ?_) | (with_reducible refine Rd.i_or ?_) | (with_reducible refine Rd.i_not ?_) | (with_reducible refine Rd.i_notV ?_) | (with_reducible refine Rd.i_andV ?_) | (with_reducible refine Rd.i_orV ?_) | (with_reducible refine Rd.i_if ?_) | (with_reducible refine Rd.i_chain ?_)
  | (with_reducible refine Rd.i_call ?_) | (with_reducible refine Rd.i_nil ?_) | (with_reducible refine Rd.i_cons ?_) | (with_reducible refine Rd.i_cb ?_) | (with_reducible refine Rd.i_bm ?_) | (with_reducible refine Rd.i_bm0 ?_) | (with_reducible refine Rd.i_tup ?_) | (with_reducible refine Rd.i_lst ?_)
  | (with_reducible refine Rd.i_int1 ?_) | (with_reducible refine Rd.i_intb ?_) | (with_reducible refine Rd.i_max ?_)
  | ((with_reducible refine Wh.g_ixL ?_); (with_reducible refine Rd.i_ixL (SqL.of (by first | assumption | exact upd_same)) (by with_unfolding_all first | exact rfl | exact atI_nat rfl) ?_)) | ((with_reducible refine Wh.g_ixT ?_); (with_reducible refine Rd.i_ixT (SqT.of (by first | assumption | exact upd_same)) (by with_unfolding_all exact rfl) ?_))
  | ((with_reducible refine Wh.g_setL ?_); (with_reducible refine Rd.i_setL (by first | assumption | exact upd_same) (by with_unfolding_all exact rfl) ?_))
  | (with_reducible refine Xv.i_mkV ?_) | (with_reducible refine Xv.i_xat ?_)
  | (with_reducible refine Rd.i_yes ?_) | (with_reducible refine Rd.i_m1 ?_) | (with_reducible refine Rd.i_m0 ?_) | (with_reducible refine Rd.ite_T ?_) | (with_reducible refine Rd.ite_F ?_) | (with_reducible refine Rd.i_forR ?_) | (with_reducible refine Rd.i_forL ?_) | (with_reducible refine Rd.i_forT ?_)
  | (with_reducible refine Hd.i_rU ?_) | (with_reducible refine Hd.i_pcons ?_) | (with_reducible refine Hd.i_pnil ?_) | (with_reducible refine Hd.i_disp ?_) | (with_reducible refine Hd.i_dget ?_)
  | (with_reducible refine Hd.i_lstRg ?_) | (with_reducible refine Hd.i_rg1 ?_) | (with_reducible refine Hd.i_rg2 ?_) | (with_reducible refine Hd.i_ex1 ?_) | (with_reducible refine Hd.i_ex2 ?_)
  | ((with_reducible refine Wh.g_gtup ?_); (with_reducible refine Rd.i_gtup (SqT.of (by first | assumption | exact upd_same)) (by with_unfolding_all exact rfl) ?_)) | (with_reducible refine Rd.i_gcons ?_) | (with_reducible refine Rd.i_gnil ?_)
  | ((with_reducible refine Wh.g_len ?_); (with_reducible refine Rd.i_lenT (SqT.of (by first | assumption | exact upd_same)) ?_)) | ((with_reducible refine Wh.g_len ?_); (with_reducible refine Rd.i_len (SqL.of (by first | assumption | exact upd_same)) ?_))
  | ((with_reducible refine Wh.g_ite ?_); (with_reducible refine Nr.ite_eF (by first | decide +kernel | with_unfolding_all exact rfl) ?_)) | ((with_reducible refine Wh.g_ite ?_); (with_reducible refine Nr.ite_eT (by first | decide +kernel | with_unfolding_all exact rfl) ?_))
  | ((with_reducible refine Wh.g_tyL ?_); (with_reducible refine Nr.i_tyL (by first | assumption | exact upd_same) ?_))
  | ((with_reducible refine Wh.g_tup ?_); (with_reducible refine Nr.i_tupT (SqT.of (by first | assumption | exact upd_same)) ?_))
  | (with_reducible refine Nr.i_sl ?_) | (with_reducible refine Nr.i_part ?_) | (with_reducible refine Nr.i_nop ?_) | (with_reducible refine Nr.i_star ?_)
  | fail "stop")
local macro_rules | `(tactic| walk_at "rd") => `(tactic| repeat walk_at "rd1")
section
variable {P : Program} {w : World} {K : PySem.W.Frag} {mg : Str → Option Value} {base : Heap}
open Evl Hd
def spDraw0 : Sp := fun vs H Q _ => ∃ (p q : Addr) (m s : Int), vs = [.ref p, .int m] ∧ Pen H p q s ∧ s < 1099511627776 ∧ 0 < m ∧ m < 1606938044258990275541962092341162602522202993782792835301376 ∧ ∀ r H', 0 ≤ r → r < m → Pen H' p q (s + 1) → But2 p q H H' → Q (.int r) H'
theorem ok_law_draw0 (T : Tx w K mg) : FnOk P w K mg base CX0 1 T.f_law_draw T.d_law_draw ["_law_pen", "_law_many"] spDraw0 := by
  refine T.F_law_draw.ok sc_law_draw (fun vs H Q E h => ?_) (fun cdv A outer s H vs Q E hr h => ?_)
  · obtain ⟨p, q, m, s, rfl, _⟩ := h
    rfl
  · obtain ⟨p, q, m, z, rfl, hpen, hz, m0, m1, k⟩ := h
    obtain ⟨z0, ns, hp, hq, hn, hn2⟩ := id hpen
    have hpq := hpen.ne
    refine ⟨_, (pss_cons (ps_set (i := 2) sc_law_draw.nd rfl (Or.inl rfl) (pe_ix ix_list (pv 0) pe_int (fun _ _ => rfl)))
      (pss_cons (ps_asg (pe_op op_add (pv 2) pe_int) (pg_sub (pv 0) pe_int set_list))
      (pss_cons (ps_set (i := 3) sc_law_draw.nd rfl (Or.inl rfl) (pe_op op_modN (pe_callTy call_int1 (by rfl) T.z_int (by decide +kernel) (pa_cons (pv 2) pa_nil)) (pe_callB call_len_seq (by rfl) T.z_len (by decide +kernel) (pa_cons (pe_ix ix_list (pv 0) pe_int (fun _ _ => rfl)) pa_nil))))
      (pss_cons (ps_set (i := 4) sc_law_draw.nd rfl (Or.inl rfl) (pe_callTy call_int1 (by rfl) T.z_int (by decide +kernel) (pa_cons (pe_ix ix_list (pe_ix ix_list (pv 0) pe_int (fun _ _ => rfl)) (pv 3) (fun _ _ => rfl)) pa_nil)))
      (pss_cons (ps_if (pt_cmpR op_ge (pv 4) (pe_op op_pow pe_int pe_int) (nomark _))
        (pss_cons (ps_asg (pe_op op_fdivW (pv 4) (pv 1)) (pg_sub (pe_ix ix_list (pv 0) pe_int (fun _ _ => rfl)) (pv 3) set_list))
        (pss_one (ps_ret (pe_op op_modN (pe_callTy call_int1 (by rfl) T.z_int (by decide +kernel) (pa_cons (pv 4) pa_nil)) (pv 1)))))
        pss_nil)
      (pss_cons (ps_set (i := 5) sc_law_draw.nd rfl (Or.inl rfl) (pe_op op_pow (pe_callTy call_int1 (by rfl) T.z_int (by decide +kernel) (pa_cons (pe_op op_add (pe_op op_add (pe_op op_mul (pe_op op_modN (pe_callTy call_int1 (by rfl) T.z_int (by decide +kernel) (pa_cons (pv 4) pa_nil)) pe_int) pe_int) (pe_op op_mul (pv 2) pe_int)) pe_int) pa_nil)) pe_int))
      (pss_one (ps_ret (pe_op op_modN (pe_op op_fdivN (pe_callTy call_int1 (by rfl) T.z_int (by decide +kernel) (pa_cons (pe_op op_modN (pe_callTy call_int1 (by rfl) T.z_int (by decide +kernel) (pa_cons (pv 5) pa_nil)) pe_int) pa_nil)) pe_int) (pv 1)))))))))), ?_⟩
    walk_at "rd"
    have hq1 : upd H p (.lst ([V.ref q, .int z].set (Int.toNat 1) (.int (z + 1)))) q = some (.lst (ns.map V.int)) := by rw [upd_ne (Ne.symm hpq)]; exact hq
    have hl0 : 0 < ns.length := List.length_pos_iff.mpr hn
    have hlen : (List.map V.int ns).length = ns.length := List.length_map _
    refine Rd.i_len (SqL.of hq1) ?_
    walk_at "rd"
    obtain ⟨j, hj, ej⟩ : ∃ j : Nat, j < ns.length ∧ z.fmod ((List.map V.int ns).length : Int) = (j : Int) := by
      have h1 := Int.fmod_nonneg_of_pos z (b := ((List.map V.int ns).length : Int)) (by omega)
      have h2 := Int.fmod_lt_of_pos z (b := ((List.map V.int ns).length : Int)) (by omega)
      exact ⟨(z.fmod ((List.map V.int ns).length : Int)).toNat, by omega, by omega⟩
    rw [ej]
    have hc : (List.map V.int ns)[j]? = some (V.int (ns[j]'hj)) := by rw [List.getElem?_map, List.getElem?_eq_getElem hj]; rfl
    generalize ns[j]'hj = c at hc
    walk_at "rd"
    refine Rd.i_ixL (SqL.of hq1) (atI_nat hc) ?_
    walk_at "rd"
    refine Rd.ite_d (fun _ => ?_) (fun _ => ?_)
    · walk_at "rd"
      refine ⟨c, m, rfl, rfl, ⟨m0, Nat.lt_of_lt_of_le (log2_small (k := 200) (by omega) (by decide)) (by decide)⟩, ?_⟩
      walk_at "rd"
      refine Rd.i_setL hq1 (Evl.ixN_nat (by omega)) ?_
      walk_at "rd"
      refine k _ _ (Int.fmod_nonneg_of_pos _ m0) (Int.fmod_lt_of_pos _ m0) ⟨by omega, ns.set j (c / m), ?_, ?_, ?_, ?_⟩ ?_
      · rw [upd_ne hpq]; exact upd_same
      · rw [List.map_set]; exact upd_same
      · intro e
        have := congrArg List.length e
        rw [List.length_set] at this
        simp only [List.length_nil] at this
        omega
      · rw [List.length_set]; exact hn2
      · intro b b1 b2
        rw [upd_ne b2, upd_ne b1]
    · have f1 : 0 ≤ c.fmod 1000000007 := Int.fmod_nonneg_of_pos c (by decide)
      have f2 : c.fmod 1000000007 < 1000000007 := Int.fmod_lt_of_pos c (by decide)
      walk_at "rd"
      exact k _ _ (Int.fmod_nonneg_of_pos _ m0) (Int.fmod_lt_of_pos _ m0) ⟨by omega, ns, upd_same, hq1, hn, hn2⟩ (fun b b1 b2 => upd_ne b1)
theorem ok_law_draw (T : Tx w K mg) : FnOk P w K mg base CX0 1 T.f_law_draw T.d_law_draw ["_law_pen", "_law_many"] (Da.upSp K (Da.sp2 Da.dDraw)) :=
  (ok_law_draw0 T).imp fun _ _ _ _ h => Da.draw_up h
end
end Lw

set_option pp.maxSteps 500
namespace Lw
open PySem L2
open Evl Da
local macro_rules
  | `(tactic| walk_at "f") => `(tactic| first | exact lookF_put | exact lookF_hit | exact (lookF_skip (by decide +kernel) lookF_hit) | exact (lookF_skip (by decide +kernel) (lookF_skip (by decide +kernel) lookF_hit)) | exact (lookF_skip (by decide +kernel) (lookF_skip (by decide +kernel) (lookF_skip (by decide +kernel) lookF_hit))) | exact (lookF_skip (by decide +kernel) (lookF_skip (by decide +kernel) (lookF_skip (by decide +kernel) (lookF_skip (by decide +kernel) lookF_hit)))) | exact (lookF_skip (by decide +kernel) (lookF_skip (by decide +kernel) (lookF_skip (by decide +kernel) (lookF_skip (by decide +kernel) (lookF_skip (by decide +kernel) lookF_hit))))) | exact (lookF_skip (by decide +kernel) (lookF_skip (by decide +kernel) (lookF_skip (by decide +kernel) (lookF_skip (by decide +kernel) (lookF_skip (by decide +kernel) (lookF_skip (by decide +kernel) lookF_hit)))))) | ((refine lookF_other (by decide +kernel) ?_); walk_at "f") | ((refine lookF_skip (by decide +kernel) ?_); walk_at "f"))
  | `(tactic| walk_at "fl") => `(tactic| first | exact Nat.zero_lt_succ _ | ((refine putFD_lt ?_); walk_at "fl"))
  | `(tactic| walk_at "a") => `(tactic| first | exact le1000 (Nat.le_of_ble_eq_true rfl) | exact rfl | decide +kernel | exact And.intro (by with_reducible assumption) (by with_reducible assumption) | exact And.intro (And.intro (by with_reducible assumption) (by with_reducible assumption)) (by walk_at "fl"))
  | `(tactic| walk_at "w") => `(tactic| ((conv => whnf); repeat ((first | ((with_reducible refine And.intro ?_ ?_); (focus (walk_at "a"))) | ((with_reducible refine Br.yes ?_ ?_); (focus (first | exact rfl | decide +kernel))) | ((with_reducible refine Br.no ?_ ?_); (focus (first | exact rfl | decide +kernel))) | ((with_reducible refine ex_fld ?_); (refine fld_w (by walk_at "f") ?_)) | ((with_reducible refine ex_at ?_); (refine at_w rfl ?_))); (conv => whnf))))
  | `(tactic| walk_at "n") => `(tactic| ((try dsimp only [st0, st1, S.at, S.drop, S.own, S.put, S.frz, Src.n] at *); omega))
  | `(tactic| walk_at "draw") => `(tactic| ((try walk_at "w"); (refine i_draw ⟨by walk_at "n", by walk_at "n", by walk_at "n"⟩ ?_)))
section
variable {P : Program} {w : World} {K : PySem.W.Frag} {mg : Str → Option Value} {base : Heap}
def IsPen (pn : Option (Addr × Addr)) (a : D) : Prop := ∃ p q, pn = some (p, q) ∧ a = .val (.ref p)
theorem at_int {ds : List D} {r : Int} (h0 : 0 ≤ r) (h1 : r < ds.length) : ∃ d, ds[r.toNat]? = some d ∧ atI ds r = some d := by
  obtain ⟨k, rfl⟩ : ∃ k : Nat, r = (k : Int) := ⟨r.toNat, by omega⟩
  have h : k < ds.length := by omega
  exact ⟨ds[k], List.getElem?_eq_getElem h, atI_nat (List.getElem?_eq_getElem h)⟩
@[irreducible] def dPick : R2' := fun pn a b n Q _ => IsPen pn a ∧ ∃ ds : List D, b = .lst ds ∧ (n < 549755813888 ∧ 0 < ds.length ∧ ds.length < 1000000) ∧ (∀ d ∈ ds, NoL d) ∧ ∀ (d : D), d ∈ ds → Q d (n + 1)
theorem ok_law_pick (T : Tx w K mg) : FnOk P w K mg base CX0 2 T.f_law_pick T.d_law_pick ["_law_pen", "_law_row"] (Da.upSp K (sp2 dPick)) := by
  refine T.F_law_pick.ok sc_law_pick (fun vs H Q E h => Da.up_len2 h) (fun cdv A outer s H vs Q E hr h => ?_)
  refine ⟨_, (pss_one (ps_ret (pe_ix (Da.ixK (K := K) rfl) (pv 1) (pe_call (ok_law_draw T) (hr.mono (by decide)) rfl T.m_law_draw T.F_law_draw.kp T.b_law_draw .nil pass0 (pa_cons (pv 0) (pa_cons (pe_callB (Da.lenK (K := K) rfl) (by rfl) T.z_len (by decide +kernel) (pa_cons (pv 1) pa_nil)) pa_nil))) (fun _ _ => rfl)))), Da.go_up2 h ?_⟩
  intro pn a b n Q _ h
  unfold dPick at h
  obtain ⟨⟨p, q, rfl, rfl⟩, ds, rfl, ⟨n1, n2, n3⟩, hn, h⟩ := h
  walk_at "draw"
  intro r r0 r1
  obtain ⟨d, e1, e2⟩ := at_int r0 r1
  walk_at "w"
  refine ⟨d, e2, ?_⟩
  have hd := List.mem_of_getElem? e1
  cases d with
  | loc a k => exact absurd rfl (hn _ hd a k)
  | _ => exact h _ hd
theorem i_pickS {p q : Addr} {n : Nat} {ns : List Str} {Q : D → Nat → Prop} {X : XD} (h : n < 549755813888 ∧ 0 < ns.length ∧ ns.length < 1000000) (k : ∀ x ∈ ns, Q (.str x) (n + 1)) : dPick (some (p, q)) (.val (.ref p)) (.lst (ns.map D.str)) n Q X := by
  unfold dPick
  exact ⟨⟨p, q, rfl, rfl⟩, _, rfl, (by rw [List.length_map]; exact h), (fun d hd a b e => by
    obtain ⟨x, _, rfl⟩ := List.mem_map.mp hd
    cases e), (fun d hd => by
    obtain ⟨x, hx, rfl⟩ := List.mem_map.mp hd
    exact k x hx)⟩
theorem i_pickI {p q : Addr} {n : Nat} {ns : List Int} {Q : D → Nat → Prop} {X : XD} (h : n < 549755813888 ∧ 0 < ns.length ∧ ns.length < 1000000) (k : ∀ x ∈ ns, Q (.int x) (n + 1)) : dPick (some (p, q)) (.val (.ref p)) (.lst (ns.map D.int)) n Q X := by
  unfold dPick
  exact ⟨⟨p, q, rfl, rfl⟩, _, rfl, (by rw [List.length_map]; exact h), (fun d hd a b e => by
    obtain ⟨x, _, rfl⟩ := List.mem_map.mp hd
    cases e), (fun d hd => by
    obtain ⟨x, hx, rfl⟩ := List.mem_map.mp hd
    exact k x hx)⟩
theorem sum_ones : ∀ cs : List Nat, ((cs.map fun c => (⟨#[c]⟩ : Str)).map (·.length)).sum = cs.length
  | [] => rfl
  | c :: r => by rw [List.map_cons, List.map_cons, List.sum_cons, sum_ones r, List.length_cons, Nat.add_comm]; rfl
@[irreducible] def dWord : R2' := fun pn a b n Q _ => IsPen pn a ∧ ∃ m : Int, b = .int m ∧ (n < 549755813000 ∧ 0 < m ∧ m ≤ 12) ∧ ∀ (x : Str) n', AZ x → 1 ≤ x.length → (x.length : Int) ≤ m → n' ≤ n + 20 → Q (.str x) n'
@[irreducible] def dWords : R2' := fun pn a b n Q _ => IsPen pn a ∧ ∃ m : Nat, b = .int m ∧ (n < 549755813000 ∧ 1 ≤ m ∧ m ≤ 8) ∧ ∀ (ws : List Str) n', ws.length = m → Wds ws → n' ≤ n + 100 → Q (.lst (ws.map D.str)) n'
end
end Lw

namespace Lw
open PySem L2
open Evl Da
local macro_rules
  | `(tactic| walk_at "f") => `(tactic| first | exact lookF_put | exact lookF_hit | exact (lookF_skip (by decide +kernel) lookF_hit) | exact (lookF_skip (by decide +kernel) (lookF_skip (by decide +kernel) lookF_hit)) | exact (lookF_skip (by decide +kernel) (lookF_skip (by decide +kernel) (lookF_skip (by decide +kernel) lookF_hit))) | exact (lookF_skip (by decide +kernel) (lookF_skip (by decide +kernel) (lookF_skip (by decide +kernel) (lookF_skip (by decide +kernel) lookF_hit)))) | exact (lookF_skip (by decide +kernel) (lookF_skip (by decide +kernel) (lookF_skip (by decide +kernel) (lookF_skip (by decide +kernel) (lookF_skip (by decide +kernel) lookF_hit))))) | exact (lookF_skip (by decide +kernel) (lookF_skip (by decide +kernel) (lookF_skip (by decide +kernel) (lookF_skip (by decide +kernel) (lookF_skip (by decide +kernel) (lookF_skip (by decide +kernel) lookF_hit)))))) | ((refine lookF_other (by decide +kernel) ?_); walk_at "f") | ((refine lookF_skip (by decide +kernel) ?_); walk_at "f"))
  | `(tactic| walk_at "fl") => `(tactic| first | exact Nat.zero_lt_succ _ | ((refine putFD_lt ?_); walk_at "fl"))
  | `(tactic| walk_at "a") => `(tactic| first | exact le1000 (Nat.le_of_ble_eq_true rfl) | exact rfl | decide +kernel | exact And.intro (by with_reducible assumption) (by with_reducible assumption) | exact And.intro (And.intro (by with_reducible assumption) (by with_reducible assumption)) (by walk_at "fl"))
  | `(tactic| walk_at "w") => `(tactic| ((conv => whnf); repeat ((first | ((with_reducible refine And.intro ?_ ?_); (focus (walk_at "a"))) | ((with_reducible refine Br.yes ?_ ?_); (focus (first | exact rfl | decide +kernel))) | ((with_reducible refine Br.no ?_ ?_); (focus (first | exact rfl | decide +kernel))) | ((with_reducible refine ex_fld ?_); (refine fld_w (by walk_at "f") ?_)) | ((with_reducible refine ex_at ?_); (refine at_w rfl ?_))); (conv => whnf))))
  | `(tactic| walk_at "n") => `(tactic| ((try dsimp only [st0, st1, S.at, S.drop, S.own, S.put, S.frz, Src.n] at *); omega))
  | `(tactic| walk_at "draw") => `(tactic| ((try walk_at "w"); (refine i_draw ⟨by walk_at "n", by walk_at "n", by walk_at "n"⟩ ?_)))
section
variable {P : Program} {w : World} {K : PySem.W.Frag} {mg : Str → Option Value} {base : Heap}
theorem i_word {p q : Addr} {m : Int} {n : Nat} {Q : D → Nat → Prop} {X : XD} (h : n < 549755813000 ∧ 0 < m ∧ m ≤ 12) (k : ∀ x n', Nm x → n' ≤ n + 20 → Q (.str x) n') : dWord (some (p, q)) (.val (.ref p)) (.int m) n Q X := by
  unfold dWord
  exact ⟨⟨p, q, rfl, rfl⟩, m, rfl, h, fun x n' h1 h2 h3 h4 => k x n' ⟨h1, h2, by omega⟩ h4⟩
theorem rng_at {lo : Int} {n i : Nat} {d : D} (h : (Src.rng lo n).at i = some d) : i < n ∧ d = .int (lo + i) := by
  have h : (if i < n then some (D.int (lo + i)) else none) = some d := h
  split at h
  · rename_i hi
    exact ⟨hi, (Option.some.inj h).symm⟩
  · cases h
theorem seq_at {ds : List D} {i : Nat} {d : D} (h : (Src.seq ds).at i = some d) : ds[i]? = some d := h
@[irreducible] def dNames : R2' := fun pn a b n Q _ => IsPen pn a ∧ ∃ m : Nat, b = .int m ∧ (n < 549755812000 ∧ m ≤ 8) ∧ ∀ (ns : List Str) n', ns.length = m → ns.Nodup → (∀ x ∈ ns, Nm x) → n' ≤ n + 200 → Q (.lst (ns.map D.str)) n'
end
end Lw

namespace Lw
open PySem L2
open Evl Da
local macro_rules
  | `(tactic| walk_at "f") => `(tactic| first | exact lookF_put | exact lookF_hit | exact (lookF_skip (by decide +kernel) lookF_hit) | exact (lookF_skip (by decide +kernel) (lookF_skip (by decide +kernel) lookF_hit)) | exact (lookF_skip (by decide +kernel) (lookF_skip (by decide +kernel) (lookF_skip (by decide +kernel) lookF_hit))) | exact (lookF_skip (by decide +kernel) (lookF_skip (by decide +kernel) (lookF_skip (by decide +kernel) (lookF_skip (by decide +kernel) lookF_hit)))) | exact (lookF_skip (by decide +kernel) (lookF_skip (by decide +kernel) (lookF_skip (by decide +kernel) (lookF_skip (by decide +kernel) (lookF_skip (by decide +kernel) lookF_hit))))) | exact (lookF_skip (by decide +kernel) (lookF_skip (by decide +kernel) (lookF_skip (by decide +kernel) (lookF_skip (by decide +kernel) (lookF_skip (by decide +kernel) (lookF_skip (by decide +kernel) lookF_hit)))))) | ((refine lookF_other (by decide +kernel) ?_); walk_at "f") | ((refine lookF_skip (by decide +kernel) ?_); walk_at "f"))
  | `(tactic| walk_at "fl") => `(tactic| first | exact Nat.zero_lt_succ _ | ((refine putFD_lt ?_); walk_at "fl"))
  | `(tactic| walk_at "a") => `(tactic| first | exact le1000 (Nat.le_of_ble_eq_true rfl) | exact rfl | decide +kernel | exact And.intro (by with_reducible assumption) (by with_reducible assumption) | exact And.intro (And.intro (by with_reducible assumption) (by with_reducible assumption)) (by walk_at "fl"))
  | `(tactic| walk_at "w") => `(tactic| ((conv => whnf); repeat ((first | ((with_reducible refine And.intro ?_ ?_); (focus (walk_at "a"))) | ((with_reducible refine Br.yes ?_ ?_); (focus (first | exact rfl | decide +kernel))) | ((with_reducible refine Br.no ?_ ?_); (focus (first | exact rfl | decide +kernel))) | ((with_reducible refine ex_fld ?_); (refine fld_w (by walk_at "f") ?_)) | ((with_reducible refine ex_at ?_); (refine at_w rfl ?_))); (conv => whnf))))
  | `(tactic| walk_at "n") => `(tactic| ((try dsimp only [st0, st1, S.at, S.drop, S.own, S.put, S.frz, Src.n] at *); omega))
  | `(tactic| walk_at "draw") => `(tactic| ((try walk_at "w"); (refine i_draw ⟨by walk_at "n", by walk_at "n", by walk_at "n"⟩ ?_)))
section
variable {P : Program} {w : World} {K : PySem.W.Frag} {mg : Str → Option Value} {base : Heap}
/-- places among the words -/
abbrev plD (gs : List Nat) : List D := gs.map fun (g : Nat) => D.int (g : Int)
/-- the places so far of which p holds, from b on -/
structure Found (b n : Nat) (p : Nat → Prop) (i : Nat) (gs : List Nat) : Prop where
  all : ∀ g ∈ gs, b ≤ g ∧ g < n ∧ p g
  has : ∀ g, b ≤ g → g < b + i → p g → g ∈ gs
  few : gs.length ≤ i
theorem Found.nil {b n : Nat} {p : Nat → Prop} : Found b n p 0 [] := ⟨(fun x hx => nomatch hx), (fun g h1 h2 => by omega), Nat.le_refl _⟩
theorem Found.yes {b n i : Nat} {p : Nat → Prop} {gs : List Nat} (h : Found b n p i gs) (hi : b + i < n) (hp : p (b + i)) : Found b n p (i + 1) (gs ++ [b + i]) := by
  refine ⟨fun g hg => ?_, fun g h1 h2 h3 => ?_, by rw [List.length_append]; exact Nat.succ_le_succ h.few⟩
  · rcases List.mem_append.mp hg with hg | hg
    · exact h.all g hg
    · rw [List.mem_singleton] at hg
      rw [hg]
      exact ⟨by omega, hi, hp⟩
  · by_cases e : g = b + i
    · rw [e]; exact List.mem_append_right _ (List.mem_singleton.mpr rfl)
    · exact List.mem_append_left _ (h.has g h1 (by omega) h3)
theorem Found.no {b n i : Nat} {p : Nat → Prop} {gs : List Nat} (h : Found b n p i gs) (hp : ¬ p (b + i)) : Found b n p (i + 1) gs := by
  refine ⟨h.all, fun g h1 h2 h3 => ?_, Nat.le_succ_of_le h.few⟩
  by_cases e : g = b + i
  · rw [e] at h3; exact absurd h3 hp
  · exact h.has g h1 (by omega) h3
theorem plD_app (gs : List Nat) (g : Nat) : plD gs ++ [.int (g : Int)] = plD (gs ++ [g]) := by unfold plD; rw [List.map_append]; rfl
theorem lc_places {v b k : Nat} {lo : Int} {kk : Nat} {wt : WT} {Γ : Ga} {s : S} {Q : QD} (p : Nat → Prop) (hlo : lo = (b : Int)) (hk : kk = k) (h1 : k ≤ 1000)
    (hv : ∀ d, look (setG (wipeG Γ [v]) v (some d)) v = some d)
    (step : ∀ (g : Nat) (Q' : Bool → S → Prop), b ≤ g → g < b + k → (p g → Q' true s) → (¬ p g → Q' false s) → wt (setG (wipeG Γ [v]) v (some (.int (g : Int)))) s Q')
    (fin : ∀ gs, Found b (b + k) p k gs → Q (.lst (plD gs)) s) :
    LcB (wgName v) wt (wVar v) [v] Γ Q (.rng lo kk) s := by
  subst hlo hk
  refine lc_inv (fun i acc s' => s' = s ∧ ∃ gs, acc = plD gs ∧ Found b (b + kk) p i gs) (le1000 h1) ⟨rfl, [], rfl, .nil⟩ ?_ ?_
  · rintro i d acc _ hi hd hl ⟨rfl, gs, rfl, hf⟩
    obtain ⟨hi, rfl⟩ := rng_at hd
    have e : (b : Int) + (i : Int) = ((b + i : Nat) : Int) := by omega
    rw [e]
    refine step (b + i) _ (by omega) (by omega) (fun hp => .tt ?_) (fun hp => .ff ⟨rfl, gs, rfl, hf.no hp⟩)
    unfold wVar
    rw [hv]
    exact ⟨rfl, gs ++ [b + i], plD_app gs _, hf.yes (by omega) hp⟩
  · rintro acc _ hl ⟨rfl, gs, rfl, hf⟩
    exact fin gs hf
theorem q_dec {p : Prop} {ip : Decidable p} {q : Prop} (e : p ↔ q) {Q : Bool → S → Prop} {s : S} (ht : q → Q true s) (hf : ¬ q → Q false s) : Q (decide p) s := by
  by_cases h : p
  · rw [decide_eq_true h]; exact ht (e.mp h)
  · rw [decide_eq_false h]; exact hf fun z => h (e.mpr z)
theorem q_ndec {p : Prop} {ip : Decidable p} {q : Prop} (e : ¬ p ↔ q) {Q : Bool → S → Prop} {s : S} (ht : q → Q true s) (hf : ¬ q → Q false s) : Q (!decide p) s := by
  by_cases h : p
  · rw [decide_eq_true h]; exact hf fun z => (e.mpr z) h
  · rw [decide_eq_false h]; exact ht (e.mp h)
abbrev lk5 : List Str := ["take", "case", "rest", "cap", "jump"]
theorem lk_in {x : Str} : D.str x ∈ lk5.map D.str ↔ Lk x := str_mem
theorem strs_ok : ∀ x ∈ (lk5 ++ (["skip", "upto", "cut"] : List Str)), PyData.strOk x = true := by decide +kernel
@[irreducible] def dGoal : R3 := fun pn a b c n Q _ => IsPen pn a ∧ ∃ (ws : List Str) (at_ : Nat), b = .lst (ws.map D.str) ∧ c = .int at_ ∧ (n < 549755813000 ∧ at_ < ws.length ∧ ws.length ≤ 8) ∧ Wds ws ∧ ∀ (g : Nat) n', Gok ws at_ g → n' ≤ n + 3 → Q (.int g) n'
theorem i_pickP {p q : Addr} {n : Nat} {gs : List Nat} {Q : D → Nat → Prop} {X : XD} (h : n < 549755813888 ∧ 0 < gs.length ∧ gs.length < 1000000) (k : ∀ g ∈ gs, Q (.int (g : Nat)) (n + 1)) : dPick (some (p, q)) (.val (.ref p)) (.lst (plD gs)) n Q X := by
  have e : plD gs = (gs.map fun (g : Nat) => (g : Int)).map D.int := by rw [List.map_map]; rfl
  rw [e]
  refine i_pickI (by rw [List.length_map]; exact h) (fun x hx => ?_)
  obtain ⟨g, hg, rfl⟩ := List.mem_map.mp hx
  exact k g hg
theorem wd_lk {ws : List Str} (hw : Wds ws) : ∃ g, g < ws.length ∧ Lk (wAt ws g) := by
  rcases hw.beg with ⟨x, h1, h2⟩ | ⟨_, _, x, h1, h2⟩
  · exact ⟨0, (List.getElem?_eq_some_iff.mp h1).1, by rw [wAt_some h1]; exact h2⟩
  · exact ⟨1, (List.getElem?_eq_some_iff.mp h1).1, by rw [wAt_some h1]; exact h2⟩
theorem skip_pos {ws : List Str} (hw : Wds ws) {i : Nat} (h : wAt ws i = "skip") : 0 < i := by
  rcases Nat.eq_zero_or_pos i with rfl | h0
  · rcases hw.beg with ⟨x, h1, h2⟩ | ⟨_, ⟨x, h1, h2⟩, _⟩
    · rw [wAt_some h1] at h
      rw [h] at h2
      exact absurd h2 (by decide +kernel)
    · rw [wAt_some h1] at h
      rw [h] at h2
      exact absurd h2 (by decide +kernel)
  · exact h0
theorem plD_two (gs hs : List Nat) : plD gs ++ (List.replicate (2 : Int).toNat (plD hs)).flatten = plD (gs ++ (hs ++ hs)) := by
  show plD gs ++ (List.replicate 2 (plD hs)).flatten = _
  simp [plD, List.replicate]
theorem pl_plain (gs : List Nat) : Pl 1 (.lst (plD gs)) := fun d hd => by
  obtain ⟨g, _, rfl⟩ := List.mem_map.mp hd
  trivial
theorem plD_nil {gs : List Nat} : D.lst (plD gs) = .lst [] ↔ gs = [] := by
  constructor
  · intro h
    injection h with h
    exact List.map_eq_nil_iff.mp h
  · intro h; rw [h]; rfl
theorem rgD_pl {a b : Nat} {x y : Int} (hx : x = (a : Int)) (hy : y = (b : Int)) : rgD x y = plD ((List.range (b - a)).map (a + ·)) := by
  subst hx hy
  unfold rgD plD
  rw [List.map_map]
  have : ((b : Int) - (a : Int)).toNat = b - a := by omega
  rw [this]
  rfl
end
end Lw

namespace Lw
open PySem L2
open Evl Da
local macro_rules
  | `(tactic| walk_at "f") => `(tactic| first | exact lookF_put | exact lookF_hit | exact (lookF_skip (by decide +kernel) lookF_hit) | exact (lookF_skip (by decide +kernel) (lookF_skip (by decide +kernel) lookF_hit)) | exact (lookF_skip (by decide +kernel) (lookF_skip (by decide +kernel) (lookF_skip (by decide +kernel) lookF_hit))) | exact (lookF_skip (by decide +kernel) (lookF_skip (by decide +kernel) (lookF_skip (by decide +kernel) (lookF_skip (by decide +kernel) lookF_hit)))) | exact (lookF_skip (by decide +kernel) (lookF_skip (by decide +kernel) (lookF_skip (by decide +kernel) (lookF_skip (by decide +kernel) (lookF_skip (by decide +kernel) lookF_hit))))) | exact (lookF_skip (by decide +kernel) (lookF_skip (by decide +kernel) (lookF_skip (by decide +kernel) (lookF_skip (by decide +kernel) (lookF_skip (by decide +kernel) (lookF_skip (by decide +kernel) lookF_hit)))))) | ((refine lookF_other (by decide +kernel) ?_); walk_at "f") | ((refine lookF_skip (by decide +kernel) ?_); walk_at "f"))
  | `(tactic| walk_at "fl") => `(tactic| first | exact Nat.zero_lt_succ _ | ((refine putFD_lt ?_); walk_at "fl"))
  | `(tactic| walk_at "a") => `(tactic| first | exact le1000 (Nat.le_of_ble_eq_true rfl) | exact rfl | decide +kernel | exact And.intro (by with_reducible assumption) (by with_reducible assumption) | exact And.intro (And.intro (by with_reducible assumption) (by with_reducible assumption)) (by walk_at "fl"))
  | `(tactic| walk_at "w") => `(tactic| ((conv => whnf); repeat ((first | ((with_reducible refine And.intro ?_ ?_); (focus (walk_at "a"))) | ((with_reducible refine Br.yes ?_ ?_); (focus (first | exact rfl | decide +kernel))) | ((with_reducible refine Br.no ?_ ?_); (focus (first | exact rfl | decide +kernel))) | ((with_reducible refine ex_fld ?_); (refine fld_w (by walk_at "f") ?_)) | ((with_reducible refine ex_at ?_); (refine at_w rfl ?_))); (conv => whnf))))
  | `(tactic| walk_at "n") => `(tactic| ((try dsimp only [st0, st1, S.at, S.drop, S.own, S.put, S.frz, Src.n] at *); omega))
  | `(tactic| walk_at "draw") => `(tactic| ((try walk_at "w"); (refine i_draw ⟨by walk_at "n", by walk_at "n", by walk_at "n"⟩ ?_)))
section
variable {P : Program} {w : World} {K : PySem.W.Frag} {mg : Str → Option Value} {base : Heap}
theorem i_goal {p q : Addr} {ws : List Str} {at_ n : Nat} {Q : D → Nat → Prop} {X : XD} (h : n < 549755813000 ∧ at_ < ws.length ∧ ws.length ≤ 8) (hw : Wds ws) (k : ∀ (g : Nat) n', Gok ws at_ g → n' ≤ n + 3 → Q (.int g) n') : dGoal (some (p, q)) (.val (.ref p)) (.lst (ws.map D.str)) (.int at_) n Q X := by
  unfold dGoal
  exact ⟨⟨p, q, rfl, rfl⟩, ws, at_, rfl, rfl, h, hw, k⟩
theorem mulW {i j : Int} (hi : i.natAbs < 2 ^ 40) (hj : j.natAbs < 2 ^ 40) : CMulW i j := by
  have h1 : i.natAbs.log2 < 40 := log2_small hi (by decide)
  have h2 : j.natAbs.log2 < 40 := log2_small hj (by decide)
  show i.natAbs.log2 + j.natAbs.log2 < 1000000
  omega
@[irreducible] def dWays : R4 := fun pn a b c d n Q _ => IsPen pn a ∧ ∃ (ns ws : List Str) (at_ : Nat), b = .lst (ns.map D.str) ∧ c = .lst (ws.map D.str) ∧ d = .int at_ ∧ (n < 549755812000 ∧ at_ < ws.length ∧ ws.length ≤ 8 ∧ ns.length = ws.length) ∧ Wds ws ∧
  ∀ (wy : List (Int × Nat)) n', (wy.map (·.1)).Nodup → (∀ y ∈ wy, 0 ≤ y.1 ∧ y.1 ≤ 5 ∧ Gok ws at_ y.2) → wy.length ≤ 5 → n' ≤ n + 30 → Q (.lst (wy.map (wayD ns))) n'
theorem i_ways {p q : Addr} {ns ws : List Str} {at_ n : Nat} {Q : D → Nat → Prop} {X : XD} (h : n < 549755812000 ∧ at_ < ws.length ∧ ws.length ≤ 8 ∧ ns.length = ws.length) (hw : Wds ws) (k : ∀ (wy : List (Int × Nat)) n', (wy.map (·.1)).Nodup → (∀ y ∈ wy, 0 ≤ y.1 ∧ y.1 ≤ 5 ∧ Gok ws at_ y.2) → wy.length ≤ 5 → n' ≤ n + 30 → Q (.lst (wy.map (wayD ns))) n') : dWays (some (p, q)) (.val (.ref p)) (.lst (ns.map D.str)) (.lst (ws.map D.str)) (.int at_) n Q X := by
  unfold dWays
  exact ⟨⟨p, q, rfl, rfl⟩, ns, ws, at_, rfl, rfl, rfl, h, hw, k⟩
@[irreducible] def dLine : R4 := fun pn a b c d n Q _ => IsPen pn a ∧ ∃ (ns ws : List Str) (at_ : Nat), b = .lst (ns.map D.str) ∧ c = .lst (ws.map D.str) ∧ d = .int at_ ∧ (n < 549755811000 ∧ at_ < ws.length ∧ ws.length ≤ 8 ∧ ns.length = ws.length) ∧ Wds ws ∧
  ∀ (li : Li) n', LiOk ws at_ li → n' ≤ n + 50 → Q (liD ns false li) n'
theorem i_line {p q : Addr} {ns ws : List Str} {at_ n : Nat} {Q : D → Nat → Prop} {X : XD} (h : n < 549755811000 ∧ at_ < ws.length ∧ ws.length ≤ 8 ∧ ns.length = ws.length) (hw : Wds ws) (k : ∀ (li : Li) n', LiOk ws at_ li → n' ≤ n + 50 → Q (liD ns false li) n') : dLine (some (p, q)) (.val (.ref p)) (.lst (ns.map D.str)) (.lst (ws.map D.str)) (.int at_) n Q X := by
  unfold dLine
  exact ⟨⟨p, q, rfl, rfl⟩, ns, ws, at_, rfl, rfl, rfl, h, hw, k⟩
theorem i_words {p q : Addr} {m n : Nat} {z : Int} (hz : z = (m : Int)) {Q : D → Nat → Prop} {X : XD} (h : n < 549755813000 ∧ 1 ≤ m ∧ m ≤ 8) (k : ∀ (ws : List Str) n', ws.length = m → Wds ws → n' ≤ n + 100 → Q (.lst (ws.map D.str)) n') : dWords (some (p, q)) (.val (.ref p)) (.int z) n Q X := by
  unfold dWords
  exact ⟨⟨p, q, rfl, rfl⟩, m, by rw [hz], h, k⟩
theorem i_names {p q : Addr} {m n : Nat} {z : Int} (hz : z = (m : Int)) {Q : D → Nat → Prop} {X : XD} (h : n < 549755812000 ∧ m ≤ 8) (k : ∀ (ns : List Str) n', ns.length = m → ns.Nodup → (∀ x ∈ ns, Nm x) → n' ≤ n + 200 → Q (.lst (ns.map D.str)) n') : dNames (some (p, q)) (.val (.ref p)) (.int z) n Q X := by
  unfold dNames
  exact ⟨⟨p, q, rfl, rfl⟩, m, by rw [hz], h, k⟩
/-- lines of up to so many -/
@[irreducible] def dLines : R2' := fun pn a b n Q _ => IsPen pn a ∧ ∃ m : Nat, b = .int m ∧ (n < 549755810000 ∧ 4 ≤ m ∧ m ≤ 8) ∧ ∀ (ns ws : List Str) (ls : List Li) n', DrS ns ws ls → n' ≤ n + 800 → Q (.lst (linesD ns ls false)) n'
end
end Lw


/-! Runs joined; a reader of one cell and a skip, as numbers (own). -/
namespace Jn
abbrev Rn := Int × Int
def jstep (acc : List Rn) (p : Rn) : List Rn :=
  if p.1 = 0 then acc else match acc.getLast? with
    | some r => if r.2 = p.2 then acc.dropLast ++ [(r.1 + p.1, p.2)] else acc ++ [p]
    | none => acc ++ [p]
def joinR (ps : List Rn) : List Rn := ps.foldl jstep []
def expand (rs : List Rn) : List Int := rs.flatMap fun r => List.replicate r.1.toNat r.2
theorem join_snoc (ps : List Rn) (p : Rn) : joinR (ps ++ [p]) = jstep (joinR ps) p := by
  unfold joinR
  rw [List.foldl_append]
  rfl
theorem last_split {α : Type} {l : List α} {x : α} (h : l.getLast? = some x) : l = l.dropLast ++ [x] := by
  cases l with
  | nil => cases h
  | cons a r =>
    have h1 : (a :: r).getLast (by simp) = x := by
      rw [List.getLast?_eq_some_getLast (by simp)] at h
      exact Option.some.inj h
    rw [← h1]
    exact (List.dropLast_concat_getLast _).symm
theorem jstep_len (acc : List Rn) (p : Rn) : (jstep acc p).length ≤ acc.length + 1 := by
  unfold jstep
  split
  · omega
  · split
    · rename_i r h
      have hl : acc.length = acc.dropLast.length + 1 := by
        have := congrArg List.length (last_split h)
        rw [List.length_append] at this
        exact this
      split
      · rw [List.length_append]
        show acc.dropLast.length + 1 ≤ _
        omega
      · rw [List.length_append]
        exact Nat.le_refl _
    · rw [List.length_append]
      exact Nat.le_refl _
theorem join_len (ps : List Rn) : (joinR ps).length ≤ ps.length := by
  have gen : ∀ (ps acc : List Rn), (ps.foldl jstep acc).length ≤ acc.length + ps.length := by
    intro ps
    induction ps with
    | nil => intro acc; exact Nat.le_refl _
    | cons p r ih =>
      intro acc
      have h1 := ih (jstep acc p)
      have h2 := jstep_len acc p
      show (r.foldl jstep (jstep acc p)).length ≤ acc.length + (r.length + 1)
      omega
  have := gen ps []
  unfold joinR
  show _ ≤ ps.length
  have h0 : ([] : List Rn).length = 0 := rfl
  omega
theorem expand_app (a b : List Rn) : expand (a ++ b) = expand a ++ expand b := by
  unfold expand
  rw [List.flatMap_append]
theorem expand_one (r : Rn) : expand [r] = List.replicate r.1.toNat r.2 := by
  unfold expand
  simp
theorem jstep_ok {acc : List Rn} {p : Rn} (ha : ∀ r ∈ acc, 1 ≤ r.1) (hp : 0 ≤ p.1) : (∀ r ∈ jstep acc p, 1 ≤ r.1) ∧ expand (jstep acc p) = expand acc ++ List.replicate p.1.toNat p.2 := by
  unfold jstep
  split
  · rename_i h0
    refine ⟨ha, ?_⟩
    rw [h0]
    simp
  · rename_i h0
    have new : (∀ r ∈ acc ++ [p], 1 ≤ r.1) ∧ expand (acc ++ [p]) = expand acc ++ List.replicate p.1.toNat p.2 := by
      refine ⟨fun r hr => ?_, by rw [expand_app, expand_one]⟩
      rcases List.mem_append.mp hr with h | h
      · exact ha r h
      · rw [List.mem_singleton.mp h]
        omega
    split
    · rename_i r h
      split
      · rename_i e
        have hs := last_split h
        have hr1 : 1 ≤ r.1 := ha r (by rw [hs]; simp)
        refine ⟨fun q hq => ?_, ?_⟩
        · rcases List.mem_append.mp hq with h | h
          · exact ha q (List.dropLast_subset _ h)
          · rw [List.mem_singleton.mp h]
            show 1 ≤ r.1 + p.1
            omega
        · conv => rhs; rw [hs]
          rw [expand_app, expand_one, expand_app, expand_one, List.append_assoc, e, List.replicate_append_replicate]
          congr 2
          show (r.1 + p.1).toNat = _
          omega
      · exact new
    · exact new
theorem join_ok {ps : List Rn} (hp : ∀ p ∈ ps, 0 ≤ p.1) : (∀ r ∈ joinR ps, 1 ≤ r.1) ∧ expand (joinR ps) = expand ps := by
  have gen : ∀ (ps acc : List Rn), (∀ p ∈ ps, 0 ≤ p.1) → (∀ r ∈ acc, 1 ≤ r.1) → (∀ r ∈ ps.foldl jstep acc, 1 ≤ r.1) ∧ expand (ps.foldl jstep acc) = expand acc ++ expand ps := by
    intro ps
    induction ps with
    | nil => intro acc _ ha; exact ⟨ha, by simp [expand]⟩
    | cons p r ih =>
      intro acc hp ha
      obtain ⟨h1, h2⟩ := jstep_ok ha (hp p List.mem_cons_self)
      obtain ⟨h3, h4⟩ := ih (jstep acc p) (fun q hq => hp q (List.mem_cons_of_mem _ hq)) h1
      refine ⟨h3, ?_⟩
      show expand (r.foldl jstep (jstep acc p)) = _
      rw [h4, h2, List.append_assoc]
      rfl
  exact gen ps [] hp (fun r hr => by cases hr)
theorem expand_ones (cs : List Int) : expand (cs.map fun c => ((1 : Int), c)) = cs := by
  induction cs with
  | nil => rfl
  | cons c r ih =>
    show List.replicate 1 c ++ expand _ = _
    rw [ih]
    rfl
theorem size_of {rs : List Rn} (h : ∀ r ∈ rs, 1 ≤ r.1) : (rs.map (·.1)).sum = ((expand rs).length : Int) := by
  induction rs with
  | nil => rfl
  | cons r t ih =>
    have h1 := h r List.mem_cons_self
    have h2 := ih fun q hq => h q (List.mem_cons_of_mem _ hq)
    show r.1 + (t.map (·.1)).sum = ((List.replicate r.1.toNat r.2 ++ expand t).length : Int)
    rw [h2, List.length_append, List.length_replicate]
    omega
/-! the reader -/
inductive St where
  | tk
  | sk (l : Nat)
def St.ok : Option St → Prop
  | some (.sk l) => 1 ≤ l
  | _ => True
def stepF (z : Int) : St → Int → Option St × Bool
  | .tk, c => if c + z < 0 then (none, false) else if c + z = 0 then (some .tk, true) else (some (.sk (c + z).toNat), false)
  | .sk l, _ => if l ≤ 1 then (some .tk, true) else (some (.sk (l - 1)), false)
theorem step_tk {z c : Int} : stepF z .tk c = if c + z < 0 then (none, false) else if c + z = 0 then (some .tk, true) else (some (.sk (c + z).toNat), false) := rfl
theorem step_sk {z c : Int} {l : Nat} : stepF z (.sk l) c = if l ≤ 1 then (some .tk, true) else (some (.sk (l - 1)), false) := rfl
def cutsFrom (z : Int) : List Int → Int → Option St → List Int
  | [], _, _ => []
  | _ :: _, _, none => []
  | c :: r, p, some s => (if (stepF z s c).2 = true then [p + 1] else []) ++ cutsFrom z r (p + 1) (stepF z s c).1
def aheadF (z : Int) : St → Int → Nat → Nat × Option St × Bool
  | .tk, c, n =>
    if c + z < 0 then (1, none, false)
    else if c + z = 0 then (1, some .tk, true)
    else if n = 1 then (1, some (.sk (c + z).toNat), false)
    else if n - 1 < (c + z).toNat then (n, some (.sk ((c + z).toNat - (n - 1))), false)
    else (1 + (c + z).toNat, some .tk, true)
  | .sk l, _, n => if n < l then (n, some (.sk (l - n)), false) else (l, some .tk, true)
theorem cuts_cons (z : Int) (c : Int) (r : List Int) (p : Int) (s : St) : cutsFrom z (c :: r) p (some s) = (if (stepF z s c).2 = true then [p + 1] else []) ++ cutsFrom z r (p + 1) (stepF z s c).1 := rfl
theorem none_cuts (z : Int) : ∀ (cs : List Int) (p : Int), cutsFrom z cs p none = []
  | [], _ => rfl
  | _ :: _, _ => rfl
/-- a skip of l cells -/
theorem skip_cuts {z : Int} : ∀ (l : Nat) (cs : List Int) (p : Int), 1 ≤ l → cutsFrom z cs p (some (.sk l)) = if l ≤ cs.length then (p + l) :: cutsFrom z (cs.drop l) (p + l) (some .tk) else [] := by
  intro l
  induction l with
  | zero => intro cs p h; omega
  | succ l ih =>
    intro cs p _
    cases cs with
    | nil => rw [if_neg (by simp)]; rfl
    | cons c r =>
      rw [cuts_cons]
      by_cases h0 : l = 0
      · subst h0
        have e : stepF z (.sk (0 + 1)) c = (some .tk, true) := rfl
        rw [e, if_pos (by simp)]
        simp
      · have e : stepF z (.sk (l + 1)) c = (some (.sk l), false) := by
          show (if l + 1 ≤ 1 then (some St.tk, true) else (some (St.sk (l + 1 - 1)), false)) = _
          rw [if_neg (by omega)]
          rfl
        rw [e]
        show [] ++ cutsFrom z r (p + 1) (some (.sk l)) = _
        rw [List.nil_append, ih r (p + 1) (by omega), List.length_cons]
        by_cases h : l ≤ r.length
        · rw [if_pos h, if_pos (by omega), List.drop_succ_cons]
          rw [show p + 1 + (l : Int) = p + ((l + 1 : Nat) : Int) by omega]
        · rw [if_neg h, if_neg (by omega)]
theorem rep_split {n m : Nat} (h : m ≤ n) (c : Int) (r : List Int) : List.replicate n c ++ r = List.replicate m c ++ (List.replicate (n - m) c ++ r) := by
  rw [← List.append_assoc, List.replicate_append_replicate]
  congr 2
  omega
theorem sk_part {z : Int} {l n : Nat} {c p : Int} {r : List Int} (h : n < l) : cutsFrom z (List.replicate n c ++ r) p (some (.sk l)) = cutsFrom z r (p + n) (some (.sk (l - n))) := by
  rw [skip_cuts l _ _ (by omega), skip_cuts (l - n) _ _ (by omega), List.length_append, List.length_replicate]
  by_cases h2 : l ≤ n + r.length
  · rw [if_pos h2, if_pos (by omega), List.drop_append, List.length_replicate, List.drop_of_length_le (by rw [List.length_replicate]; omega), List.nil_append]
    rw [show p + (l : Int) = p + (n : Int) + ((l - n : Nat) : Int) by omega]
  · rw [if_neg h2, if_neg (by omega)]
theorem sk_all {z : Int} {l n : Nat} {c p : Int} {r : List Int} (h1 : 1 ≤ l) (h : l ≤ n) : cutsFrom z (List.replicate n c ++ r) p (some (.sk l)) = [p + l] ++ cutsFrom z (List.replicate (n - l) c ++ r) (p + l) (some .tk) := by
  rw [skip_cuts l _ _ h1, List.length_append, List.length_replicate, if_pos (by omega), List.drop_append, List.length_replicate, List.drop_replicate]
  rw [show l - n = 0 by omega]
  rfl
theorem tk_step {z : Int} {c p : Int} {r : List Int} : cutsFrom z (c :: r) p (some .tk) = if c + z < 0 then [] else if c + z = 0 then [p + 1] ++ cutsFrom z r (p + 1) (some .tk) else cutsFrom z r (p + 1) (some (.sk (c + z).toNat)) := by
  rw [cuts_cons]
  by_cases h1 : c + z < 0
  · have e : stepF z .tk c = (none, false) := if_pos h1
    rw [e, if_pos h1]
    show [] ++ cutsFrom z r (p + 1) none = []
    rw [none_cuts]
    rfl
  · by_cases h2 : c + z = 0
    · have e : stepF z .tk c = (some .tk, true) := (if_neg h1).trans (if_pos h2)
      rw [e, if_neg h1, if_pos h2]
      rfl
    · have e : stepF z .tk c = (some (.sk (c + z).toNat), false) := (if_neg h1).trans (if_neg h2)
      rw [e, if_neg h1, if_neg h2]
      rfl
theorem ah_tk {z c : Int} {n : Nat} : aheadF z .tk c n = if c + z < 0 then (1, none, false)
    else if c + z = 0 then (1, some .tk, true)
    else if n = 1 then (1, some (.sk (c + z).toNat), false)
    else if n - 1 < (c + z).toNat then (n, some (.sk ((c + z).toNat - (n - 1))), false)
    else (1 + (c + z).toNat, some .tk, true) := rfl
theorem ah_sk {z c : Int} {l n : Nat} : aheadF z (.sk l) c n = if n < l then (n, some (.sk (l - n)), false) else (l, some .tk, true) := rfl
theorem ahead_ok {z : Int} {s : St} {c p : Int} {n : Nat} {r : List Int} (hn : 1 ≤ n) (hs : St.ok (some s)) :
    1 ≤ (aheadF z s c n).1 ∧ (aheadF z s c n).1 ≤ n ∧ St.ok (aheadF z s c n).2.1 ∧
      cutsFrom z (List.replicate n c ++ r) p (some s) = (if (aheadF z s c n).2.2 = true then [p + ((aheadF z s c n).1 : Int)] else []) ++ cutsFrom z (List.replicate (n - (aheadF z s c n).1) c ++ r) (p + ((aheadF z s c n).1 : Int)) (aheadF z s c n).2.1 := by
  cases s with
  | tk =>
    obtain ⟨m, rfl⟩ : ∃ m, n = m + 1 := ⟨n - 1, by omega⟩
    have e : List.replicate (m + 1) c ++ r = c :: (List.replicate m c ++ r) := rfl
    rw [e, tk_step, ah_tk]
    by_cases h1 : c + z < 0
    · rw [if_pos h1, if_pos h1]
      refine ⟨Nat.le_refl _, by omega, True.intro, ?_⟩
      show [] = [] ++ cutsFrom z _ _ none
      rw [none_cuts]
      rfl
    · rw [if_neg h1, if_neg h1]
      by_cases h2 : c + z = 0
      · rw [if_pos h2, if_pos h2]
        exact ⟨Nat.le_refl _, by omega, True.intro, rfl⟩
      · rw [if_neg h2, if_neg h2]
        have hL : 1 ≤ (c + z).toNat := by omega
        by_cases h3 : m + 1 = 1
        · rw [if_pos h3]
          have : m = 0 := by omega
          subst this
          exact ⟨Nat.le_refl _, by omega, hL, rfl⟩
        · rw [if_neg h3]
          by_cases h4 : m + 1 - 1 < (c + z).toNat
          · rw [if_pos h4]
            refine ⟨by omega, Nat.le_refl _, show 1 ≤ _ by omega, ?_⟩
            show cutsFrom z (List.replicate m c ++ r) (p + 1) _ = [] ++ cutsFrom z (List.replicate (m + 1 - (m + 1)) c ++ r) _ _
            rw [sk_part (by omega), Nat.sub_self]
            show cutsFrom z r (p + 1 + (m : Int)) (some (.sk ((c + z).toNat - m))) = cutsFrom z r (p + ((m + 1 : Nat) : Int)) (some (.sk ((c + z).toNat - m)))
            rw [show p + 1 + (m : Int) = p + ((m + 1 : Nat) : Int) by omega]
          · rw [if_neg h4]
            refine ⟨by omega, by show 1 + _ ≤ _; omega, True.intro, ?_⟩
            rw [sk_all hL (by omega)]
            show [p + 1 + ((c + z).toNat : Int)] ++ cutsFrom z (List.replicate (m - (c + z).toNat) c ++ r) (p + 1 + ((c + z).toNat : Int)) (some .tk) = [p + ((1 + (c + z).toNat : Nat) : Int)] ++ cutsFrom z (List.replicate (m + 1 - (1 + (c + z).toNat)) c ++ r) (p + ((1 + (c + z).toNat : Nat) : Int)) (some .tk)
            rw [show p + 1 + ((c + z).toNat : Int) = p + ((1 + (c + z).toNat : Nat) : Int) by omega, show m + 1 - (1 + (c + z).toNat) = m - (c + z).toNat by omega]
  | sk l =>
    have hl : 1 ≤ l := hs
    rw [ah_sk]
    by_cases h : n < l
    · rw [if_pos h]
      refine ⟨hn, Nat.le_refl _, show 1 ≤ _ by omega, ?_⟩
      rw [sk_part h]
      show _ = [] ++ cutsFrom z (List.replicate (n - n) c ++ r) _ _
      rw [Nat.sub_self]
      rfl
    · rw [if_neg h]
      refine ⟨hl, by show l ≤ n; omega, True.intro, ?_⟩
      exact sk_all hl (by omega)
/-! the law's own -/
def lnext (z : Int) (cs : List Int) (place : Int) : Int := if cs.getD place.toNat 0 + z ≥ 0 then place + 1 + (cs.getD place.toNat 0 + z) else cs.length + 1
def lstep (z : Int) (cs : List Int) (a : Int × List Int) : Int × List Int :=
  if a.1 < cs.length then (lnext z cs a.1, if lnext z cs a.1 ≤ cs.length then a.2 ++ [lnext z cs a.1] else a.2) else a
def litN (z : Int) (cs : List Int) : Nat → Int × List Int
  | 0 => (0, [])
  | k + 1 => lstep z cs (litN z cs k)
def rest (z : Int) (cs : List Int) (p : Int) : List Int := if p ≤ cs.length then cutsFrom z (cs.drop p.toNat) p (some .tk) else []
theorem lstep_ok {z : Int} {cs : List Int} {a : Int × List Int} (h0 : 0 ≤ a.1) : 0 ≤ (lstep z cs a).1 ∧ (a.1 < cs.length → a.1 < (lstep z cs a).1) ∧ (¬ a.1 < cs.length → (lstep z cs a) = a) ∧ (lstep z cs a).2 ++ rest z cs (lstep z cs a).1 = a.2 ++ rest z cs a.1 := by
  unfold lstep
  by_cases h : a.1 < cs.length
  · rw [if_pos h]
    have hi : a.1.toNat < cs.length := by omega
    have hd : cs.drop a.1.toNat = cs[a.1.toNat] :: cs.drop (a.1.toNat + 1) := List.drop_eq_getElem_cons hi
    have hg : cs.getD a.1.toNat 0 = cs[a.1.toNat] := by
      rw [List.getD_eq_getElem?_getD, List.getElem?_eq_getElem hi]
      rfl
    generalize hc : cs[a.1.toNat] = c at hd hg
    have hr : rest z cs a.1 = cutsFrom z (c :: cs.drop (a.1.toNat + 1)) a.1 (some .tk) := by
      unfold rest
      rw [if_pos (by omega), hd]
    have hlen : (cs.drop (a.1.toNat + 1)).length = cs.length - (a.1.toNat + 1) := List.length_drop
    rw [hr, tk_step]
    unfold lnext
    rw [hg]
    by_cases h1 : c + z < 0
    · rw [if_neg (show ¬ (c + z ≥ 0) by omega), if_pos h1]
      refine ⟨by show (0 : Int) ≤ cs.length + 1; omega, fun _ => by show a.1 < cs.length + 1; omega, fun n => absurd h n, ?_⟩
      show (if _ then _ else a.2) ++ rest z cs (cs.length + 1) = _
      rw [if_neg (by omega)]
      unfold rest
      rw [if_neg (by omega)]
    · rw [if_pos (show c + z ≥ 0 by omega), if_neg h1]
      refine ⟨by show 0 ≤ a.1 + 1 + (c + z); omega, fun _ => by show a.1 < a.1 + 1 + (c + z); omega, fun n => absurd h n, ?_⟩
      show (if a.1 + 1 + (c + z) ≤ (cs.length : Int) then a.2 ++ [a.1 + 1 + (c + z)] else a.2) ++ rest z cs (a.1 + 1 + (c + z)) = _
      have hdd : ∀ L : Nat, (L : Int) = c + z → (cs.drop (a.1.toNat + 1)).drop L = cs.drop (a.1 + 1 + (c + z)).toNat := fun L hL => by
        rw [List.drop_drop]
        congr 1
        omega
      by_cases h2 : c + z = 0
      · rw [if_pos h2, if_pos (by omega)]
        unfold rest
        rw [if_pos (by omega), List.append_assoc, ← hdd 0 (by omega), List.drop_zero, h2]
        rw [show a.1 + 1 + (0 : Int) = a.1 + 1 by omega]
      · rw [if_neg h2, skip_cuts _ _ _ (by omega), hlen]
        have hL : (((c + z).toNat : Nat) : Int) = c + z := by omega
        by_cases h3 : a.1 + 1 + (c + z) ≤ (cs.length : Int)
        · rw [if_pos h3, if_pos (by omega)]
          unfold rest
          rw [if_pos h3, List.append_assoc, hdd _ hL, hL]
          rfl
        · rw [if_neg h3, if_neg (by omega)]
          unfold rest
          rw [if_neg h3]
  · rw [if_neg h]
    exact ⟨h0, fun q => absurd q h, fun _ => rfl, rfl⟩
theorem lit_inv {z : Int} {cs : List Int} : ∀ k, 0 ≤ (litN z cs k).1 ∧ ((k : Int) ≤ (litN z cs k).1 ∨ (cs.length : Int) ≤ (litN z cs k).1) ∧ (litN z cs k).2 ++ rest z cs (litN z cs k).1 = cutsFrom z cs 0 (some .tk)
  | 0 => by
    refine ⟨Int.le_refl _, .inl (Int.le_refl _), ?_⟩
    show [] ++ rest z cs 0 = _
    unfold rest
    rw [if_pos (by omega)]
    rfl
  | k + 1 => by
    obtain ⟨h1, h2, h3⟩ := lit_inv (z := z) (cs := cs) k
    obtain ⟨g1, g2, g3, g4⟩ := lstep_ok (z := z) (cs := cs) h1
    refine ⟨g1, ?_, g4.trans h3⟩
    show ((k + 1 : Nat) : Int) ≤ (lstep z cs (litN z cs k)).1 ∨ _
    by_cases h : (litN z cs k).1 < cs.length
    · have := g2 h
      rcases h2 with h2 | h2
      · exact .inl (by omega)
      · omega
    · refine .inr ?_
      show (cs.length : Int) ≤ (lstep z cs (litN z cs k)).1
      rw [g3 h]
      omega
theorem lit_end {z : Int} {cs : List Int} : (litN z cs cs.length).2 = cutsFrom z cs 0 (some .tk) := by
  obtain ⟨h1, h2, h3⟩ := lit_inv (z := z) (cs := cs) cs.length
  have hp : (cs.length : Int) ≤ (litN z cs cs.length).1 := h2.elim id id
  rw [← h3]
  have : rest z cs (litN z cs cs.length).1 = [] := by
    unfold rest
    split
    · rw [List.drop_of_length_le (by omega)]
      rfl
    · rfl
  rw [this, List.append_nil]
theorem cuts_len (z : Int) : ∀ (cs : List Int) (p : Int) (s : Option St), (cutsFrom z cs p s).length ≤ cs.length
  | [], _, _ => Nat.le_refl _
  | _ :: _, _, none => Nat.zero_le _
  | c :: r, p, some s => by
    rw [cuts_cons, List.length_append, List.length_cons]
    have := cuts_len z r (p + 1) (stepF z s c).1
    split
    · show 1 + _ ≤ _; omega
    · show 0 + _ ≤ _; omega
end Jn

/-! What a reader does, as numbers: for every drawn reader (own). -/
namespace Lw
open PySem PySem.Spec L2 Da
/-- a stand: the place of a line, what is kept, what is left of it -/
structure Sd where
  at_ : Nat
  kept : Option Int
  left : Nat
instance : DecidableEq Sd := fun a b => if h : a.at_ = b.at_ ∧ a.kept = b.kept ∧ a.left = b.left then isTrue (by
    obtain ⟨a1, a2, a3⟩ := a
    obtain ⟨b1, b2, b3⟩ := b
    obtain ⟨h1, h2, h3⟩ := h
    have h1 : a1 = b1 := h1
    have h2 : a2 = b2 := h2
    have h3 : a3 = b3 := h3
    rw [h1, h2, h3]) else isFalse fun e => h ⟨by rw [e], by rw [e], by rw [e]⟩
/-- one line come to: it waits, it refuses, or another one is come to -/
inductive Cm where
  | stop (o : Option Sd)
  | go (i : Nat) (kept : Option Int) (cut : Bool)
def hop (li : Li) (i : Nat) (kept : Option Int) : Cm := match li with
  | .fin w => if w = "cut" then .go 0 none true else .stop none
  | .take _ => .stop (some ⟨i, kept, 1⟩)
  | .case _ _ => .stop (some ⟨i, kept, 1⟩)
  | .upto c a b => .go (match kept with | none => b | some k => if k ≤ c then a else b) kept false
  | .num w c o =>
    if w = "skip" then match kept with
      | none => .stop none
      | some k => if k + c < 0 then .stop none else if k + c = 0 then .go o none false else .stop (some ⟨i, none, (k + c).toNat⟩)
    else if w = "set" then .go o (some c) false
    else if w = "jump" then .stop (some ⟨i, kept, c.toNat⟩)
    else .stop (some ⟨i, kept, 1⟩)
def come (ls : List Li) : Nat → Nat → Option Int → Option Sd × Bool
  | 0, _, _ => (none, false)
  | n + 1, i, k => match ls[i]? with
    | none => (none, false)
    | some li => match hop li i k with
      | .stop o => (o, false)
      | .go j k' c => ((come ls n j k').1, (come ls n j k').2 || c)
/-- behind the last cell that a line goes over -/
def behind (ls : List Li) (s : Sd) (cell : Int) : Option Sd × Bool := match ls[s.at_]? with
  | none => (none, false)
  | some li => match li with
    | .case wy o => come ls 30 (((wy.filter fun y => y.1 == cell).map (·.2) ++ [o]).headD o) s.kept
    | .take o => come ls 30 o (some cell)
    | .num w c o => come ls 30 o (if w = "rest" then some (cell % c) else if w = "cap" then some (if c < cell then c else cell) else s.kept)
    | .upto _ _ b => come ls 30 b s.kept
    | .fin _ => (none, false)
def step1 (ls : List Li) (s : Sd) (cell : Int) : Option Sd × Bool := if 1 < s.left then (some ⟨s.at_, s.kept, s.left - 1⟩, false) else behind ls s cell
/-- where a hop may lead in a drawn reader -/
theorem hop_goR {ws : List Str} {ls : List Li} {rk : Nat → Nat} (d : ∀ i li, ls[i]? = some li → LiOkR rk ws i li) {i j : Nat} {li : Li} {k k' : Option Int} {c : Bool} (h : ls[i]? = some li) (e : hop li i k = .go j k' c) :
    (c = true ∧ j = 0 ∧ k' = none ∧ wAt ws i = "cut") ∨ (c = false ∧ ¬ Lk (wAt ws i) ∧ j < ws.length ∧ (Lk (wAt ws j) ∨ (0 < i ∧ rk i < rk j))) := by
  have ok := d i li h
  have nl : ∀ x : Str, x ∈ (["skip", "cut", "upto", "set", "refuse"] : List Str) → ¬ Lk x := by decide +kernel
  cases li with
  | fin w =>
    obtain ⟨h1, h2⟩ := ok
    simp only [hop] at e
    by_cases hw : w = "cut"
    · rw [if_pos hw] at e
      cases e
      exact .inl ⟨rfl, rfl, rfl, by rw [h1, hw]⟩
    · rw [if_neg hw] at e
      cases e
  | take o => cases e
  | case wy o => cases e
  | upto c' a b =>
    obtain ⟨h1, _, _, h4, h5⟩ := ok
    have hq : ¬ Lk (wAt ws i) := by rw [h1]; exact nl _ (by decide +kernel)
    simp only [hop] at e
    cases e
    refine .inr ⟨rfl, hq, ?_⟩
    cases k with
    | none => exact ⟨h5.1, h5.2 hq⟩
    | some v =>
      show (if v ≤ c' then a else b) < ws.length ∧ (Lk (wAt ws (if v ≤ c' then a else b)) ∨ (0 < i ∧ rk i < rk (if v ≤ c' then a else b)))
      by_cases hv : v ≤ c'
      · rw [if_pos hv]
        exact ⟨h4.1, h4.2 hq⟩
      · rw [if_neg hv]
        exact ⟨h5.1, h5.2 hq⟩
  | num w c' o =>
    obtain ⟨h1, h2, h3⟩ := ok
    simp only [hop] at e
    by_cases hw : w = "skip"
    · have hq : ¬ Lk (wAt ws i) := by rw [h1, hw]; exact nl _ (by decide +kernel)
      simp only [if_pos hw] at e
      cases k with
      | none => cases e
      | some v =>
        simp only at e
        by_cases hv : v + c' < 0
        · rw [if_pos hv] at e
          cases e
        · rw [if_neg hv] at e
          by_cases hv2 : v + c' = 0
          · rw [if_pos hv2] at e
            cases e
            exact .inr ⟨rfl, hq, h3.1, h3.2 hq⟩
          · rw [if_neg hv2] at e
            cases e
    · simp only [if_neg hw] at e
      by_cases hs : w = "set"
      · have hq : ¬ Lk (wAt ws i) := by rw [h1, hs]; exact nl _ (by decide +kernel)
        rw [if_pos hs] at e
        cases e
        exact .inr ⟨rfl, hq, h3.1, h3.2 hq⟩
      · rw [if_neg hs] at e
        by_cases hj : w = "jump"
        · rw [if_pos hj] at e
          cases e
        · rw [if_neg hj] at e
          cases e
theorem hop_go {ns ws : List Str} {ls : List Li} (d : Drawn ns ws ls) {i j : Nat} {li : Li} {k k' : Option Int} {c : Bool} (h : ls[i]? = some li) (e : hop li i k = .go j k' c) :
    (c = true ∧ j = 0 ∧ k' = none ∧ wAt ws i = "cut") ∨ (c = false ∧ ¬ Lk (wAt ws i) ∧ j < ws.length ∧ True) := by
  obtain ⟨rk, _, hr⟩ := d.okR
  exact (hop_goR hr h e).imp id (fun z => ⟨z.1, z.2.1, z.2.2.1, trivial⟩)
/-- a stand at which a drawn reader may wait -/
structure SdOk (ws : List Str) (s : Sd) : Prop where
  lt : s.at_ < ws.length
  pos : 1 ≤ s.left
  word : Lk (wAt ws s.at_) ∨ (wAt ws s.at_ = "skip" ∧ s.kept = none)
def OutOk (ws : List Str) (o : Option Sd) : Prop := ∀ s, o = some s → SdOk ws s
/-- a line that reads waits at once -/
theorem hop_read {ns ws : List Str} {ls : List Li} (d : Drawn ns ws ls) {i : Nat} {li : Li} {k : Option Int} (h : ls[i]? = some li) (hl : Lk (wAt ws i)) : ∃ l : Nat, 1 ≤ l ∧ hop li i k = .stop (some ⟨i, k, l⟩) := by
  have ok := d.ok i li h
  have nl : ∀ x : Str, x ∈ (["skip", "cut", "upto", "set", "refuse"] : List Str) → ¬ Lk x := by decide +kernel
  cases li with
  | fin w =>
    obtain ⟨h1, h2⟩ := ok
    rw [h1] at hl
    rcases h2 with rfl | rfl
    · exact absurd hl (nl _ (by decide +kernel))
    · exact absurd hl (nl _ (by decide +kernel))
  | take o => exact ⟨1, Nat.le_refl _, rfl⟩
  | case wy o => exact ⟨1, Nat.le_refl _, rfl⟩
  | upto c a b =>
    rw [ok.1] at hl
    exact absurd hl (nl _ (by decide +kernel))
  | num w c o =>
    obtain ⟨h1, h2, h3⟩ := ok
    rw [h1] at hl
    have n1 : w ≠ "skip" := fun e => nl _ (by decide +kernel) (e ▸ hl)
    have n2 : w ≠ "set" := fun e => nl _ (by decide +kernel) (e ▸ hl)
    simp only [hop]
    rw [if_neg n1, if_neg n2]
    by_cases hj : w = "jump"
    · rw [if_pos hj]
      refine ⟨c.toNat, ?_, rfl⟩
      have ne : ∀ x : Str, x ∈ (["rest", "cap", "set", "skip"] : List Str) → x ≠ "jump" := by decide +kernel
      rcases h2 with ⟨e, _⟩ | ⟨e, _⟩ | ⟨e, h4, h5⟩ | ⟨e, _⟩ | ⟨e, _⟩
      · exact absurd hj (ne w (by rw [e]; decide +kernel))
      · exact absurd hj (ne w (by rw [e]; decide +kernel))
      · omega
      · exact absurd hj (ne w (by rw [e]; decide +kernel))
      · exact absurd hj (ne w (by rw [e]; decide +kernel))
    · rw [if_neg hj]
      exact ⟨1, Nat.le_refl _, rfl⟩
/-- where a line stops, it waits well -/
theorem hop_stop {ns ws : List Str} {ls : List Li} (d : Drawn ns ws ls) {i : Nat} {li : Li} {k : Option Int} {o : Option Sd} (h : ls[i]? = some li) (e : hop li i k = .stop o) : OutOk ws o := by
  have hi : i < ws.length := by
    have := (List.getElem?_eq_some_iff.mp h).1
    rw [d.lenL] at this
    exact this
  by_cases hl : Lk (wAt ws i)
  · obtain ⟨l, l1, e2⟩ := hop_read d (k := k) h hl
    rw [e2] at e
    cases e
    rintro s ⟨⟩
    exact ⟨hi, l1, .inl hl⟩
  have ok := d.ok i li h
  have lk : ∀ x : Str, x ∈ (["take", "case", "rest", "cap", "jump"] : List Str) → Lk x := fun x h => h
  cases li with
  | fin w =>
    simp only [hop] at e
    by_cases hw : w = "cut"
    · rw [if_pos hw] at e
      cases e
    · rw [if_neg hw] at e
      cases e
      rintro s ⟨⟩
  | take o => exact absurd (by rw [ok.1]; decide +kernel) hl
  | case wy o => exact absurd (by rw [ok.1]; decide +kernel) hl
  | upto c a b => cases e
  | num w c o =>
    obtain ⟨h1, h2, h3⟩ := ok
    rw [h1] at hl
    simp only [hop] at e
    by_cases hw : w = "skip"
    · rw [if_pos hw] at e
      cases k with
      | none =>
        cases e
        rintro s ⟨⟩
      | some v =>
        simp only at e
        by_cases hv : v + c < 0
        · rw [if_pos hv] at e
          cases e
          rintro s ⟨⟩
        · rw [if_neg hv] at e
          by_cases hv2 : v + c = 0
          · rw [if_pos hv2] at e
            cases e
          · rw [if_neg hv2] at e
            cases e
            rintro s ⟨⟩
            exact ⟨hi, by show 1 ≤ (v + c).toNat; omega, .inr ⟨by rw [h1, hw], rfl⟩⟩
    · rw [if_neg hw] at e
      by_cases hs : w = "set"
      · rw [if_pos hs] at e
        cases e
      · rcases h2 with ⟨e2, _⟩ | ⟨e2, _⟩ | ⟨e2, _⟩ | ⟨e2, _⟩ | ⟨e2, _⟩
        · exact absurd (by rw [e2]; decide +kernel) hl
        · exact absurd (by rw [e2]; decide +kernel) hl
        · exact absurd (by rw [e2]; decide +kernel) hl
        · exact absurd e2 hs
        · exact absurd e2 hw
/-- so many turns from line to line, and the end of them -/
inductive Trip (ls : List Li) : Nat → Nat → Option Int → Option Sd × Bool → Prop where
  | stop {m i : Nat} {li : Li} {k : Option Int} {o : Option Sd} : ls[i]? = some li → hop li i k = .stop o → Trip ls m i k (o, false)
  | go {m i j : Nat} {li : Li} {k k' : Option Int} {c : Bool} {r : Option Sd × Bool} : ls[i]? = some li → hop li i k = .go j k' c → Trip ls m j k' r → Trip ls (m + 1) i k (r.1, r.2 || c)
theorem Trip.come {ls : List Li} {m i : Nat} {k : Option Int} {r : Option Sd × Bool} (h : Trip ls m i k r) : ∀ n, m + 1 ≤ n → Lw.come ls n i k = r := by
  induction h with
  | stop h1 h2 =>
    intro n hn
    obtain ⟨n, rfl⟩ : ∃ q, n = q + 1 := ⟨n - 1, by omega⟩
    simp only [Lw.come, h1, h2]
  | go h1 h2 _ ih =>
    intro n hn
    obtain ⟨n, rfl⟩ : ∃ q, n = q + 1 := ⟨n - 1, by omega⟩
    simp only [Lw.come, h1, h2]
    rw [ih n (by omega)]
theorem Trip.up {ls : List Li} {m i : Nat} {k : Option Int} {r : Option Sd × Bool} (h : Trip ls m i k r) : ∀ {n : Nat}, m ≤ n → Trip ls n i k r := by
  induction h with
  | stop h1 h2 => exact fun _ => .stop h1 h2
  | go h1 h2 _ ih =>
    intro n hn
    obtain ⟨n, rfl⟩ : ∃ q, n = q + 1 := ⟨n - 1, by omega⟩
    exact .go h1 h2 (ih (by omega))
/-- the first line waits, and is come to without an event -/
theorem trip_first {ns ws : List Str} {ls : List Li} (d : Drawn ns ws ls) (k : Option Int) : ∃ s, SdOk ws s ∧ Trip ls 1 0 k (some s, false) := by
  have h0 : 0 < ls.length := by rw [d.lenL]; exact d.pos
  obtain ⟨li, hli⟩ : ∃ li, ls[0]? = some li := ⟨_, List.getElem?_eq_getElem h0⟩
  by_cases hl : Lk (wAt ws 0)
  · obtain ⟨l, l1, e⟩ := hop_read d (k := k) hli hl
    exact ⟨⟨0, k, l⟩, ⟨d.pos, l1, .inl hl⟩, .stop hli e⟩
  · obtain ⟨rk, _, hrk⟩ := d.okR
    rcases d.wds.beg with ⟨x, hx, hx2⟩ | ⟨x, hx, hx2⟩
    · rw [← wAt_some hx] at hx2
      exact absurd hx2 hl
    · cases hh : hop li 0 k with
      | stop o =>
        exfalso
        have ok := d.ok 0 li hli
        have hw := wAt_some hx
        have ne : ∀ y : Str, y ∈ (["set", "upto"] : List Str) → y ≠ "cut" ∧ y ≠ "refuse" ∧ y ≠ "skip" ∧ ¬ Lk y := by decide +kernel
        obtain ⟨a1, a2, a3, a4⟩ := ne x hx2
        cases li with
        | fin w =>
          obtain ⟨h1, h2⟩ := ok
          rw [hw] at h1
          rcases h2 with e | e
          · exact a1 (h1.trans e)
          · exact a2 (h1.trans e)
        | take o => exact hl (by rw [ok.1]; decide +kernel)
        | case wy o => exact hl (by rw [ok.1]; decide +kernel)
        | upto c a b => cases hh
        | num w c o =>
          obtain ⟨h1, h2, h3⟩ := ok
          rw [hw] at h1
          subst h1
          simp only [hop] at hh
          rw [if_neg a3] at hh
          by_cases hs : x = "set"
          · rw [if_pos hs] at hh
            cases hh
          · have : ∀ y : Str, y ∈ (["set", "upto"] : List Str) → y ≠ "set" → y ≠ "rest" ∧ y ≠ "cap" ∧ y ≠ "jump" := by decide +kernel
            obtain ⟨b1, b2, b3⟩ := this x hx2 hs
            rcases h2 with ⟨e2, _⟩ | ⟨e2, _⟩ | ⟨e2, _⟩ | ⟨e2, _⟩ | ⟨e2, _⟩
            · exact b1 e2
            · exact b2 e2
            · exact b3 e2
            · exact hs e2
            · exact a3 e2
      | go j k' c =>
        rcases hop_goR hrk hli hh with ⟨_, _, _, e⟩ | ⟨rfl, _, hj, hj2⟩
        · have ne : ∀ y : Str, y ∈ (["set", "upto"] : List Str) → y ≠ "cut" := by decide +kernel
          exact absurd ((wAt_some hx).symm.trans e) (ne x hx2)
        · rcases hj2 with hj2 | hj2
          · obtain ⟨lj, hlj⟩ : ∃ lj, ls[j]? = some lj := ⟨_, List.getElem?_eq_getElem (by rw [d.lenL]; exact hj)⟩
            obtain ⟨l, l1, e⟩ := hop_read d (k := k') hlj hj2
            exact ⟨⟨j, k', l⟩, ⟨hj, l1, .inl hj2⟩, .go (m := 0) hli hh (.stop hlj e)⟩
          · omega
/-- any line is come to an end from, within the law's turns; a cut refuses nothing -/
theorem trip_ends {ns ws : List Str} {ls : List Li} (d : Drawn ns ws ls) {rk : Nat → Nat} (hb : ∀ i, i < ws.length → rk i < ws.length) (hrk : ∀ i li, ls[i]? = some li → LiOkR rk ws i li) : ∀ (m i : Nat) (k : Option Int), i < ws.length → ws.length - rk i ≤ m → ∃ r : Option Sd × Bool, OutOk ws r.1 ∧ (r.1 = none → r.2 = false) ∧ Trip ls (m + 2) i k r
  | 0, i, k, hi, hm => by
    have := hb i hi
    omega
  | m + 1, i, k, hi, hm => by
    obtain ⟨li, hli⟩ : ∃ li, ls[i]? = some li := ⟨_, List.getElem?_eq_getElem (by rw [d.lenL]; exact hi)⟩
    cases hh : hop li i k with
    | stop o => exact ⟨(o, false), hop_stop d hli hh, fun _ => rfl, .stop hli hh⟩
    | go j k' c =>
      rcases hop_goR hrk hli hh with ⟨rfl, rfl, rfl, _⟩ | ⟨rfl, hq, hj, hj2⟩
      · obtain ⟨s, hs, he⟩ := trip_first d none
        exact ⟨(some s, true), fun s' e => by cases e; exact hs, (fun e => by cases e), .go (r := (some s, false)) hli hh (he.up (by omega))⟩
      · rcases hj2 with hj2 | hj2
        · obtain ⟨lj, hlj⟩ : ∃ lj, ls[j]? = some lj := ⟨_, List.getElem?_eq_getElem (by rw [d.lenL]; exact hj)⟩
          obtain ⟨l, l1, e⟩ := hop_read d (k := k') hlj hj2
          exact ⟨(some ⟨j, k', l⟩, false), fun s' e => by cases e; exact ⟨hj, l1, .inl hj2⟩, (fun e => by cases e), .go (r := (some ⟨j, k', l⟩, false)) hli hh (.stop hlj e)⟩
        · obtain ⟨r, hr, h0, he⟩ := trip_ends d hb hrk m j k' hj (by have := hb j hj; omega)
          refine ⟨r, hr, h0, ?_⟩
          have := Trip.go (ls := ls) hli hh he
          rw [Bool.or_false] at this
          exact this
theorem trip10 {ns ws : List Str} {ls : List Li} (d : Drawn ns ws ls) {i : Nat} (k : Option Int) (hi : i < ws.length) : OutOk ws (come ls 30 i k).1 ∧ ((come ls 30 i k).1 = none → (come ls 30 i k).2 = false) ∧ Trip ls 10 i k (come ls 30 i k) := by
  have h8 := d.most
  obtain ⟨rk, hb, hrk⟩ := d.okR
  obtain ⟨r, h1, h2, h3⟩ := trip_ends d hb hrk 8 i k hi (by omega)
  rw [h3.come 30 (by decide)]
  exact ⟨h1, h2, h3⟩
end Lw

/-! Equal cells gone over by a drawn reader: up to the first event, whole rings at once (own). -/
namespace Lw
open PySem PySem.Spec L2 Da
def aheadG (ls : List Li) (cell : Int) : Nat → Sd → Nat × Option Sd × Bool
  | 0, s => (0, some s, false)
  | n + 1, s => match step1 ls s cell with
    | (some s', false) => ((aheadG ls cell n s').1 + 1, (aheadG ls cell n s').2)
    | (o, c) => (1, o, c)
theorem ah_go {ls : List Li} {cell : Int} {n : Nat} {s s' : Sd} (h : step1 ls s cell = (some s', false)) : aheadG ls cell (n + 1) s = ((aheadG ls cell n s').1 + 1, (aheadG ls cell n s').2) := by
  simp only [aheadG, h]
theorem ah_end {ls : List Li} {cell : Int} {n : Nat} {s : Sd} {o : Option Sd} {c : Bool} (h : step1 ls s cell = (o, c)) (he : o = none ∨ c = true) : aheadG ls cell (n + 1) s = (1, o, c) := by
  cases o with
  | none => simp only [aheadG, h]
  | some s' =>
    rcases he with e | rfl
    · cases e
    · simp only [aheadG, h]
/-- within what is left of a line -/
theorem ah_part {ls : List Li} {cell : Int} : ∀ {n : Nat} {i l : Nat} {k : Option Int}, n < l → aheadG ls cell n ⟨i, k, l⟩ = (n, some ⟨i, k, l - n⟩, false)
  | 0, i, l, k, _ => rfl
  | n + 1, i, l, k, h => by
    have e : step1 ls ⟨i, k, l⟩ cell = (some ⟨i, k, l - 1⟩, false) := if_pos (show 1 < l by omega)
    rw [ah_go e, ah_part (show n < l - 1 by omega)]
    have e2 : l - 1 - n = l - (n + 1) := by omega
    rw [e2]
/-- so many cells without an event, and then the rest -/
theorem ah_add {ls : List Li} {cell : Int} : ∀ {a : Nat} {s s' : Sd} (b : Nat), aheadG ls cell a s = (a, some s', false) → aheadG ls cell (a + b) s = (a + (aheadG ls cell b s').1, (aheadG ls cell b s').2)
  | 0, s, s', b, h => by
    simp only [aheadG, Prod.mk.injEq, Option.some.injEq] at h
    obtain ⟨_, rfl, _⟩ := h
    rw [Nat.zero_add, Nat.zero_add]
  | a + 1, s, s', b, h => by
    rw [show a + 1 + b = (a + b) + 1 by omega]
    cases hs : step1 ls s cell with
    | mk o c =>
      cases o with
      | none =>
        rw [ah_end hs (.inl rfl)] at h
        cases h
      | some s2 =>
        cases c with
        | true =>
          rw [ah_end hs (.inr rfl)] at h
          cases h
        | false =>
          rw [ah_go hs] at h ⊢
          simp only [Prod.mk.injEq] at h
          obtain ⟨h1, h2⟩ := h
          have h3 : aheadG ls cell a s2 = (a, some s', false) := by
            refine Prod.ext ?_ h2
            show (aheadG ls cell a s2).1 = a
            omega
          rw [ah_add b h3]
          have e : a + (aheadG ls cell b s').1 + 1 = a + 1 + (aheadG ls cell b s').1 := by omega
          show (a + (aheadG ls cell b s').1 + 1, _) = _
          rw [e]
/-- the last cell of a line -/
theorem ah_last {ls : List Li} {cell : Int} {i l : Nat} {k : Option Int} (h : 1 ≤ l) : step1 ls ⟨i, k, 1⟩ cell = behind ls ⟨i, k, 1⟩ cell ∧ aheadG ls cell (l - 1) ⟨i, k, l⟩ = (l - 1, some ⟨i, k, 1⟩, false) := by
  refine ⟨if_neg (show ¬ 1 < 1 by omega), ?_⟩
  rw [ah_part (by omega)]
  have e : l - (l - 1) = 1 := by omega
  rw [e]
/-- a whole line, behind which there is no event -/
theorem ah_line {ls : List Li} {cell : Int} {i l : Nat} {k : Option Int} {s' : Sd} (h : 1 ≤ l) (hb : behind ls ⟨i, k, 1⟩ cell = (some s', false)) : aheadG ls cell l ⟨i, k, l⟩ = (l, some s', false) := by
  obtain ⟨h1, h2⟩ := ah_last (ls := ls) (cell := cell) (i := i) (k := k) h
  have h3 := ah_add 1 h2
  rw [show l - 1 + 1 = l by omega] at h3
  rw [h3, show (1 : Nat) = 0 + 1 from rfl, ah_go (h1.trans hb)]
  show (l - 1 + (0 + 1), some s', false) = _
  rw [show l - 1 + (0 + 1) = l by omega]
/-- a whole line, behind which there is one -/
theorem ah_event {ls : List Li} {cell : Int} {i l n : Nat} {k : Option Int} {o : Option Sd} {c : Bool} (h : 1 ≤ l) (hn : l ≤ n) (hb : behind ls ⟨i, k, 1⟩ cell = (o, c)) (he : o = none ∨ c = true) : aheadG ls cell n ⟨i, k, l⟩ = (l, o, c) := by
  obtain ⟨h1, h2⟩ := ah_last (ls := ls) (cell := cell) (i := i) (k := k) h
  have h3 := ah_add (n - (l - 1)) h2
  rw [show l - 1 + (n - (l - 1)) = n by omega] at h3
  obtain ⟨m, hm⟩ : ∃ m, n - (l - 1) = m + 1 := ⟨n - l, by omega⟩
  rw [h3, hm, ah_end (h1.trans hb) he]
  show (l - 1 + 1, o, c) = _
  rw [show l - 1 + 1 = l by omega]
/-- whole rings change nothing -/
theorem ah_ring {ls : List Li} {cell : Int} {p : Nat} {s : Sd} (hp : 1 ≤ p) (h : aheadG ls cell p s = (p, some s, false)) : ∀ (t r : Nat), aheadG ls cell (t * p + r) s = (t * p + (aheadG ls cell r s).1, (aheadG ls cell r s).2)
  | 0, r => by rw [Nat.zero_mul, Nat.zero_add, Nat.zero_add]
  | t + 1, r => by
    rw [show (t + 1) * p + r = p + (t * p + r) by rw [Nat.add_mul]; omega, ah_add _ h, ah_ring hp h t r]
    show (p + (t * p + (aheadG ls cell r s).1), _) = _
    rw [show p + (t * p + (aheadG ls cell r s).1) = (t + 1) * p + (aheadG ls cell r s).1 by rw [Nat.add_mul]; omega]
theorem ah_mod {ls : List Li} {cell : Int} {p : Nat} {s : Sd} (hp : 1 ≤ p) (h : aheadG ls cell p s = (p, some s, false)) (n : Nat) : aheadG ls cell n s = (n - n % p + (aheadG ls cell (n % p) s).1, (aheadG ls cell (n % p) s).2) := by
  have e : n / p * p + n % p = n := by rw [Nat.mul_comm]; exact Nat.div_add_mod n p
  have h2 := ah_ring hp h (n / p) (n % p)
  rw [e] at h2
  rw [h2, show n - n % p = n / p * p by omega]
end Lw

namespace Lw
open PySem L2
open Evl Da
local macro_rules
  | `(tactic| walk_at "f") => `(tactic| first | exact lookF_put | exact lookF_hit | exact (lookF_skip (by decide +kernel) lookF_hit) | exact (lookF_skip (by decide +kernel) (lookF_skip (by decide +kernel) lookF_hit)) | exact (lookF_skip (by decide +kernel) (lookF_skip (by decide +kernel) (lookF_skip (by decide +kernel) lookF_hit))) | exact (lookF_skip (by decide +kernel) (lookF_skip (by decide +kernel) (lookF_skip (by decide +kernel) (lookF_skip (by decide +kernel) lookF_hit)))) | exact (lookF_skip (by decide +kernel) (lookF_skip (by decide +kernel) (lookF_skip (by decide +kernel) (lookF_skip (by decide +kernel) (lookF_skip (by decide +kernel) lookF_hit))))) | exact (lookF_skip (by decide +kernel) (lookF_skip (by decide +kernel) (lookF_skip (by decide +kernel) (lookF_skip (by decide +kernel) (lookF_skip (by decide +kernel) (lookF_skip (by decide +kernel) lookF_hit)))))) | ((refine lookF_other (by decide +kernel) ?_); walk_at "f") | ((refine lookF_skip (by decide +kernel) ?_); walk_at "f"))
  | `(tactic| walk_at "fl") => `(tactic| first | exact Nat.zero_lt_succ _ | ((refine putFD_lt ?_); walk_at "fl"))
  | `(tactic| walk_at "a") => `(tactic| first | exact le1000 (Nat.le_of_ble_eq_true rfl) | exact rfl | decide +kernel | exact And.intro (by with_reducible assumption) (by with_reducible assumption) | exact And.intro (And.intro (by with_reducible assumption) (by with_reducible assumption)) (by walk_at "fl"))
  | `(tactic| walk_at "w") => `(tactic| ((conv => whnf); repeat ((first | ((with_reducible refine And.intro ?_ ?_); (focus (walk_at "a"))) | ((with_reducible refine Br.yes ?_ ?_); (focus (first | exact rfl | decide +kernel))) | ((with_reducible refine Br.no ?_ ?_); (focus (first | exact rfl | decide +kernel))) | ((with_reducible refine ex_fld ?_); (refine fld_w (by walk_at "f") ?_)) | ((with_reducible refine ex_at ?_); (refine at_w rfl ?_))); (conv => whnf))))
  | `(tactic| walk_at "n") => `(tactic| ((try dsimp only [st0, st1, S.at, S.drop, S.own, S.put, S.frz, Src.n] at *); omega))
  | `(tactic| walk_at "draw") => `(tactic| ((try walk_at "w"); (refine i_draw ⟨by walk_at "n", by walk_at "n", by walk_at "n"⟩ ?_)))
section
variable {P : Program} {w : World} {K : PySem.W.Frag} {mg : Str → Option Value} {base : Heap}
open Jn (Rn jstep joinR expand)
def runD (r : Rn) : D := .tup [.int r.1, .int r.2]
@[irreducible] def dJoined : R1 := fun _ a n Q _ => ∃ ps : List Rn, (a = .lst (ps.map runD) ∨ a = .tup (ps.map runD)) ∧ (joinR ps).length ≤ 1000 ∧ ps.length ≤ 100000 ∧ Q (.tup ((joinR ps).map runD)) n
theorem ok_joined (T : Tx w K mg) : FnOk P w K mg base CX0 1 T.f_joined T.d_joined ["pairs"] (Da.upSp K (sp1 dJoined)) := by
  refine T.F_joined.ok sc_joined (fun vs H Q E h => Da.up_len1 h) (fun cdv A outer s H vs Q E hr h => ?_)
  refine ⟨_, (pss_cons (Da.ps_own 1 (ps_set (i := 1) sc_joined.nd rfl (Or.inl rfl) (pe_lst pa_nil)))
      (pss_cons (ps_for PassesOwn.never rfl (Da.seqK (K := K) rfl (pv 0)) (Da.gtupK (n := 2) (K := K) rfl (by rfl) (pgs_cons (pg_name (i := 2) sc_joined.nd rfl (Or.inl rfl)) (pgs_cons (pg_name (i := 3) sc_joined.nd rfl (Or.inl rfl)) pgs_nil)))
        (pss_cons (ps_if (pt_cmpR (Da.eqK (K := K) rfl hr.units) (pv 2) pe_int (nomark _))
          (pss_one ps_continue)
          pss_nil)
        (pss_one (ps_if (PW.pt (pw_and (Da.truthK (K := K) rfl (pv 1) (by intro _; rfl)) (pw_and1 (pt_cmpR (Da.eqK (K := K) rfl hr.units) (pe_ix (Da.ixK (K := K) rfl) (pe_ix (Da.ixK (K := K) rfl) (pv 1) (pe_un un_neg pe_int) (fun _ _ => rfl)) pe_int (fun _ _ => rfl)) (pv 3) (nomark _)))))
          (pss_one (ps_asg (pe_tup (pa_cons (pe_op (Da.addK (K := K) rfl) (pe_ix (Da.ixK (K := K) rfl) (pe_ix (Da.ixK (K := K) rfl) (pv 1) (pe_un un_neg pe_int) (fun _ _ => rfl)) pe_int (fun _ _ => rfl)) (pv 2)) (pa_cons (pv 3) pa_nil))) (pg_sub (pv 1) (pe_un un_neg pe_int) set_list)))
          (pss_one (ps_expr (Da.bmK (K := K) rfl PySem.F.plainAttrs_list PySem.F.slot_list_append PySem.F.type_list_append mt_append (pv 1) (pa_cons (pe_tup (pa_cons (pv 2) (pa_cons (pv 3) pa_nil))) pa_nil))))))))
      (pss_cons (ps_if (pt_cmpR op_gt (pe_callB (Da.lenK (K := K) rfl) (by rfl) T.z_len (by decide +kernel) (pa_cons (pv 1) pa_nil)) (pe_glob (v := .int 1000) rfl T.m_MOST_RUNS ⟨_, rfl⟩) (nomark _))
        (pss_one ps_never)
        pss_nil)
      (pss_one (ps_ret (pe_callTy (Da.tupleK (K := K) rfl) (by rfl) T.z_tuple (by decide +kernel) (pa_cons (pv 1) pa_nil))))))), Da.go_up1 h ?_⟩
  intro pn a n Q _ h
  unfold dJoined at h
  obtain ⟨ps, e, h1, h2, h⟩ := h
  rcases e with rfl | rfl
  all_goals
    walk_at "w"
    intro l
    walk_at "w"
    refine for_inv (fun i Γ s => ∃ u0 u2 u3 : Option D, Γ = [u0, some (.loc l 1), u2, u3] ∧ s = ⟨[⟨1, l, .lst ((joinR (ps.take i)).map runD), false⟩], n, pn⟩) ⟨_, _, _, rfl, rfl⟩ ?_ ?_
    · rintro i d _ _ hi hd ⟨u0, u2, u3, rfl, rfl⟩
      have hd := seq_at hd
      rw [List.getElem?_map] at hd
      obtain ⟨p, hp, rfl⟩ := Option.map_eq_some_iff.mp hd
      have ej : joinR (ps.take (i + 1)) = jstep (joinR (ps.take i)) p := by rw [take_more hp, Jn.join_snoc]
      walk_at "w"
      refine .dec (fun h0 => ?_) (fun h0 => ?_)
      · walk_at "w"
        refine ⟨_, _, _, rfl, ?_⟩
        rw [ej]
        unfold jstep
        rw [if_pos h0]
      · have hl : (joinR (ps.take i)).length ≤ i := by
          have := Jn.join_len (ps.take i)
          rw [List.length_take] at this
          omega
        have hip : i < ps.length := (List.getElem?_eq_some_iff.mp hp).1
        generalize joinR (ps.take i) = acc at ej hl ⊢
        unfold jstep at ej
        rw [if_neg h0] at ej
        walk_at "w"
        rcases List.eq_nil_or_concat acc with rfl | ⟨bs, r, rfl⟩
        · walk_at "w"
          refine ⟨_, _, _, rfl, ?_⟩
          rw [ej]
          rfl
        · rw [List.concat_eq_append] at ej hl ⊢
          have lb : bs.length + 1 ≤ i := by rw [List.length_append] at hl; exact hl
          rw [List.getLast?_append] at ej
          have ej : joinR (ps.take (i + 1)) = if r.2 = p.2 then (bs ++ [r]).dropLast ++ [(r.1 + p.1, p.2)] else bs ++ [r] ++ [p] := ej
          rw [List.dropLast_concat] at ej
          have em : (bs ++ [r]).map runD = bs.map runD ++ [runD r] := by rw [List.map_append]; rfl
          have em2 : bs.length = (bs.map runD).length := (List.length_map _).symm
          rw [em]
          refine .yes (by simp) ?_
          walk_at "w"
          refine ⟨_, at_last, ?_⟩
          walk_at "w"
          refine .dec (fun he => ?_) (fun he => ?_)
          · walk_at "w"
            refine ⟨_, at_last, ?_⟩
            walk_at "w"
            refine ⟨(bs.map runD).length, by rw [List.length_append]; exact ix_last, ?_⟩
            rw [set_last]
            refine ⟨_, _, _, rfl, ?_⟩
            rw [ej, if_pos he, List.map_append]
            rfl
          · walk_at "w"
            refine ⟨Nat.lt_of_le_of_lt (show _ ≤ 100000 from ?_) (by decide), ?_⟩
            · rw [List.length_append, List.length_map]; show bs.length + 1 ≤ 100000; omega
            · refine ⟨_, _, _, rfl, ?_⟩
              rw [ej, if_neg he, List.map_append, List.map_append]
              rfl
    · rintro _ _ ⟨u0, u2, u3, rfl, rfl⟩
      have en : (Src.seq (ps.map runD)).n = ps.length := List.length_map _
      rw [en, List.take_length]
      walk_at "w"
      refine .n (by rw [List.length_map]; omega) ?_
      walk_at "w"
      exact h
end
end Lw

/-! Readings over data: one's own dicts whose keys are tuples (own). -/
namespace Da
open PySem PySem.Spec PyProof.Rows L2 Evl Hd
section
variable {K : PySem.W.Frag} {F : Fr} {s s' : S} {H H' Hv : Hp} {P : Program} {w : World}
def scK : D → Option NestedKey
  | .non => some .none
  | .int i => some (.num i)
  | .str x => some (.text x)
  | _ => none
def scKs : List D → Option (List NestedKey)
  | [] => some []
  | d :: r => match scK d with
    | some k => match scKs r with
      | some ks => some (k :: ks)
      | none => none
    | none => none
def keyN : D → Option (List NestedKey)
  | .tup ds => scKs ds
  | _ => none
theorem scK_v {v : V} {d : D} {k : NestedKey} (r : Rep K Hv v d) (e : scK d = some k) : Nk.Sc v k := by
  cases d with
  | non => cases r; cases e; exact .non
  | int i => cases r; cases e; exact .num i
  | str x => cases r; cases e; exact .text x
  | _ => cases e
theorem scKs_v : ∀ {vs : List V} {ds : List D} {ks : List NestedKey}, RepL K Hv vs ds → scKs ds = some ks → Paired Nk.Sc vs ks
  | _, _, _, .nil, e => by cases e; exact .nil
  | _, _, ks, @RepL.cons _ _ v d vs ds r q, e => by
    unfold scKs at e
    cases e1 : scK d with
    | none => rw [e1] at e; cases e
    | some k =>
      rw [e1] at e
      cases e2 : scKs ds with
      | none => rw [e2] at e; cases e
      | some ks' =>
        rw [e2] at e
        cases e
        exact .cons (scK_v r e1) (scKs_v q e2)
theorem keyN_v {v : V} {d : D} {ks : List NestedKey} (x : Ex Hv H) (r : RepW K Hv H v d) (e : keyN d = some ks) : ∃ t, v = .ref t ∧ KeyS K H ks t := by
  cases d with
  | tup ds =>
    obtain ⟨a, xs, rfl, h1, h2, h3⟩ := r.tup x
    exact ⟨a, rfl, xs, h1, scKs_v h2 e⟩
  | _ => cases e
theorem keyN_r {v : V} {d : D} {ks : List NestedKey} (r : Rep K Hv v d) (e : keyN d = some ks) : ∃ t, v = .ref t ∧ KeyS K Hv ks t := keyN_v (Ex.refl _) (r.w (Ex.refl _)) e
def lookN : List (List NestedKey × NV) → List NestedKey → Option NV
  | [], _ => none
  | (k', v) :: r, k => if k' = k then some v else lookN r k
/-! ### the rules -/
structure IsNk (K : PySem.W.Frag) (P : Program) (w : World) (H : Hp) (a : Addr) (es : List (List NestedKey × NV)) : Prop where
  out : ∃ xs, H a = some (Nk.nkO P w a xs) ∧ NkR K H xs es ∧ (a == sysModules) = false
section
variable {X : Cx} {a t : Addr} {es : List (List NestedKey × NV)} {ks : List NestedKey}
theorem KeyS.is {pins : List (Addr × Obj)} {σ : L2.St} {sh : Shared} (I : Inv X pins σ H sh) (k : KeyS X.K H ks t) : (nestedKind X.prog X.w).is sh.heap (.tup ks) t := by
  obtain ⟨vs, h1, h2⟩ := k
  obtain ⟨its, r, ⟨o, h3, h4, n, h5⟩, _⟩ := I.tuple h1
  refine ⟨.tup h3 h4 h5 (by simpa using Nk.sc_is h2 r), ?_⟩
  show NestedKey.depthAll ks + 1 ≤ 8
  rw [Nk.sc_dep h2]
  decide
theorem pr_keys : ∀ {xs : List Nk.Ent} {es : List (List NestedKey × NV)}, Paired (fun (x : Nk.Ent) (e : List NestedKey × NV) => x.1 = e.1 ∧ NVR K H x.2.2 e.2) xs es → xs.map (·.1) = es.map (·.1)
  | _, _, .nil => rfl
  | _, _, .cons r t => by rw [List.map_cons, List.map_cons, pr_keys t, r.1]
theorem pr_len : ∀ {xs : List Nk.Ent} {es : List (List NestedKey × NV)}, Paired (fun (x : Nk.Ent) (e : List NestedKey × NV) => x.1 = e.1 ∧ NVR K H x.2.2 e.2) xs es → xs.length = es.length
  | _, _, .nil => rfl
  | _, _, .cons r t => by rw [List.length_cons, List.length_cons, pr_len t]
theorem pr_snoc : ∀ {xs : List Nk.Ent} {es : List (List NestedKey × NV)} {x : Nk.Ent} {e : List NestedKey × NV}, Paired (fun (x : Nk.Ent) (e : List NestedKey × NV) => x.1 = e.1 ∧ NVR K H x.2.2 e.2) xs es → x.1 = e.1 ∧ NVR K H x.2.2 e.2 → Paired (fun (x : Nk.Ent) (e : List NestedKey × NV) => x.1 = e.1 ∧ NVR K H x.2.2 e.2) (xs ++ [x]) (es ++ [e])
  | _, _, _, _, .nil, q => .cons q .nil
  | _, _, _, _, .cons r t, q => .cons r (pr_snoc t q)
theorem nk_us {pins : List (Addr × Obj)} {σ : L2.St} {sh : Shared} {xs : List Nk.Ent} (I : Inv X pins σ H sh) (h0 : H a = some (Nk.nkO X.prog X.w a xs)) (hr : NkR X.K H xs es) : ∃ us, Nk.EV xs us ∧ sh.heap.DictOfH (nestedKind X.prog X.w) a us := by
  obtain ⟨⟨us, r, o, ds, ep, h1, h2, h3, h4⟩, _, _⟩ := (show ObjOk X.prog X.w H sh.heap a (Nk.nkO X.prog X.w a xs) from I.hok a _ h0)
  refine ⟨us, r, o, ds, ep, h1, h2, h3, h4, fun x hx => ?_, by rw [Nk.ev_keys r]; exact Nk.nodup_tup (by rw [pr_keys hr.pair]; exact hr.nd)⟩
  have gen : ∀ {es : List Nk.Ent} {us : List (NestedKey × Addr × Value)}, Nk.EV es us → (∀ x ∈ es, KeyS X.K H x.1 x.2.1) → ∀ x ∈ us, (nestedKind X.prog X.w).is sh.heap x.1 x.2.1 := by
    intro es us r
    induction r with
    | nil => intro _ x hx; exact nomatch hx
    | @cons p q ps qs hq t ih =>
      intro hk x hx
      rcases List.mem_cons.mp hx with e | hx
      · subst e
        rw [hq.1, ← hq.2.1]
        exact (hk p List.mem_cons_self).is I
      · exact ih (fun x hx => hk x (List.mem_cons_of_mem _ hx)) x hx
  exact gen r hr.keys x hx
theorem IsNk.of {pins : List (Addr × Obj)} {σ : L2.St} {sh : Shared} (I : Inv X pins σ H sh) (d : IsNk X.K X.prog X.w H a es) : ∃ xs us, H a = some (Nk.nkO X.prog X.w a xs) ∧ NkR X.K H xs es ∧ Nk.EV xs us ∧ sh.heap.DictOfH (nestedKind X.prog X.w) a us ∧ (a == sysModules) = false := by
  obtain ⟨xs, h0, hr, low⟩ := d.out
  obtain ⟨us, r, dd⟩ := nk_us I h0 hr
  exact ⟨xs, us, h0, hr, r, dd, low⟩
def rInD (K : PySem.W.Frag) (P : Program) (w : World) (neg : Bool) : R2 := fun x y H Q => ∃ t a es ks, x = .ref t ∧ y = .ref a ∧ IsNk K P w H a es ∧ KeyS K H ks t ∧ Q (.bl (if neg = true then !decide (ks ∈ es.map (·.1)) else decide (ks ∈ es.map (·.1)))) H
theorem inDK (hK : X.K = K) (hP : X.prog = P) (hw : X.w = w) (hu : X.A.units + 64 < cLine) : OpR X (compareOp .In) (rInD K P w false) := by
  subst hK; subst hP; subst hw
  intro pins s σ H x y v u Q I rx ry h
  obtain ⟨t, a, es, ks, rfl, rfl, d, k, q⟩ := h
  cases rx
  cases ry
  obtain ⟨xs, us, h0, hr, r, dd, low⟩ := d.of I
  refine wpAny_in_heap (knd := nestedKind X.prog X.w) (k := .tup ks) (Nk.in1_room hu) (k.is I) low dd ?_
  rw [Nk.ev_at r, pr_keys hr.pair]
  exact ⟨.bl _, H, I.tok _, rfl, q⟩
def entV : List Nk.Ent → List NestedKey → Option V
  | [], _ => none
  | (k', _, v) :: r, k => if k' = k then some v else entV r k
theorem ent_look {ks : List NestedKey} {z : NV} : ∀ {es : List (List NestedKey × NV)} {xs : List Nk.Ent}, Paired (fun (x : Nk.Ent) (e : List NestedKey × NV) => x.1 = e.1 ∧ NVR K H x.2.2 e.2) xs es → lookN es ks = some z → ∃ v, entV xs ks = some v ∧ NVR K H v z
  | _, _, .nil, h => by cases h
  | _, _, .cons (a := x) (b := e) q t, h => by
    obtain ⟨k, u⟩ := e
    obtain ⟨k', t', v⟩ := x
    have q1 : k' = k := q.1
    subst q1
    unfold lookN at h
    unfold entV
    by_cases c : k' = ks
    · rw [if_pos c] at h
      cases h
      exact ⟨v, if_pos c, q.2⟩
    · rw [if_neg c] at h ⊢
      exact ent_look t h
theorem ev_look {ks : List NestedKey} {v : V} : ∀ {xs : List Nk.Ent} {us : List (NestedKey × Addr × Value)}, Nk.EV xs us → entV xs ks = some v → ∃ p : Addr × Value, atKey us (.tup ks) = some p ∧ RelV v p.2
  | _, _, .nil, h => by cases h
  | _, _, .cons (a := x) (b := u) g t, h => by
    obtain ⟨k', t', v'⟩ := x
    unfold entV at h
    unfold atKey
    rw [List.find?_cons]
    by_cases c : k' = ks
    · rw [if_pos c] at h
      cases h
      refine ⟨u.2, ?_, g.2.2⟩
      rw [show decide (u.1 = NestedKey.tup ks) = true from decide_eq_true (by rw [g.1, ← c])]
      rfl
    · rw [if_neg c] at h
      rw [show decide (u.1 = NestedKey.tup ks) = false from decide_eq_false (fun z => c (by rw [g.1] at z; cases z; rfl))]
      exact ev_look t h
def rGetD (K : PySem.W.Frag) (P : Program) (w : World) : R2 := fun x y H Q => ∃ t a xs es ks v, x = .ref a ∧ y = .ref t ∧ H a = some (Nk.nkO P w a xs) ∧ (NkR K H xs es ∧ (a == sysModules) = false) ∧ KeyS K H ks t ∧ entV xs ks = some v ∧ Q v H
theorem getDK (hK : X.K = K) (hP : X.prog = P) (hw : X.w = w) (hu : X.A.units + 64 < cLine) : IxR X (rGetD K P w) := by
  subst hK; subst hP; subst hw
  intro value slice pins s σ H x y v u Q I rx ry h hs
  obtain ⟨t, a, xs, es, ks, z, rfl, rfl, h0, ⟨hr, low⟩, k, e, q⟩ := h
  cases rx
  cases ry
  have d : IsNk X.K X.prog X.w H a es := ⟨xs, h0, hr, low⟩
  obtain ⟨xs', us, h0', hr', r, dd, _⟩ := d.of I
  obtain ⟨us2, r2, dd2⟩ : ∃ us2, Nk.EV xs us2 ∧ s.heap.DictOfH (nestedKind X.prog X.w) a us2 := nk_us I h0 hr
  obtain ⟨p, e1, e2⟩ := ev_look r2 e
  exact subscriptTail_builtinR (x := p.2) dd2.typeIs slot_dict_getitem.lookup
    (wpAny_getItem_heap (Q := fun r s' => r = p.2 ∧ EP X pins σ Q r s') (knd := nestedKind X.prog X.w) (k := .tup ks) (Nk.in1_room hu) (k.is I) dd2 e1 ⟨rfl, ⟨z, H, I.tok _, e2, q⟩⟩) hs
/-- d[key] = v, the key new -/
def rPutD (K : PySem.W.Frag) (P : Program) (w : World) : TSet := fun o i v H Q => ∃ t a xs es ks, o = .ref a ∧ i = .ref t ∧ H a = some (Nk.nkO P w a xs) ∧ NkR K H xs es ∧ (a == sysModules) = false ∧ KeyS K H ks t ∧ ks ∉ es.map (·.1) ∧ es.length < 1000 ∧ Q (upd H a (Nk.nkO P w a (xs ++ [(ks, t, v)])))
theorem putDK (hK : X.K = K) (hP : X.prog = P) (hw : X.w = w) (hu : X.A.units + 64 < cLine) : PSet X (rPutD K P w) := by
  subst hK; subst hP; subst hw
  intro pins s σ H o i v ov iv u Q I ro ri rv h
  obtain ⟨t, a, xs, es, ks, rfl, rfl, h0, hr, low, k, hn, hz, q⟩ := h
  cases ro
  cases ri
  obtain ⟨us2, r2, dd2⟩ := nk_us I h0 hr
  have hl2 : us2.length ≤ sizeLine := by
    rw [← Paired.length r2, pr_len hr.pair]
    exact Nat.le_trans hr.len (by decide)
  have hnone2 : atKey us2 (.tup ks) = none := by
    have := Nk.ev_at r2 (ks := ks)
    rw [pr_keys hr.pair, decide_eq_false hn] at this
    cases z : atKey us2 (.tup ks) with
    | none => rfl
    | some p => rw [z] at this; cases this
  refine wpAny_setItem_heap (knd := nestedKind X.prog X.w) (k := .tup ks) (hsz := hl2) (Nk.in1_room hu) (k.is I) dd2 fun h' dd' hs => ⟨_, ?_, q⟩
  rw [storedH_new hnone2] at dd'
  obtain ⟨ob, ds, ep, h1, h2, h3, h4, _, _⟩ := dd'
  exact d_write I (by rw [h0]; exact True.intro) hs ⟨ob, h1⟩ (Nk.nk_obj (Nk.ev_snoc r2 rv) h1 h2 h3 h4)
end
/-! ### the readings -/
theorem rep_nk {v : V} {P' : Program} {w' : World} {es : List (List NestedKey × NV)} (x : Ex Hv H) (r : RepW K Hv H v (.nkd P' w' es)) : ∃ a, v = .ref a ∧ IsNk K P' w' H a es := by
  obtain ⟨a, xs, rfl, h1, h2, h3⟩ := r
  exact ⟨a, rfl, xs, h1, h2.mono x, h3⟩
def fInN (P : Program) (w : World) (neg : Bool) : F2 := fun x y s Q => match y with
  | .nkd P' w' es => (P' = P ∧ w' = w) ∧ ∃ ks, keyN x = some ks ∧ Q (.bl (if neg = true then !decide (ks ∈ es.map (·.1)) else decide (ks ∈ es.map (·.1)))) s
  | _ => False
instance {neg : Bool} : LR K (rInD K P w neg) (fInN P w neg) := ⟨fun {F s H x y dx dy Q Q0} ok rx ry h k => by
  cases dy with
  | nkd P' w' es =>
    obtain ⟨⟨rfl, rfl⟩, ks, e, q⟩ := h
    obtain ⟨a, rfl, d⟩ := rep_nk vis_ex ry
    obtain ⟨t, rfl, kt⟩ := keyN_v vis_ex rx e
    exact ⟨t, a, es, ks, rfl, rfl, d, kt, k _ _ _ _ Tr.refl ok .bl q⟩
  | _ => exact h.elim⟩
def fGetN (P : Program) (w : World) : F2 := fun x y s Q => match x with
  | .nkd P' w' es => (P' = P ∧ w' = w) ∧ ∃ ks z, keyN y = some ks ∧ lookN es ks = some z ∧ Q (nvD z) s
  | _ => False
instance : LR K (rGetD K P w) (fGetN P w) := ⟨fun {F s H x y dx dy Q Q0} ok rx ry h k => by
  cases dx with
  | nkd P' w' es =>
    obtain ⟨⟨rfl, rfl⟩, ks, z, e, e2, q⟩ := h
    obtain ⟨a, xs, rfl, h1, h2, h3⟩ := rx
    obtain ⟨t, rfl, kt⟩ := keyN_v vis_ex ry e
    obtain ⟨v, e3, e4⟩ := ent_look h2.pair e2
    exact ⟨t, a, xs, es, ks, v, rfl, rfl, h1, ⟨h2.mono vis_ex, h3⟩, kt, e3, k _ _ _ _ Tr.refl ok e4.rep q⟩
  | _ => exact h.elim⟩
def woNewN (P : Program) (w : World) : WM := fun _ s Q => Q (.nk P w []) s
theorem dnewNK {X : Cx} (hP : X.prog = P) (hw : X.w = w) {pos : Pos} : PE X (.Dict [] [] pos) (Nk.tDNewN P w) := by subst hP; subst hw; exact Nk.pe_dnewN
instance : LEo K (Nk.tDNewN P w) (woNewN P w) := ⟨fun {F s H σ Γ Q Q0} a h k => by
  intro p hp hl
  obtain ⟨ok1, e1⟩ := a.ok.hide (o := Nk.nkO P w p []) hp
  have hF : F p = false := by
    cases e : F p with
    | false => rfl
    | true => exact absurd hp (a.ok.fr p e)
  exact k p _ (.nk P w []) s hF ok1 e1 (fun b hb => upd_ne fun z => by rw [z, hF] at hb; cases hb) rfl ⟨[], upd_same, ⟨.nil, (fun x hx => nomatch hx), List.nodup_nil, Nat.zero_le _⟩, hl⟩ h⟩
def moN (m : MO) (k : Program → World → List (List NestedKey × NV) → Prop) : Prop := match m with
  | .nk P w es => k P w es
  | _ => False
def wgSetN (P : Program) (w : World) (wo wi : WE) : WG := fun d Γ s Q => wo Γ s fun o s1 => wi Γ s1 fun i s2 => mutP s2 o fun h m => moN m fun P' w' es => (P' = P ∧ w' = w) ∧ ∃ ks z, (keyN i = some ks ∧ dNv d = some z) ∧ (ks ∉ es.map (·.1) ∧ es.length < 1000) ∧ Q Γ (s2.put h (.nk P w (es ++ [(ks, z)])))
instance {to ti : TE} {wo wi : WE} [lo : LE K to wo] [li : LE K ti wi] : LG K (gSub to ti (rPutD K P w)) (wgSetN P w wo wi) := ⟨fun {F s H σ Γ v d Q Q0} a r h k => lo.go a h fun v1 H1 d1 s1 t1 ok1 r1 h1 => li.go (a.to t1 ok1) h1 fun v2 H2 d2 s2 t2 ok2 r2 h2 => by
  obtain ⟨n, e, q1, q2, rfl, h3, rfl⟩ := mutP_of (r1.mono t2.ex) h2
  cases hm : e.o with
  | nk P' w' es =>
    rw [hm] at h3
    obtain ⟨⟨rfl, rfl⟩, ks, z, ⟨e1, ed⟩, ⟨hn, hz⟩, h5⟩ := h3
    have h8 := ok2.ents e (mget_mem q1).1
    rw [hm] at h8
    obtain ⟨xs, u2, u3, u4⟩ := h8
    obtain ⟨t, rfl, kt⟩ := keyN_r r2 e1
    have rv := ((r.mono t1.ex).mono t2.ex).nv ed
    have hk : ∀ Hv, Ex (vis F s2 H2) Hv → NkR K Hv (xs ++ [(ks, t, v)]) (es ++ [(ks, z)]) := fun Hv ex => by
      refine ⟨pr_snoc (pr_mono ex u3.pair) ⟨rfl, rv.mono ex⟩, fun x hx => ?_, ?_, by rw [List.length_append]; exact hz⟩
      · rcases List.mem_append.mp hx with hx | hx
        · exact (u3.keys x hx).mono ex
        · rcases List.mem_cons.mp hx with rfl | hx
          · exact kt.mono ex
          · exact nomatch hx
      · rw [List.map_append, List.nodup_append]
        refine ⟨u3.nd, List.nodup_cons.mpr ⟨(fun z => nomatch z), List.nodup_nil⟩, fun x hx y hy => ?_⟩
        rcases List.mem_cons.mp hy with rfl | hy
        · exact fun z => hn (by rw [← z]; exact hx)
        · exact nomatch hy
    obtain ⟨ok4, t4⟩ := ok2.put (o := Nk.nkO P' w' e.a (xs ++ [(ks, t, v)])) (m := .nk P' w' (es ++ [(ks, z)])) q1 q2 (fun Hv ex => ⟨_, upd_same, hk Hv ex, u4⟩)
    have tt := (t1.trans t2).trans t4
    exact ⟨t, e.a, xs, es, ks, rfl, rfl, u2, u3.mono vis_ex, u4, kt.mono vis_ex, hn, hz, k _ _ _ _ tt (a.to tt ok4) h5⟩
  | lst _ => rw [hm] at h3; exact h3.elim
  | dct _ => rw [hm] at h3; exact h3.elim
  | obj _ _ => rw [hm] at h3; exact h3.elim⟩
end
end Da

/-! Readings over data: one's own instance lent to its own method (own). -/
namespace Da
open PySem PySem.Spec PyProof.Rows L2 Evl Hd
/-- data without instances -/
inductive Pu : D → Prop
  | non : Pu .non
  | bl {b : Bool} : Pu (.bl b)
  | int {i : Int} : Pu (.int i)
  | str {x : Str} : Pu (.str x)
  | tup {ds : List D} : (∀ d ∈ ds, Pu d) → Pu (.tup ds)
  | lst {ds : List D} : (∀ d ∈ ds, Pu d) → Pu (.lst ds)
section
variable {K : PySem.W.Frag} {F : Fr} {s s' : S} {H H' Hv Hv' : Hp}
/-- what is hidden besides is an instance -/
structure Less (Hv Hv' : Hp) (p : Addr) : Prop where
  ne : ∀ a, a ≠ p → ∀ o, Hv a = some o → Hv' a = some o
  at_ : ∃ C dx fs, ∀ o, Hv p = some o → o = .ins C dx fs
theorem Less.lst {p a : Addr} {xs : List V} (l : Less Hv Hv' p) (h : Hv a = some (.lst xs)) : Hv' a = some (.lst xs) := by
  refine l.ne a (fun e => ?_) _ h
  obtain ⟨C, dx, fs, q⟩ := l.at_
  subst e
  cases q _ h
theorem Less.sqt {p a : Addr} {xs : List V} (l : Less Hv Hv' p) (h : SqT K Hv a xs) : SqT K Hv' a xs := by
  obtain ⟨C, dx, fs, q⟩ := l.at_
  rcases h with (h | ⟨o, h⟩) | h
  · exact .inl (.inl (l.ne a (fun e => by subst e; cases q _ h) _ h))
  · exact .inl (.inr ⟨o, l.ne a (fun e => by subst e; cases q _ h) _ h⟩)
  · exact .inr h
theorem repL_map : ∀ {vs : List V} {ds : List D}, RepL K Hv vs ds → (∀ d ∈ ds, ∀ v, Rep K Hv v d → Rep K Hv' v d) → RepL K Hv' vs ds
  | _, _, .nil, _ => .nil
  | _, _, .cons h r, q => .cons (q _ List.mem_cons_self _ h) (repL_map r fun d hd => q d (List.mem_cons_of_mem _ hd))
theorem Rep.pu {p : Addr} (l : Less Hv Hv' p) {d : D} (q : Pu d) : ∀ v, Rep K Hv v d → Rep K Hv' v d := by
  induction q with
  | non => intro v h; cases h; exact .non
  | bl => intro v h; cases h; exact .bl
  | int => intro v h; cases h; exact .int
  | str => intro v h; cases h; exact .str
  | tup q ih =>
    intro v h
    cases h with
    | tup h r n => exact .tup (l.sqt h) (repL_map r ih) n
  | lst q ih =>
    intro v h
    cases h with
    | lst h r n => exact .lst (l.lst h) (repL_map r ih) n
theorem lend (ok : OkS K F s H) {k : Nat} {e : Ent} (hg : mget s.M k = some e) (hf : e.fz = false) {C : Addr} {fs : List (Str × D)} (ho : e.o = .obj C fs) {n' : Nat} (t : Tr (hidF F (s.frz k)) (st0 s.n s.pn) H (st0 n' s.pn) H') (ok' : OkS K (hidF F (s.frz k)) (st0 n' s.pn) H') :
    OkS K F (s.at n') H' ∧ Tr F s H (s.at n') H' ∧ Less (vis (hidF F (s.frz k)) (st0 n' s.pn) H') (vis F (s.at n') H') e.a := by
  obtain ⟨ok2, t2⟩ := ok.frz k
  obtain ⟨hm, _⟩ := mget_mem hg
  obtain ⟨o1, o2, o3⟩ := call_out ok2 t ok'
  have ex : Ex (vis F s H) (vis F (s.at n') H') := fun a o h => by
    obtain ⟨h1, h2⟩ := vis_iff.mp h
    have h3 := (t2.trans o2).ex _ _ h
    exact vis_iff.mpr ⟨h1, (vis_iff.mp h3).2⟩
  have hx := ok.ents e hm
  rw [ho] at hx
  obtain ⟨dx, us, u1, u2⟩ := hx
  have hv := ok.frz_vis hg u1
  have hea : H' e.a = some (.ins C dx us) := (vis_iff.mp (o2.ex _ _ hv)).2
  have same : ∀ e' ∈ s.M, H' e'.a = H e'.a := fun e' he' => by
    by_cases hh : e'.a = e.a
    · rw [hh, hea, u1]
    cases hf' : e'.fz with
    | false =>
      refine t.fr e'.a ?_
      unfold hidF
      have : (s.frz k).hidM e'.a = true := by
        unfold S.hidM
        refine List.any_eq_true.mpr ⟨e', ?_, by rw [hf']; simp⟩
        have gen : ∀ {M : List Ent} {h : Nat} {x : Ent}, mget M h = some x → ∀ y ∈ M, y.a ≠ x.a → y ∈ mfrz M h := by
          intro M
          induction M with
          | nil => intro h x q; cases q
          | cons z r ih =>
            intro h x q y hy hne
            unfold mget at q
            unfold mfrz
            cases hb : Nat.beq z.h h with
            | true =>
              rw [hb] at q
              cases q
              rcases List.mem_cons.mp hy with rfl | hy
              · exact absurd rfl hne
              · exact List.mem_cons_of_mem _ hy
            | false =>
              rw [hb] at q
              rcases List.mem_cons.mp hy with rfl | hy
              · exact List.mem_cons_self
              · exact List.mem_cons_of_mem _ (ih q y hy hne)
        exact gen hg e' he' hh
      rw [this, Bool.or_true]
    | true =>
      have h1 := ent_seen ok he' hf'
      cases hh : H e'.a with
      | none => exact absurd hh (ok.ents e' he').some
      | some o => exact (vis_iff.mp (ex _ _ (vis_iff.mpr ⟨h1, hh⟩))).2
  refine ⟨⟨fun e' he' => (ok.ents e' he').mono ex (same e' he'), ok.nd, fun p q e => ⟨(ok'.pen p q e).1, (ok.pen p q e).2⟩, fun a ha => o1.fr a ha, ok.frM, ok.frP⟩, ⟨ex, o2.fr, rfl⟩, ?_⟩
  rw [show vis (hidF F (s.frz k)) (st0 n' s.pn) H' = vis F ((s.frz k).at n') H' from o3]
  refine ⟨fun a ha o h => ?_, C, dx, us, fun o h => by rw [(vis_iff.mp h).2] at hea; exact Option.some.inj hea⟩
  obtain ⟨h1, h2⟩ := vis_iff.mp h
  refine vis_iff.mpr ⟨?_, h2⟩
  have h1 : (s.frz k).hid F a = false := h1
  show s.hid F a = false
  unfold S.hid at h1 ⊢
  simp only [Bool.or_eq_false_iff] at h1 ⊢
  refine ⟨⟨h1.1.1, ?_⟩, h1.2⟩
  have h4 := h1.1.2
  unfold S.hidM at h4 ⊢
  rw [List.any_eq_false] at h4 ⊢
  intro y hy hyx
  rw [Bool.and_eq_true, Bool.not_eq_true', beq_iff_eq] at hyx
  refine h4 y ?_ (by rw [hyx.1, hyx.2]; simp)
  have gen : ∀ {M : List Ent} {h : Nat} {x : Ent}, mget M h = some x → ∀ y ∈ M, y.a ≠ x.a → y ∈ mfrz M h := by
    intro M
    induction M with
    | nil => intro h x q; cases q
    | cons z r ih =>
      intro h x q y hy hne
      unfold mget at q
      unfold mfrz
      cases hb : Nat.beq z.h h with
      | true =>
        rw [hb] at q
        cases q
        rcases List.mem_cons.mp hy with rfl | hy
        · exact absurd rfl hne
        · exact List.mem_cons_of_mem _ hy
      | false =>
        rw [hb] at q
        rcases List.mem_cons.mp hy with rfl | hy
        · exact List.mem_cons_self
        · exact List.mem_cons_of_mem _ (ih q y hy hne)
  exact gen hg y hy (by rw [hyx.2]; exact ha)
/-- a method called on an instance that is one's own still -/
def tMethL (C : Addr) (m : Str) (sp : Sp) (dvs : List V) (E : XK) (te : TE) (ta : TA) : TE := tMeth C m sp dvs E te ta
theorem pe_lend {X : Cx} {e : Expr} {C : Addr} {m : Str} {sp : Sp} {dvs : List V} {E : XK} {te : TE} {ta : TA} (p : PE X e (tMeth C m sp dvs E te ta)) : PE X e (tMethL C m sp dvs E te ta) := p
def wMethL (C : Addr) (m : Str) (dsp : DSp) (dds : List D) (w : WE) (wa : WA) : WE := fun Γ s Q => w Γ s fun x s1 => mutP s1 x fun _ m1 => moO m1 fun C1 fs1 => (C1 = C ∧ lookF fs1 m = none) ∧ wa Γ s1 fun ds s2 => escA s2 ds fun ds' s3 => mutP s3 x fun _ m2 => moO m2 fun C2 fs => C2 = C ∧
  dsp s3.pn (.obj C fs :: (ds' ++ dds)) s3.n (fun d n' => Pu d ∧ Q d (s3.at n')) XF
instance {C : Addr} {m : Str} {dsp : DSp} {dvs : List V} {dds : List D} {E : XK} {te : TE} {w : WE} {ta : TA} {wa : WA} [df : Dflt K dvs dds] [le : LE K te w] [l : LA K ta wa] : LE K (tMethL C m (upSp K dsp) dvs E te ta) (wMethL C m dsp dds w wa) := ⟨fun {F s H σ Γ Q Q0} a h k => le.go a h fun v H1 d s1 t1 ok1 r1 h1 => by
  obtain ⟨n, e, q1, q2, rfl, h2, rfl⟩ := mutP_of r1 h1
  cases hm : e.o with
  | obj C1 fs1 =>
    rw [hm] at h2
    obtain ⟨⟨rfl, hl⟩, h3⟩ := h2
    have h0 := ok1.ents e (mget_mem q1).1
    rw [hm] at h0
    obtain ⟨dx, us, u1, u2⟩ := h0
    refine ⟨e.a, dx, us, rfl, u1, u2.look_none (lookF_eq.trans hl), l.go (a.to t1 ok1) h3 fun vs H3 ds s3 t3 ok3 r3 h5 => ?_⟩
    obtain ⟨ds', s4, h6, ok4, t4, r4⟩ := escs ok3 r3 h5
    obtain ⟨n', e', q3, q4, hv, h7, hd⟩ := mutP_of (K := K) (F := F) (H := H3) (v := .ref e.a) (d := .loc e.a n) .loc h6
    injection hd with ea en
    subst en
    cases hm2 : e'.o with
    | obj C2 fs =>
      rw [hm2] at h7
      obtain ⟨rfl, h8⟩ := h7
      obtain ⟨okf, tf⟩ := ok4.frz n
      have h9 := ok4.ents e' (mget_mem q3).1
      rw [hm2] at h9
      obtain ⟨dx2, us2, u3, u4⟩ := h9
      have hvv := ok4.frz_vis q3 u3
      refine ⟨hidF F (s4.frz n), .obj C2 fs :: (ds' ++ dds), s4.pn, s4.n, _, _, ?_, ok_call okf, h8, fun v H' d n2 t ok' r' q => ?_, fun _ _ _ _ _ _ _ _ q => q.elim⟩
      · rw [show vis (hidF F (s4.frz n)) (st0 s4.n s4.pn) H3 = vis F (s4.frz n) H3 from vis_call (s := s4.frz n), ea]
        exact .cons (.obj hvv (u4.mono tf.ex)) ((r4.app (df.rep _)).mono tf.ex)
      · obtain ⟨o1, o2, o3⟩ := lend ok4 q3 q4 hm2 t ok'
        exact k v H' d _ (((t1.trans t3).trans t4).trans o2) o1 (Rep.pu o3 q.1 _ r') q.2
    | lst _ => rw [hm2] at h7; exact h7.elim
    | dct _ => rw [hm2] at h7; exact h7.elim
    | nk _ _ _ => rw [hm2] at h7; exact h7.elim
  | lst _ => rw [hm] at h2; exact h2.elim
  | dct _ => rw [hm] at h2; exact h2.elim
  | nk _ _ _ => rw [hm] at h2; exact h2.elim⟩
end
/-- a def with defaults that raises nothing -/
theorem funD_ok {P : Program} {w : World} {K : PySem.W.Frag} {mg : Str → Option Value} {base : Heap} {x qual : Str} {st : Stmt} {dvs : List V} {kws : List (Str × V)} {f : Addr} {fd : FuncData} {N ps : List Str} {k : Nat} {sp : Sp} (F : FunD K x qual (defArgs st) (defBody st) (defScope st) dvs kws f fd) (S : FnScope N ps (defScope st)) (len : ∀ vs H Q E, sp vs H Q E → vs.length = ps.length)
    (hbody : ∀ (cdv : Value) (A : Around) (outer : List Env) (s : Shared) (H : Hp) (vs : List V) (Q : VK) (E : XK), Room k (A.deeper (PyProof.Rows.envOfC qual (defScope st) s.heap.objs.size f cdv)) → sp vs H Q E →
      ∃ t, PSs (cxOf CX0 P w K mg base N qual (defScope st) f cdv A outer s H E).nox (defBody st) t ∧ t { nx := fun _ H' => Q .non H', rt := Q } (start N vs) H) : FnOk P w K mg base CX0 (k + 1) f fd ps sp :=
  F.ok S len fun cdv A outer s H vs Q E hr hsp => by
    obtain ⟨t, h, q⟩ := hbody cdv A outer s H vs Q E hr hsp
    exact ⟨t, h.nox, q⟩
end Da

namespace Lw
open PySem L2
open Evl Da
local macro_rules
  | `(tactic| walk_at "f") => `(tactic| first | exact lookF_put | exact lookF_hit | exact (lookF_skip (by decide +kernel) lookF_hit) | exact (lookF_skip (by decide +kernel) (lookF_skip (by decide +kernel) lookF_hit)) | exact (lookF_skip (by decide +kernel) (lookF_skip (by decide +kernel) (lookF_skip (by decide +kernel) lookF_hit))) | exact (lookF_skip (by decide +kernel) (lookF_skip (by decide +kernel) (lookF_skip (by decide +kernel) (lookF_skip (by decide +kernel) lookF_hit)))) | exact (lookF_skip (by decide +kernel) (lookF_skip (by decide +kernel) (lookF_skip (by decide +kernel) (lookF_skip (by decide +kernel) (lookF_skip (by decide +kernel) lookF_hit))))) | exact (lookF_skip (by decide +kernel) (lookF_skip (by decide +kernel) (lookF_skip (by decide +kernel) (lookF_skip (by decide +kernel) (lookF_skip (by decide +kernel) (lookF_skip (by decide +kernel) lookF_hit)))))) | ((refine lookF_other (by decide +kernel) ?_); walk_at "f") | ((refine lookF_skip (by decide +kernel) ?_); walk_at "f"))
  | `(tactic| walk_at "fl") => `(tactic| first | exact Nat.zero_lt_succ _ | ((refine putFD_lt ?_); walk_at "fl"))
  | `(tactic| walk_at "a") => `(tactic| first | exact le1000 (Nat.le_of_ble_eq_true rfl) | exact rfl | decide +kernel | exact And.intro (by with_reducible assumption) (by with_reducible assumption) | exact And.intro (And.intro (by with_reducible assumption) (by with_reducible assumption)) (by walk_at "fl"))
  | `(tactic| walk_at "w") => `(tactic| ((conv => whnf); repeat ((first | ((with_reducible refine And.intro ?_ ?_); (focus (walk_at "a"))) | ((with_reducible refine Br.yes ?_ ?_); (focus (first | exact rfl | decide +kernel))) | ((with_reducible refine Br.no ?_ ?_); (focus (first | exact rfl | decide +kernel))) | ((with_reducible refine ex_fld ?_); (refine fld_w (by walk_at "f") ?_)) | ((with_reducible refine ex_at ?_); (refine at_w rfl ?_))); (conv => whnf))))
  | `(tactic| walk_at "n") => `(tactic| ((try dsimp only [st0, st1, S.at, S.drop, S.own, S.put, S.frz, Src.n] at *); omega))
  | `(tactic| walk_at "draw") => `(tactic| ((try walk_at "w"); (refine i_draw ⟨by walk_at "n", by walk_at "n", by walk_at "n"⟩ ?_)))
section
variable {P : Program} {w : World} {K : PySem.W.Frag} {mg : Str → Option Value} {base : Heap}
open Jn (Rn jstep joinR expand)
theorem i_joined {pn : Option (Addr × Addr)} {n : Nat} {Q : D → Nat → Prop} {X : XD} {ps : List Rn} {a : D} (e : a = .lst (ps.map runD)) (h1 : (joinR ps).length ≤ 1000) (h2 : ps.length ≤ 100000) (k : Q (.tup ((joinR ps).map runD)) n) : dJoined pn a n Q X := by
  unfold dJoined
  exact ⟨ps, .inl e, h1, h2, k⟩
theorem i_joinedT {pn : Option (Addr × Addr)} {n : Nat} {Q : D → Nat → Prop} {X : XD} {ps : List Rn} {a : D} (e : a = .lst (ps.map runD) ∨ a = .tup (ps.map runD)) (h1 : (joinR ps).length ≤ 1000) (h2 : ps.length ≤ 100000) (k : Q (.tup ((joinR ps).map runD)) n) : dJoined pn a n Q X := by
  unfold dJoined
  exact ⟨ps, e, h1, h2, k⟩
/-- the runs of a row of cells -/
def rowR (cs : List Int) : List Rn := joinR (cs.map fun c => ((1 : Int), c))
theorem rowR_len (cs : List Int) : (rowR cs).length ≤ cs.length := by
  have := Jn.join_len (cs.map fun c => ((1 : Int), c))
  rw [List.length_map] at this
  exact this
def rowG (C : Addr) (rs : List Rn) : D := .obj C [("runs", .tup (rs.map runD))]
abbrev rowD (C : Addr) (cs : List Int) : D := rowG C (rowR cs)
def intsD (cs : List Int) : List D := cs.map D.int
theorem intsD_len (cs : List Int) : (intsD cs).length = cs.length := List.length_map _
theorem ints_at {cs : List Int} {i : Nat} {d : D} (h : (intsD cs)[i]? = some d) : ∃ c, cs[i]? = some c ∧ d = .int c := by
  unfold intsD at h
  rw [List.getElem?_map] at h
  obtain ⟨c, hc, e⟩ := Option.map_eq_some_iff.mp h
  exact ⟨c, hc, e.symm⟩
theorem ints_len {cs : List Int} : (Src.seq (intsD cs)).n = cs.length := List.length_map _
@[irreducible] def dRowI : I1 := fun _ a n Q _ => ∃ cs : List Int, (a = .lst (intsD cs) ∨ a = .tup (intsD cs)) ∧ (∀ c ∈ cs, 0 ≤ c) ∧ cs.length ≤ 1000 ∧ Q [("runs", .tup ((rowR cs).map runD))] n
theorem ok_Row___init (T : Tx w K mg) : FnOk P w K mg base CX0 2 T.f_Row___init T.d_Row___init ["self", "cells"] (Da.upIn K T.c_Row (di1 dRowI)) := by
  refine Da.funD_ok T.F_Row___init sc_Row___init (fun vs H Q E h => Da.in_len1 h) (fun cdv A outer s H vs Q E hr h => ?_)
  refine ⟨_, (pss_cons (ps_for PassesOwn.never rfl (Da.seqK (K := K) rfl (pv 1)) (pg_name (i := 2) sc_Row___init.nd rfl (Or.inl rfl))
        (pss_one (ps_if (pt_cmpR op_lt (pv 2) pe_int (nomark _))
          (pss_one ps_never)
          pss_nil)))
      (pss_one (Da.setfK (K := K) rfl (pv 0) (pe_call (ok_joined T) (hr.mono (by decide)) rfl T.m_joined T.F_joined.kp T.b_joined .nil pass0 (pa_cons (pe_lc rfl sc_Row___init.nd (Da.seqK (K := K) rfl (pv 1)) (blkOk_by (own := [("cell", 2)]) (N := ["self", "cells", "cell"]) (sc := defScope s_Row___init) (by decide +kernel)) (fun _ _ _ _ _ => (pg_name (i := 2) sc_Row___init.nd rfl (Or.inl rfl))) (fun _ _ _ _ _ => pts_nil) (fun _ _ _ _ _ => (pe_tup (pa_cons pe_int (pa_cons (pv 2) pa_nil))))) pa_nil)) rfl))), Da.go_in1 h ?_⟩
  intro x pn a n Q _ h
  unfold dRowI at h
  obtain ⟨cs, ha, hc, hl, h⟩ := h
  have c1 := T.cl_Row
  have c2 := T.n_Row_runs
  have ep : ∀ i, ((cs.take i).map fun c => ((1 : Int), c)).map runD = (cs.take i).map fun c => D.tup [.int 1, .int c] := fun i => by
    rw [List.map_map]
    rfl
  rcases ha with rfl | rfl
  · walk_at "w"
    refine for_inv (fun i Γ s => ∃ u2 : Option D, Γ = [some (.loc x 0), some (.lst (intsD cs)), u2] ∧ s = st1 x T.c_Row [] n pn) ⟨_, rfl, rfl⟩ ?_ ?_
    · rintro i d _ _ hi hd ⟨u2, rfl, rfl⟩
      obtain ⟨c, hc1, rfl⟩ := ints_at (seq_at hd)
      have := hc c (List.mem_of_getElem? hc1)
      walk_at "w"
      refine .n (by omega) ?_
      walk_at "w"
      exact ⟨_, rfl, rfl⟩
    · rintro _ _ ⟨u2, rfl, rfl⟩
      walk_at "w"
      refine lc_inv (fun i acc s => acc = ((cs.take i).map fun c => D.tup [.int 1, .int c]) ∧ s = st1 x T.c_Row [] n pn) (le1000 (by rw [ints_len]; exact hl)) ⟨rfl, rfl⟩ ?_ ?_
      · rintro i d _ _ hi hd _ ⟨rfl, rfl⟩
        obtain ⟨c, hc1, rfl⟩ := ints_at (seq_at hd)
        walk_at "w"
        refine ⟨?_, rfl⟩
        rw [take_more hc1, List.map_append]
        rfl
      · rintro _ _ _ ⟨rfl, rfl⟩
        rw [ints_len, List.take_length]
        walk_at "w"
        refine i_joined (ps := cs.map fun c => ((1 : Int), c)) (by have := ep cs.length; rw [List.take_length] at this; rw [this]) (Nat.le_trans (rowR_len cs) hl) (by rw [List.length_map]; omega) ?_
        walk_at "w"
        exact h
  · walk_at "w"
    refine for_inv (fun i Γ s => ∃ u2 : Option D, Γ = [some (.loc x 0), some (.tup (intsD cs)), u2] ∧ s = st1 x T.c_Row [] n pn) ⟨_, rfl, rfl⟩ ?_ ?_
    · rintro i d _ _ hi hd ⟨u2, rfl, rfl⟩
      obtain ⟨c, hc1, rfl⟩ := ints_at (seq_at hd)
      have := hc c (List.mem_of_getElem? hc1)
      walk_at "w"
      refine .n (by omega) ?_
      walk_at "w"
      exact ⟨_, rfl, rfl⟩
    · rintro _ _ ⟨u2, rfl, rfl⟩
      walk_at "w"
      refine lc_inv (fun i acc s => acc = ((cs.take i).map fun c => D.tup [.int 1, .int c]) ∧ s = st1 x T.c_Row [] n pn) (le1000 (by rw [ints_len]; exact hl)) ⟨rfl, rfl⟩ ?_ ?_
      · rintro i d _ _ hi hd _ ⟨rfl, rfl⟩
        obtain ⟨c, hc1, rfl⟩ := ints_at (seq_at hd)
        walk_at "w"
        refine ⟨?_, rfl⟩
        rw [take_more hc1, List.map_append]
        rfl
      · rintro _ _ _ ⟨rfl, rfl⟩
        rw [ints_len, List.take_length]
        walk_at "w"
        refine i_joined (ps := cs.map fun c => ((1 : Int), c)) (by have := ep cs.length; rw [List.take_length] at this; rw [this]) (Nat.le_trans (rowR_len cs) hl) (by rw [List.length_map]; omega) ?_
        walk_at "w"
        exact h
theorem i_rowI {pn : Option (Addr × Addr)} {n : Nat} {Q : QF} {X : XD} {a : D} {cs : List Int} (e : a = .lst (intsD cs) ∨ a = .tup (intsD cs)) (h1 : ∀ c ∈ cs, 0 ≤ c) (h2 : cs.length ≤ 1000) (k : Q [("runs", .tup ((rowR cs).map runD))] n) : dRowI pn a n Q X := by
  unfold dRowI
  exact ⟨cs, e, h1, h2, k⟩
/-- a row as it may be handed in: its runs -/
inductive RowArg (C : Addr) : D → List Rn → Prop
  | lst {cs : List Int} : (∀ c ∈ cs, 0 ≤ c) → cs.length ≤ 1000 → RowArg C (.lst (intsD cs)) (rowR cs)
  | tup {cs : List Int} : (∀ c ∈ cs, 0 ≤ c) → cs.length ≤ 1000 → RowArg C (.tup (intsD cs)) (rowR cs)
  | row {rs : List Rn} : RowArg C (rowG C rs) rs
theorem RowArg.of {C : Addr} {a : D} {cs : List Int} (e : a = .lst (intsD cs) ∨ a = .tup (intsD cs) ∨ a = rowD C cs) (h1 : ∀ c ∈ cs, 0 ≤ c) (h2 : cs.length ≤ 1000) : RowArg C a (rowR cs) := by
  rcases e with rfl | rfl | rfl
  · exact .lst h1 h2
  · exact .tup h1 h2
  · exact .row
@[irreducible] def dRowOf (C : Addr) : R1 := fun _ a n Q _ => ∃ rs : List Rn, RowArg C a rs ∧ Q (rowG C rs) n
theorem i_row_of {pn : Option (Addr × Addr)} {n : Nat} {Q : D → Nat → Prop} {X : XD} {a : D} {C : Addr} {rs : List Rn} (e : RowArg C a rs) (k : Q (rowG C rs) n) : dRowOf C pn a n Q X := by
  unfold dRowOf
  exact ⟨rs, e, k⟩
end
end Lw

namespace Lw
open PySem L2
open Evl Da
local macro_rules
  | `(tactic| walk_at "f") => `(tactic| first | exact lookF_put | exact lookF_hit | exact (lookF_skip (by decide +kernel) lookF_hit) | exact (lookF_skip (by decide +kernel) (lookF_skip (by decide +kernel) lookF_hit)) | exact (lookF_skip (by decide +kernel) (lookF_skip (by decide +kernel) (lookF_skip (by decide +kernel) lookF_hit))) | exact (lookF_skip (by decide +kernel) (lookF_skip (by decide +kernel) (lookF_skip (by decide +kernel) (lookF_skip (by decide +kernel) lookF_hit)))) | exact (lookF_skip (by decide +kernel) (lookF_skip (by decide +kernel) (lookF_skip (by decide +kernel) (lookF_skip (by decide +kernel) (lookF_skip (by decide +kernel) lookF_hit))))) | exact (lookF_skip (by decide +kernel) (lookF_skip (by decide +kernel) (lookF_skip (by decide +kernel) (lookF_skip (by decide +kernel) (lookF_skip (by decide +kernel) (lookF_skip (by decide +kernel) lookF_hit)))))) | ((refine lookF_other (by decide +kernel) ?_); walk_at "f") | ((refine lookF_skip (by decide +kernel) ?_); walk_at "f"))
  | `(tactic| walk_at "fl") => `(tactic| first | exact Nat.zero_lt_succ _ | ((refine putFD_lt ?_); walk_at "fl"))
  | `(tactic| walk_at "a") => `(tactic| first | exact le1000 (Nat.le_of_ble_eq_true rfl) | exact rfl | decide +kernel | exact And.intro (by with_reducible assumption) (by with_reducible assumption) | exact And.intro (And.intro (by with_reducible assumption) (by with_reducible assumption)) (by walk_at "fl"))
  | `(tactic| walk_at "w") => `(tactic| ((conv => whnf); repeat ((first | ((with_reducible refine And.intro ?_ ?_); (focus (walk_at "a"))) | ((with_reducible refine Br.yes ?_ ?_); (focus (first | exact rfl | decide +kernel))) | ((with_reducible refine Br.no ?_ ?_); (focus (first | exact rfl | decide +kernel))) | ((with_reducible refine ex_fld ?_); (refine fld_w (by walk_at "f") ?_)) | ((with_reducible refine ex_at ?_); (refine at_w rfl ?_))); (conv => whnf))))
  | `(tactic| walk_at "n") => `(tactic| ((try dsimp only [st0, st1, S.at, S.drop, S.own, S.put, S.frz, Src.n] at *); omega))
  | `(tactic| walk_at "draw") => `(tactic| ((try walk_at "w"); (refine i_draw ⟨by walk_at "n", by walk_at "n", by walk_at "n"⟩ ?_)))
section
variable {P : Program} {w : World} {K : PySem.W.Frag} {mg : Str → Option Value} {base : Heap}
open Jn (Rn jstep joinR expand)
theorem rowR_ok (cs : List Int) : (∀ r ∈ rowR cs, 1 ≤ r.1) ∧ expand (rowR cs) = cs := by
  have h := Jn.join_ok (ps := cs.map fun c => ((1 : Int), c)) (fun p hp => by
    obtain ⟨c, _, rfl⟩ := List.mem_map.mp hp
    show (0 : Int) ≤ 1
    decide)
  exact ⟨h.1, h.2.trans (Jn.expand_ones cs)⟩
theorem runs_at {rs : List Rn} {i : Nat} {d : D} (h : (rs.map runD)[i]? = some d) : ∃ r, rs[i]? = some r ∧ d = .tup [.int r.1, .int r.2] := by
  rw [List.getElem?_map] at h
  obtain ⟨r, hr, e⟩ := Option.map_eq_some_iff.mp h
  exact ⟨r, hr, e.symm⟩
theorem runs_n {rs : List Rn} : (Src.seq (rs.map runD)).n = rs.length := List.length_map _
/-- runs as a row holds them -/
structure RunsOk (rs : List Rn) : Prop where
  pos : ∀ r ∈ rs, 1 ≤ r.1
  few : rs.length ≤ 1000
theorem rowR_runs {cs : List Int} (h : cs.length ≤ 1000) : RunsOk (rowR cs) := ⟨(rowR_ok cs).1, Nat.le_trans (rowR_len cs) h⟩
theorem RowArg.cells {C : Addr} {a : D} {rs : List Rn} (h : RowArg C a rs) (ho : RunsOk rs) : RunsOk rs := ho
@[irreducible] def dSize (C : Addr) : R1 := fun _ a n Q _ => ∃ rs : List Rn, a = rowG C rs ∧ RunsOk rs ∧ Q (.int (expand rs).length) n
theorem ok_Row_size (T : Tx w K mg) : FnOk P w K mg base CX0 1 T.f_Row_size T.d_Row_size ["self"] (Da.upSp K (sp1 (dSize T.c_Row))) := by
  refine T.F_Row_size.ok sc_Row_size (fun vs H Q E h => Da.up_len1 h) (fun cdv A outer s H vs Q E hr h => ?_)
  refine ⟨_, (pss_one (ps_ret (pe_callB (Da.sumK (K := K) rfl rfl) (by rfl) T.z_sum (by decide +kernel) (pa_cons (pe_lc (g := gTup K 2 (gCons (gName 1) (gCons (gName 2) gNil))) rfl sc_Row_size.nd (Da.seqK (K := K) rfl (Da.fldK (K := K) rfl (pv 0) rfl)) (blkOk_by (own := [("count", 1), ("_", 2)]) (N := ["self", "count", "_"]) (sc := defScope s_Row_size) (by decide +kernel)) (fun _ _ _ _ _ => (Da.gtupK (n := 2) (K := K) rfl (by rfl) (pgs_cons (pg_name (i := 1) sc_Row_size.nd rfl (Or.inl rfl)) (pgs_cons (pg_name (i := 2) sc_Row_size.nd rfl (Or.inl rfl)) pgs_nil)))) (fun _ _ _ _ _ => pts_nil) (fun _ _ _ _ _ => (pv 1))) pa_nil)))), Da.go_up1 h ?_⟩
  intro pn a n Q _ h
  unfold dSize at h
  obtain ⟨rs, rfl, ho, h⟩ := h
  unfold rowG
  have c1 := T.cl_Row
  have c2 := T.n_Row_runs
  have hr := ho.few
  walk_at "w"
  refine lc_inv (fun i acc s => acc = (rs.take i).map (fun r => D.int r.1) ∧ s = st0 n pn) (le1000 (by rw [runs_n]; omega)) ⟨rfl, rfl⟩ ?_ ?_
  · rintro i d _ _ hi hd _ ⟨rfl, rfl⟩
    obtain ⟨r, hr1, rfl⟩ := runs_at (seq_at hd)
    walk_at "w"
    refine ⟨?_, rfl⟩
    rw [take_more hr1, List.map_append]
    rfl
  · rintro _ _ _ ⟨rfl, rfl⟩
    rw [runs_n, List.take_length]
    walk_at "w"
    refine ⟨rs.map (·.1), by rw [List.map_map]; rfl, ?_⟩
    have e := Jn.size_of ho.pos
    walk_at "w"
    rw [e]
    exact h
theorem i_size {pn : Option (Addr × Addr)} {n : Nat} {Q : D → Nat → Prop} {X : XD} {C : Addr} {rs : List Rn} (h2 : RunsOk rs) (k : Q (.int (expand rs).length) n) : dSize C pn (rowG C rs) n Q X := by
  unfold dSize
  exact ⟨rs, rfl, h2, k⟩
end
end Lw

/-! Readings over data: a new instance that may be changed on (own). -/
namespace Da
open PySem PySem.Spec PyProof.Rows L2 Evl Hd
section
variable {K : PySem.W.Frag} {F : Fr} {s s' : S} {H H' : Hp}
theorem hid_made {x C : Addr} {fs : List (Str × D)} {n : Nat} {a : Addr} : (st1 x C fs n s.pn).hid (hidF F s) a = (s.at n).hid (hidA F x) a := by
  unfold S.hid hidF hidA
  show (F a || s.hidM a || (List.any [(⟨0, x, .obj C fs, false⟩ : Ent)] fun e => !e.fz && e.a == a) || s.hidP a) = (F a || a == x || s.hidM a || s.hidP a)
  have e : (x == a) = (a == x) := by
    by_cases z : x = a
    · subst z; rfl
    · rw [beq_eq_false_iff_ne.mpr z, beq_eq_false_iff_ne.mpr (Ne.symm z)]
  show (F a || s.hidM a || (!false && x == a || false) || s.hidP a) = _
  rw [e]
  cases F a <;> cases s.hidM a <;> cases (a == x) <;> cases s.hidP a <;> rfl
theorem vis_made {x C : Addr} {fs : List (Str × D)} {n : Nat} : vis (hidF F s) (st1 x C fs n s.pn) H = vis (hidA F x) (s.at n) H := by
  funext a
  unfold vis
  rw [hid_made]
theorem made_own {C x dx : Addr} (ok : OkS K F s H) (hx : H x = none) (hdx : H dx = none) (hne : dx ≠ x) {fs : List (Str × D)} {n' : Nat}
    (t : Tr (hidF F s) (st1 x C [] s.n s.pn) (upd (upd H dx (.own x)) x (.ins C dx [])) (st1 x C fs n' s.pn) H') (ok' : OkS K (hidF F s) (st1 x C fs n' s.pn) H') :
    F x = false ∧ OkS K (hidA F x) (s.at n') H' ∧ Ex (vis F s H) (vis (hidA F x) (s.at n') H') ∧ (∀ b, F b = true → H' b = H b) ∧ RepO K (vis (hidA F x) (s.at n') H') H' x (.obj C fs) := by
  have old : ∀ a, H a ≠ none → upd (upd H dx (.own x)) x (.ins C dx []) a = H a := fun a ha => by
    rw [upd_ne (fun z => ha (by rw [z]; exact hx)), upd_ne (fun z => ha (by rw [z]; exact hdx))]
  have ex : Ex (vis F s H) (vis (hidA F x) (s.at n') H') := fun a o h => by
    obtain ⟨h1, h2⟩ := vis_iff.mp h
    have hn : H a ≠ none := by rw [h2]; exact fun z => nomatch z
    have hax : (a == x) = false := beq_eq_false_iff_ne.mpr fun z => hn (by rw [z]; exact hx)
    have h3 : (st1 x C [] s.n s.pn).hid (hidF F s) a = false := by
      rw [hid_made]
      unfold S.hid hidA at *
      show (F a || a == x || s.hidM a || s.hidP a) = false
      rw [hax, Bool.or_false]
      exact h1
    have h4 := t.ex a o (vis_iff.mpr ⟨h3, by rw [old a hn]; exact h2⟩)
    rw [vis_made] at h4
    exact h4
  have hF : F x = false := by
    cases e : F x with
    | false => rfl
    | true => exact absurd hx (ok.fr x e)
  have same : ∀ e ∈ s.M, H' e.a = H e.a := fun e he => by
    have hn := (ok.ents e he).some
    cases hf : e.fz with
    | false =>
      rw [t.fr e.a ?_, old e.a hn]
      unfold hidF
      have : s.hidM e.a = true := by
        unfold S.hidM
        exact List.any_eq_true.mpr ⟨e, he, by rw [hf]; simp⟩
      rw [this, Bool.or_true]
    | true =>
      have h1 := ent_seen ok he hf
      cases hh : H e.a with
      | none => exact absurd hh hn
      | some o => exact (vis_iff.mp (ex _ _ (vis_iff.mpr ⟨h1, hh⟩))).2
  have hr := ok'.ents _ List.mem_cons_self
  rw [vis_made] at hr
  refine ⟨hF, ⟨fun e he => (ok.ents e he).mono ex (same e he), ok.nd, fun p q e => ⟨(ok'.pen p q e).1, (ok.pen p q e).2⟩, fun a ha => ?_, fun e he => ?_, fun p q e => ?_⟩, ex, fun b hb => ?_, hr⟩
  · unfold hidA at ha
    rw [Bool.or_eq_true] at ha
    rcases ha with ha | ha
    · exact ok'.fr a (by unfold hidF; rw [ha]; rfl)
    · rw [beq_iff_eq] at ha
      rw [ha]
      exact hr.some
  · unfold hidA
    rw [ok.frM e he, Bool.false_or, beq_eq_false_iff_ne]
    exact fun z => (ok.ents e he).some (by rw [z]; exact hx)
  · obtain ⟨h1, h2⟩ := ok.frP p q e
    obtain ⟨⟨z, ⟨_, ns, h4, h5, _⟩, _⟩, _⟩ := ok.pen p q e
    unfold hidA
    rw [h1, h2, Bool.false_or, Bool.false_or]
    exact ⟨beq_eq_false_iff_ne.mpr fun z => (by rw [z, hx] at h4; cases h4), beq_eq_false_iff_ne.mpr fun z => (by rw [z, hx] at h5; cases h5)⟩
  · rw [t.fr b (by unfold hidF; rw [hb]; rfl), old b (ok.fr b hb)]
instance {C : Addr} {dsp : DIn} {dvs : List V} {dds : List D} {E : XK} {ta : TA} {wa : WA} [df : Dflt K dvs dds] [l : LA K ta wa] : LEo K (tMake C (upIn K C dsp) dvs E ta) (woMake C dsp dds wa) := ⟨fun {F s H σ Γ Q Q0} a h k => l.go a h fun vs H1 ds s1 t1 ok1 r1 h1 => by
  obtain ⟨ds', s2, h2, ok2, t2, r2⟩ := escs ok1 r1 h1
  intro x dx hx hdx hne
  obtain ⟨okA, tA, vA⟩ := (ok_call ok2).new (o := .own x) hdx
  have hx1 : upd H1 dx (.own x) x = none := by rw [upd_ne (Ne.symm hne)]; exact hx
  obtain ⟨okB, tB⟩ := okA.own (k := 0) (o := .ins C dx []) (m := .obj C []) hx1 (fun Hv _ => ⟨dx, [], upd_same, .nil⟩)
  have r3 := r2.app (df.rep _)
  rw [← vis_call (n := s2.n)] at r3
  refine ⟨hidF F s2, x, vs ++ dvs, ds' ++ dds, s2.pn, s2.n, _, XF, rfl, r3.mono (tA.trans tB).ex, okB, h2, fun H' fs n' t3 ok3 q => ⟨rfl, ?_⟩, fun _ _ _ _ _ _ _ _ q => q.elim⟩
  obtain ⟨h3, h4, h5, h6, h7⟩ := made_own ok2 hx hdx hne t3 ok3
  have tt := t1.trans t2
  exact k x H' (.obj C fs) (s2.at n') h3 h4 (tt.ex.trans h5) (fun b hb => (h6 b hb).trans (tt.fr b hb)) tt.pn h7 q⟩
end
end Da

namespace Lw
open PySem L2
open Evl Da
local macro_rules
  | `(tactic| walk_at "f") => `(tactic| first | exact lookF_put | exact lookF_hit | exact (lookF_skip (by decide +kernel) lookF_hit) | exact (lookF_skip (by decide +kernel) (lookF_skip (by decide +kernel) lookF_hit)) | exact (lookF_skip (by decide +kernel) (lookF_skip (by decide +kernel) (lookF_skip (by decide +kernel) lookF_hit))) | exact (lookF_skip (by decide +kernel) (lookF_skip (by decide +kernel) (lookF_skip (by decide +kernel) (lookF_skip (by decide +kernel) lookF_hit)))) | exact (lookF_skip (by decide +kernel) (lookF_skip (by decide +kernel) (lookF_skip (by decide +kernel) (lookF_skip (by decide +kernel) (lookF_skip (by decide +kernel) lookF_hit))))) | exact (lookF_skip (by decide +kernel) (lookF_skip (by decide +kernel) (lookF_skip (by decide +kernel) (lookF_skip (by decide +kernel) (lookF_skip (by decide +kernel) (lookF_skip (by decide +kernel) lookF_hit)))))) | ((refine lookF_other (by decide +kernel) ?_); walk_at "f") | ((refine lookF_skip (by decide +kernel) ?_); walk_at "f"))
  | `(tactic| walk_at "fl") => `(tactic| first | exact Nat.zero_lt_succ _ | ((refine putFD_lt ?_); walk_at "fl"))
  | `(tactic| walk_at "a") => `(tactic| first | exact le1000 (Nat.le_of_ble_eq_true rfl) | exact rfl | decide +kernel | exact And.intro (by with_reducible assumption) (by with_reducible assumption) | exact And.intro (And.intro (by with_reducible assumption) (by with_reducible assumption)) (by walk_at "fl"))
  | `(tactic| walk_at "w") => `(tactic| ((conv => whnf); repeat ((first | ((with_reducible refine And.intro ?_ ?_); (focus (walk_at "a"))) | ((with_reducible refine Br.yes ?_ ?_); (focus (first | exact rfl | decide +kernel))) | ((with_reducible refine Br.no ?_ ?_); (focus (first | exact rfl | decide +kernel))) | ((with_reducible refine ex_fld ?_); (refine fld_w (by walk_at "f") ?_)) | ((with_reducible refine ex_at ?_); (refine at_w rfl ?_))); (conv => whnf))))
  | `(tactic| walk_at "n") => `(tactic| ((try dsimp only [st0, st1, S.at, S.drop, S.own, S.put, S.frz, Src.n] at *); omega))
  | `(tactic| walk_at "draw") => `(tactic| ((try walk_at "w"); (refine i_draw ⟨by walk_at "n", by walk_at "n", by walk_at "n"⟩ ?_)))
open Jn (Rn joinR expand)
theorem putFD_hit {f : Str} {d x : D} {r : List (Str × D)} : putFD f d ((f, x) :: r) = (f, d) :: r := by
  show (match decide (f = f) with | true => (f, d) :: r | false => (f, x) :: putFD f d r) = _
  rw [decide_eq_true rfl]
section
variable {P : Program} {w : World} {K : PySem.W.Frag} {mg : Str → Option Value} {base : Heap}
instance df_row (T : Tx w K mg) : Dflt K [T.dd_Row___init] [.tup []] := ⟨fun H => .cons (T.df_Row___init H) .nil⟩
theorem join_runs {ps : List Rn} (h : ∀ p ∈ ps, 0 ≤ p.1) (hl : (joinR ps).length ≤ 1000) : RunsOk (joinR ps) := ⟨(Jn.join_ok h).1, hl⟩
theorem join_expand {ps : List Rn} (h : ∀ p ∈ ps, 0 ≤ p.1) : expand (joinR ps) = expand ps := (Jn.join_ok h).2
@[irreducible] def dOfRuns (C : Addr) : R1 := fun _ a n Q _ => ∃ ps : List Rn, (a = .lst (ps.map runD) ∨ a = .tup (ps.map runD)) ∧ (∀ p ∈ ps, 0 ≤ p.1 ∧ 0 ≤ p.2) ∧ (joinR ps).length ≤ 1000 ∧ ps.length ≤ 100000 ∧ Q (rowG C (joinR ps)) n
theorem ok_Row_of_runs (T : Tx w K mg) : FnOk P w K mg base CX0 4 T.f_Row_of_runs T.d_Row_of_runs ["runs"] (Da.upSp K (sp1 (dOfRuns T.c_Row))) := by
  refine T.F_Row_of_runs.ok sc_Row_of_runs (fun vs H Q E h => Da.up_len1 h) (fun cdv A outer s H vs Q E hr h => ?_)
  refine ⟨_, (pss_cons (ps_for PassesOwn.never rfl (Da.seqK (K := K) rfl (pv 0)) (Da.gtupK (n := 2) (K := K) rfl (by rfl) (pgs_cons (pg_name (i := 1) sc_Row_of_runs.nd rfl (Or.inl rfl)) (pgs_cons (pg_name (i := 2) sc_Row_of_runs.nd rfl (Or.inl rfl)) pgs_nil)))
        (pss_cons (ps_if (pt_cmpR op_lt (pv 1) pe_int (nomark _))
          (pss_one ps_never)
          pss_nil)
        (pss_one (ps_if (pt_cmpR op_lt (pv 2) pe_int (nomark _))
          (pss_one ps_never)
          pss_nil))))
      (pss_cons (Da.ps_own 1 (ps_set (i := 3) sc_Row_of_runs.nd rfl (Or.inl rfl) (pe_make0 T.mk_Row (ok_Row___init T) (hr.mono (by decide)) rfl T.m_Row T.bd_Row___init T.vd_Row___init pass0)))
      (pss_cons (Da.setfK (K := K) rfl (pv 3) (pe_call (ok_joined T) (hr.mono (by decide)) rfl T.m_joined T.F_joined.kp T.b_joined .nil pass0 (pa_cons (pv 0) pa_nil)) rfl)
      (pss_one (ps_ret (pv 3)))))), Da.go_up1 h ?_⟩
  intro pn a n Q _ h
  unfold dOfRuns at h
  obtain ⟨ps, e, h1, h2, h3, h⟩ := h
  obtain ⟨A, hA⟩ : ∃ A, A = a := ⟨_, rfl⟩
  have hE := e
  rw [← hA] at hE
  rcases e with rfl | rfl
  all_goals
    have c1 := T.cl_Row
    have c2 := T.n_Row_runs
    walk_at "w"
    refine for_inv (fun i Γ s => ∃ u1 u2 u3 : Option D, Γ = [some A, u1, u2, u3] ∧ s = st0 n pn) ⟨_, _, _, by rw [hA]; rfl, rfl⟩ ?_ ?_
    · rintro i d _ _ hi hd ⟨u1, u2, u3, rfl, rfl⟩
      obtain ⟨r, hr, rfl⟩ := runs_at (seq_at hd)
      obtain ⟨r1, r2⟩ := h1 r (List.mem_of_getElem? hr)
      walk_at "w"
      refine .n (by omega) ?_
      walk_at "w"
      refine .n (by omega) ?_
      walk_at "w"
      exact ⟨_, _, _, rfl, rfl⟩
    · rintro _ _ ⟨u1, u2, u3, rfl, rfl⟩
      subst hA
      walk_at "w"
      refine i_rowI (cs := []) (.inr rfl) (fun c hc => nomatch hc) (by decide) ?_
      walk_at "w"
      intro ra
      walk_at "w"
      refine i_joinedT hE h2 h3 ?_
      walk_at "w"
      have e : putFD "runs" (.tup ((joinR ps).map runD)) ([("runs", D.tup ((rowR []).map runD))] : List (Str × D)) = ([("runs", D.tup ((joinR ps).map runD))] : List (Str × D)) := putFD_hit
      refine ⟨⟨⟨c1, c2⟩, (by show 1 < 1000; decide)⟩, ?_⟩
      rw [e]
      walk_at "w"
      exact h
theorem i_of_runs {pn : Option (Addr × Addr)} {n : Nat} {Q : D → Nat → Prop} {X : XD} {C : Addr} {ps : List Rn} {a : D} (e : a = .lst (ps.map runD)) (h1 : ∀ p ∈ ps, 0 ≤ p.1 ∧ 0 ≤ p.2) (h2 : (joinR ps).length ≤ 1000) (h3 : ps.length ≤ 100000) (h : Q (rowG C (joinR ps)) n) : dOfRuns C pn a n Q X := by
  unfold dOfRuns
  exact ⟨ps, .inl e, h1, h2, h3, h⟩
theorem i_of_runsT {pn : Option (Addr × Addr)} {n : Nat} {Q : D → Nat → Prop} {X : XD} {C : Addr} {ps : List Rn} {a : D} (e : a = .tup (ps.map runD)) (h1 : ∀ p ∈ ps, 0 ≤ p.1 ∧ 0 ≤ p.2) (h2 : (joinR ps).length ≤ 1000) (h3 : ps.length ≤ 100000) (h : Q (rowG C (joinR ps)) n) : dOfRuns C pn a n Q X := by
  unfold dOfRuns
  exact ⟨ps, .inr e, h1, h2, h3, h⟩
end
end Lw

/-! Readings over data: an own + of two instances of one class (own). -/
namespace Da
open PySem PySem.Spec PyProof.Rows L2 Evl Hd
def rBinOwn (K : PySem.W.Frag) (C : Addr) (sp : Sp) (E : XK) : R2 := fun x y H Q => ∃ a b dx fs dy gs, x = .ref a ∧ y = .ref b ∧ H a = some (.ins C dx fs) ∧ H b = some (.ins C dy gs) ∧ sp [.ref a, .ref b] H (fun v H' => ∃ c, v = .ref c ∧ Q (.ref c) H') E
theorem binOwn {X : Cx} {CX : CXT} {n : Nat} {C f : Addr} {fd : FuncData} {ps : List Str} {sp : Sp} {E : XK} {K : PySem.W.Frag} {op : Operator} {m0 : Str} (hm : PySem.dunder op.info.2 = m0) (hK : X.K = K) (F : FnOk X.prog X.w X.K X.mg X.base CX n f fd ps sp) (hs : PySem.W.findIn X.K (.ref C) m0 = some (some (.ref f)))
    (hf : PySem.W.isFn X.K (.ref f) = true) (hb : Binds X.K fd ps []) (hx : Passes CX X E) (hr : Room n X.A) (hc : PySem.W.selfFirst X.K C = true) : OpR X (binaryOp op) (rBinOwn K C sp E) := by
  subst hK
  subst hm
  intro pins s σ H x y v u Q I rx ry ⟨a, b, dx, fs, dy, gs, ex, ey, ha, hy, hsp⟩
  subst ex
  subst ey
  cases rx
  cases ry
  obtain ⟨mA, J0, _⟩ := ins_get I.hok ha
  obtain ⟨od, J, _⟩ := J0.look
  obtain ⟨m, hF⟩ := I.fr
  have hu := hr.units0
  show wpAny (model X.prog X.w) X.A (binaryOp op (.ref a) (.ref b)) (EP X pins σ Q) X.xe s
  have body : wpAny (model X.prog X.w) X.A (call (.ref f) [.ref a, .ref b]) (PySem.W.CmpBack (EP X pins σ Q)) X.xe s := by
    have hl := F.len _ _ _ _ hsp
    refine wpAny_call (codeAny_mono (F.run X.A X.stack s H ⟨[.ref a, .ref b], []⟩ [.ref a, .ref b] [.ref a, .ref b] _ E hr I.env0 (by
      have z := hb s [.ref a, .ref b] I.kIn (by simpa using hl)
      simpa using z) (.cons rfl (.cons rfl .nil)) hsp) fun r st hq => ?_)
    cases r with
    | error er => exact hx pins σ H s er st I hq
    | ok fl =>
      cases fl with
      | ret wv =>
        obtain ⟨z, H2, I2, rz, k, ez, q2⟩ := I.after hq
        subst ez
        cases rz
        exact ⟨.ref k, H2, I2, rfl, q2⟩
      | next => exact False.elim hq
      | brk => exact False.elim hq
      | cont => exact False.elim hq
  obtain ⟨mB, J1, _⟩ := ins_get I.hok hy
  obtain ⟨od2, J2, _⟩ := J1.look
  exact PySem.W.binop_K hF I.ok.mod.kin J J2.type hc hs hf body
section
variable {K : PySem.W.Frag} {F : Fr} {s : S} {H H' : Hp}
def objD (d : D) (k : Prop) : Prop := match d with
  | .obj _ _ => k
  | _ => False
theorem objD_of {d : D} {k : Prop} {Hv : Hp} {v : V} (q : objD d k) (r : Rep K Hv v d) : (∃ c, v = .ref c) ∧ k := by
  unfold objD at q
  split at q
  · cases r with
    | obj g1 g2 => exact ⟨⟨_, rfl⟩, q⟩
  · exact q.elim
def binArgs (C : Addr) (ds : List D) (k : D → D → Prop) : Prop := match ds with
  | [.obj C' fs, .obj C2 gs] => (C' = C ∧ C2 = C) ∧ k (.obj C' fs) (.obj C2 gs)
  | _ => False
def wBinOwn (C : Addr) (dsp : DSp) (wa wb : WE) : WE := fun Γ s Q => wa Γ s fun x s1 => wb Γ s1 fun y s2 => escA s2 [x, y] fun ds s3 => binArgs C ds fun d e => dsp s3.pn [d, e] s3.n (fun d n' => objD d (Q d (s3.at n'))) XF
instance {C : Addr} {dsp : DSp} {E : XK} {ta tb : TE} {wa wb : WE} [la : LE K ta wa] [lb : LE K tb wb] : LE K (tOp (rBinOwn K C (upSp K dsp) E) ta tb) (wBinOwn C dsp wa wb) := ⟨fun {F s H σ Γ Q Q0} a h k =>
  la.go a h fun v1 H1 d1 s1 t1 ok1 r1 h1 => lb.go (a.to t1 ok1) h1 fun v2 H2 d2 s2 t2 ok2 r2 h2 => by
    obtain ⟨ds, s3, h3, ok3, t3, r3⟩ := escs ok2 (.cons (r1.mono t2.ex) (.cons r2 .nil)) h2
    have tt := (t1.trans t2).trans t3
    unfold binArgs at h3
    split at h3
    · obtain ⟨⟨rfl, e2⟩, h4⟩ := h3
      subst e2
      cases r3 with
      | cons q1 q2 =>
        cases q2 with
        | cons q2 q3 =>
          cases q3
          cases q1 with
          | @obj a1 c1 dx fv fs g1 g2 =>
            cases q2 with
            | @obj a2 c2 dy gv gs g3 g4 =>
              refine ⟨a1, a2, dx, fv, dy, gv, rfl, rfl, vis_ex _ _ g1, vis_ex _ _ g3, ?_⟩
              refine call_data ok3 (.cons (.obj g1 g2) (.cons (.obj g3 g4) .nil)) h4 (fun v H4 d n' t4 ok4 r4 q => ?_) (fun _ _ _ _ _ _ _ _ q => q.elim)
              obtain ⟨⟨c, rfl⟩, q⟩ := objD_of q r4
              exact ⟨c, rfl, k _ _ _ _ (tt.trans t4) ok4 r4 q⟩
    · exact h3.elim⟩
end
end Da

/-! Readings over data: an own * by a number (own). -/
namespace PySem.W
open PySem PySem.Spec PyProof.Rows
theorem int_not_own {M : Model} {h : Heap} {C : Addr} : Looks M h (isSubtype (.type "int") (.ref C)) false := Looks.of_pure (by rw [isSubtype_type]; rfl)
theorem slot_py {K : Frag} {M : Model} {h : Heap} {C f : Addr} (X : K.In h) (hs : findIn K (.ref C) (PySem.dunder "mul") = some (some (.ref f))) (hr : findIn K (.ref C) (PySem.dunderR "mul") = some none) : Looks M h (numberSlotInPython (.ref C) "mul") true := by
  intro A Q E s k q
  unfold numberSlotInPython
  refine wpAny_bind (looks_findIn X hs A _ E s k ?_)
  refine wpAny_bind ?_
  show wpAny M A (pure true) _ E s
  refine wpAny_pure ?_
  refine wpAny_bind (looks_findIn X hr A _ E s k ?_)
  refine wpAny_bind ?_
  show wpAny M A (pure false) _ E s
  refine wpAny_pure ?_
  show wpAny M A (pure true) _ E s
  exact wpAny_pure q
theorem binop_int {prog : Program} {w : World} {K : Frag} {L : Addr} {m : Str → Option Value} {h₀ : Heap} {s : Shared} {x C f : Addr} {ox : Obj} {od : Option Obj} {A : Around} {E : Value → Shared → Prop} {j : Int} {t : Tok} {Q : Value → Shared → Prop} (F : Fr h₀ L s.heap m) (X₀ : K.In h₀) (I : InstAt s.heap x ox C od) (hc : selfFirst K C = true)
    (hs : findIn K (.ref C) (PySem.dunder "mul") = some (some (.ref f))) (hr : findIn K (.ref C) (PySem.dunderR "mul") = some none) (hf : isFn K (.ref f) = true)
    (h : wpAny (model prog w) A (call (.ref f) [.ref x, .int j t]) (CmpBack Q) E s) : wpAny (model prog w) A (binaryOp .Mult (.ref x) (.int j t)) Q E s := by
  have X := X₀.keeps F.keep
  obtain ⟨cd, hcd, hm⟩ := any_some hc
  obtain ⟨rest, hm⟩ : ∃ rest, cd.mro = .ref C :: rest := by
    cases q : cd.mro with
    | nil => rw [q] at hm; cases hm
    | cons a r => rw [q] at hm; exact ⟨r, by rw [List.head?_cons] at hm; cases (beq_iff_eq.mp hm); rfl⟩
  unfold binaryOp
  refine wpAny_holding (wpAny_bind ?_)
  unfold binaryOp1
  refine wpAny_bind (I.type.here (wpAny_bind ?_))
  refine (show Looks (model prog w) s.heap (typeOf (.int j t)) (.type "int") from Looks.of_pure rfl).here (wpAny_bind ((fills_K (nm := "mul") X hcd hm hs).here ?_))
  refine wpAny_bind ?_
  refine (Looks.of_pure PySem.F.fills_int_mul).here ?_
  simp only [Bool.and_true, if_true, Bool.and_self]
  refine wpAny_bind (int_not_own.here ?_)
  simp only [Bool.false_eq_true, if_false, Bool.not_false, Bool.and_true, if_true, Bool.and_self]
  refine wpAny_bind ((slot_py X hs hr).here ?_)
  simp only [if_true]
  refine wpAny_bind ((show Looks (model prog w) s.heap (numberSlotInPython (.type "int") "mul") false from Looks.of_pure rfl).here ?_)
  simp only [Bool.not_false, if_true]
  refine wpAny_bind ((Looks.of_pure PySem.F.slot_int_rmul.lookup).here ?_)
  refine wpAny_bind (m := tryMethod (.ref x) _ (.int j t)) ?_
  unfold tryMethod
  refine wpAny_bind (special_fn X I hs (beq_iff_eq.mp hf) (wpAny_mono h (fun v s' hv => ?_) fun _ _ e => e))
  cases v <;> first | exact hv.elim | exact wpAny_pure (wpAny_pure (wpAny_pure hv))
end PySem.W
namespace Da
open PySem PySem.Spec PyProof.Rows L2 Evl Hd
def rMulOwn (K : PySem.W.Frag) (C : Addr) (sp : Sp) (E : XK) : R2 := fun x y H Q => ∃ a k dx fs, x = .ref a ∧ y = .int k ∧ H a = some (.ins C dx fs) ∧ sp [.ref a, .int k] H (fun v H' => ∃ c, v = .ref c ∧ Q (.ref c) H') E
theorem mulOwn {X : Cx} {CX : CXT} {n : Nat} {C f : Addr} {fd : FuncData} {ps : List Str} {sp : Sp} {E : XK} {K : PySem.W.Frag} {m0 m1 : Str} (hm : PySem.dunder "mul" = m0) (hm1 : PySem.dunderR "mul" = m1) (hK : X.K = K) (F : FnOk X.prog X.w X.K X.mg X.base CX n f fd ps sp) (hs : PySem.W.findIn X.K (.ref C) m0 = some (some (.ref f)))
    (hrm : PySem.W.findIn X.K (.ref C) m1 = some none) (hf : PySem.W.isFn X.K (.ref f) = true) (hb : Binds X.K fd ps []) (hx : Passes CX X E) (hr : Room n X.A) (hc : PySem.W.selfFirst X.K C = true) : OpR X (binaryOp .Mult) (rMulOwn K C sp E) := by
  subst hK
  subst hm
  subst hm1
  intro pins s σ H x y v u Q I rx ry ⟨a, k, dx, fs, ex, ey, ha, hsp⟩
  subst ex
  subst ey
  cases rx
  obtain ⟨t, rfl⟩ := ry
  obtain ⟨mA, J0, _⟩ := ins_get I.hok ha
  obtain ⟨od, J, _⟩ := J0.look
  obtain ⟨m, hF⟩ := I.fr
  have hu := hr.units0
  show wpAny (model X.prog X.w) X.A (binaryOp .Mult (.ref a) (.int k t)) (EP X pins σ Q) X.xe s
  have body : wpAny (model X.prog X.w) X.A (call (.ref f) [.ref a, .int k t]) (PySem.W.CmpBack (EP X pins σ Q)) X.xe s := by
    have hl := F.len _ _ _ _ hsp
    refine wpAny_call (codeAny_mono (F.run X.A X.stack s H ⟨[.ref a, .int k t], []⟩ [.ref a, .int k t] [.ref a, .int k] _ E hr I.env0 (by
      have z := hb s [.ref a, .int k t] I.kIn (by simpa using hl)
      simpa using z) (.cons rfl (.cons ⟨t, rfl⟩ .nil)) hsp) fun r st hq => ?_)
    cases r with
    | error er => exact hx pins σ H s er st I hq
    | ok fl =>
      cases fl with
      | ret wv =>
        obtain ⟨z, H2, I2, rz, k, ez, q2⟩ := I.after hq
        subst ez
        cases rz
        exact ⟨.ref k, H2, I2, rfl, q2⟩
      | next => exact False.elim hq
      | brk => exact False.elim hq
      | cont => exact False.elim hq
  exact PySem.W.binop_int hF I.ok.mod.kin J hc hs hrm hf body
section
variable {K : PySem.W.Frag} {F : Fr} {s : S} {H H' : Hp}
def mulArgs (C : Addr) (ds : List D) (k : D → D → Prop) : Prop := match ds with
  | [.obj C' fs, .int j] => C' = C ∧ k (.obj C' fs) (.int j)
  | _ => False
def wMulOwn (C : Addr) (dsp : DSp) (wa wb : WE) : WE := fun Γ s Q => wa Γ s fun x s1 => wb Γ s1 fun y s2 => escA s2 [x, y] fun ds s3 => mulArgs C ds fun d e => dsp s3.pn [d, e] s3.n (fun d n' => objD d (Q d (s3.at n'))) XF
instance {C : Addr} {dsp : DSp} {E : XK} {ta tb : TE} {wa wb : WE} [la : LE K ta wa] [lb : LE K tb wb] : LE K (tOp (rMulOwn K C (upSp K dsp) E) ta tb) (wMulOwn C dsp wa wb) := ⟨fun {F s H σ Γ Q Q0} a h k =>
  la.go a h fun v1 H1 d1 s1 t1 ok1 r1 h1 => lb.go (a.to t1 ok1) h1 fun v2 H2 d2 s2 t2 ok2 r2 h2 => by
    obtain ⟨ds, s3, h3, ok3, t3, r3⟩ := escs ok2 (.cons (r1.mono t2.ex) (.cons r2 .nil)) h2
    have tt := (t1.trans t2).trans t3
    unfold mulArgs at h3
    split at h3
    · obtain ⟨rfl, h4⟩ := h3
      cases r3 with
      | cons q1 q2 =>
        cases q2 with
        | cons q2 q3 =>
          cases q3
          cases q1 with
          | @obj a1 c1 dx fv fs g1 g2 =>
            cases q2
            refine ⟨a1, _, dx, fv, rfl, rfl, vis_ex _ _ g1, ?_⟩
            refine call_data ok3 (.cons (.obj g1 g2) (.cons .int .nil)) h4 (fun v H4 d n' t4 ok4 r4 q => ?_) (fun _ _ _ _ _ _ _ _ q => q.elim)
            obtain ⟨⟨c, rfl⟩, q⟩ := objD_of q r4
            exact ⟨c, rfl, k _ _ _ _ (tt.trans t4) ok4 r4 q⟩
    · exact h3.elim⟩
end
end Da

/-! tuple * 0, tuple * 1 (own). -/
namespace Da
open PySem PySem.Spec PyProof.Rows L2 Evl Hd
theorem tuple_mul1 (l : Addr) (items : Array Value) (n : Nat) (dd : Option Addr) (sl : Array (Option Value)) (x : Int) (u : Tok) (c0 : (decide (x < -(2 ^ 63)) || decide (x ≥ 2 ^ 63)) = false) (c1 : (items.isEmpty || x == 1) = true) :
    Meets (Builtin.«tuple.__mul__» ⟨[.ref l, .int x u], []⟩) (fun _ R s => s.heap.get? l = some { cls := .type "tuple", dict := dd, data := .seq items n, slots := sl } ∧ R (.ok (.ret (Value.ref l))) s) :=
  .of_wp fun prog w A R s h => by
    obtain ⟨hp, g, d, tk, os⟩ := s
    obtain ⟨hl, h⟩ := h
    have f1 := AutoSeq1.idx_int
    wp_walk using wpAny_loadPart' hl
    repeat (first
      | (refine wpAny_ite_false (decide_eq_false (by rw [c0]; exact Bool.false_ne_true)) ?_; wp_walk using wpAny_loadPart' hl)
      | (refine wpAny_ite_true (decide_eq_true (by rw [c1])) ?_; wp_walk using wpAny_loadPart' hl))
    exact ⟨_, rfl, h⟩
theorem tuple_mul0 (l : Addr) (items : Array Value) (n : Nat) (dd : Option Addr) (sl : Array (Option Value)) (x : Int) (u : Tok) (c0 : (decide (x < -(2 ^ 63)) || decide (x ≥ 2 ^ 63)) = false) (c1 : (items.isEmpty || x == 1) = false) (c2 : (decide (x ≤ 0) || items.isEmpty) = true) :
    Meets (Builtin.«tuple.__mul__» ⟨[.ref l, .int x u], []⟩) (fun _ R s => s.heap.get? l = some { cls := .type "tuple", dict := dd, data := .seq items n, slots := sl } ∧
      R (.ok (.ret (Value.ref s.heap.objs.size))) { s with heap := s.heap.push { cls := Value.type "tuple", data := Data.seq #[] }, toks := s.toks }) :=
  .of_wp fun prog w A R s h => by
    obtain ⟨hp, g, d, tk, os⟩ := s
    obtain ⟨hl, h⟩ := h
    have f1 := AutoSeq1.idx_int
    wp_walk using wpAny_loadPart' hl
    repeat (first
      | (refine wpAny_ite_false (decide_eq_false (by rw [c0]; exact Bool.false_ne_true)) ?_; wp_walk using wpAny_loadPart' hl)
      | (refine wpAny_ite_false (decide_eq_false (by rw [c1]; exact Bool.false_ne_true)) ?_; wp_walk using wpAny_loadPart' hl)
      | (refine wpAny_ite_true (decide_eq_true (by rw [c2])) ?_; wp_walk using wpAny_loadPart' hl))
    exact ⟨_, rfl, h⟩
def rRepT0 (K : PySem.W.Frag) : R2 := fun x y H Q => ∃ l k xs, x = .ref l ∧ y = .int k ∧ SqT K H l xs ∧ 0 ≤ k ∧ k ≤ 1 ∧ (k = 1 → Q (.ref l) H) ∧ (k = 0 → xs ≠ [] ∧ ∀ p, H p = none → Q (.ref p) (upd H p (.tup [])))
section
variable {X : Cx}
theorem op_repT0 : OpR X (binaryOp .Mult) (rRepT0 X.K) := by
  intro pins s σ H x y v u Q I rx ry h
  obtain ⟨l, k, xs, rfl, rfl, hT, h1, h2, q1, q0⟩ := h
  cases rx
  obtain ⟨t, rfl⟩ := ry
  obtain ⟨its, r, ⟨⟨cls, dd, data, sl⟩, ho, hc, n, hd⟩, hs⟩ := I.tuple hT
  simp only at hc hd
  subst hc hd
  have hle : its.length = xs.length := r.length.symm
  have c0 : (decide (k < -(2 ^ 63)) || decide (k ≥ 2 ^ 63)) = false := by
    rw [decide_eq_false (by omega), decide_eq_false (by omega)] <;> rfl
  rcases (show k = 1 ∨ k = 0 by omega) with rfl | rfl
  · refine wpAny_binaryOp_repeat_ref (T := "tuple") (U := "int") (by decide) ⟨_, ho, rfl⟩ (fun s' => typeIs_int s' 1 t) noFill_tuple_mul F.fills_int_mul F.slot_int_rmul repeat_tuple F.slot_int_index.lookup
      (call_meets F.slot_int_rmul (typeIs_int s 1 t) F.entry_int_rmul (F.args_int_rmul_2 _ _) (int_rmul_tuple 1 t l its.toArray n dd sl)
        ⟨ho, rfl, ⟨_, ho, rfl⟩, call_meets F.slot_tuple_mul ⟨_, ho, rfl⟩ F.entry_tuple_mul (F.args_tuple_mul_2 _ _) (tuple_mul1 l its.toArray n dd sl 1 t c0 (by simp)) ⟨ho, ?_⟩⟩)
    exact ⟨.ref l, H, I, rfl, q1 rfl⟩
  · obtain ⟨hne, q⟩ := q0 rfl
    have hi : its.toArray.isEmpty = false := by
      cases its with
      | nil => exact absurd (List.eq_nil_of_length_eq_zero (by rw [← hle]; rfl)) hne
      | cons a b => rfl
    refine wpAny_binaryOp_repeat_ref (T := "tuple") (U := "int") (by decide) ⟨_, ho, rfl⟩ (fun s' => typeIs_int s' 0 t) noFill_tuple_mul F.fills_int_mul F.slot_int_rmul repeat_tuple F.slot_int_index.lookup
      (call_meets F.slot_int_rmul (typeIs_int s 0 t) F.entry_int_rmul (F.args_int_rmul_2 _ _) (int_rmul_tuple 0 t l its.toArray n dd sl)
        ⟨ho, rfl, ⟨_, ho, rfl⟩, call_meets F.slot_tuple_mul ⟨_, ho, rfl⟩ F.entry_tuple_mul (F.args_tuple_mul_2 _ _) (tuple_mul0 l its.toArray n dd sl 0 t c0 (by rw [hi]; rfl) (by rw [hi]; rfl)) ⟨ho, ?_⟩⟩)
    refine ⟨.ref s.heap.objs.size, _, I.laid (t' := s.toks) (o := .tup []) (fun b ob q => Heap.get?_push_of_some _ q) (Nat.le_refl _) ?_, rfl, q _ (I.hok.fresh (Nat.le_refl _))⟩
    exact ⟨Nat.zero_le _, [], .nil, IsTup.new _ _⟩
end
/-! a tuple so many times -/
def rMulTA (K : PySem.W.Frag) : R2 := fun x y H Q => rRepT K x y H Q ∨ rRepT0 K x y H Q
theorem op_mulTA {X : Cx} : OpR X (binaryOp .Mult) (rMulTA X.K) := fun pins s σ H x y v u Q I rx ry h => by
  rcases h with h | h
  · exact op_repT pins s σ H x y v u Q I rx ry h
  · exact op_repT0 pins s σ H x y v u Q I rx ry h
theorem mulTK {X : Cx} {K : PySem.W.Frag} (hK : X.K = K) : OpR X (binaryOp .Mult) (rMulTA K) := by subst hK; exact op_mulTA
def fMulTA : F2 := fun x y s Q => match x, y with
  | .tup a, .int k => (a ≠ [] ∧ 0 ≤ k ∧ k ≤ 1000 ∧ a.length ≤ 1000) ∧ Q (.tup (List.replicate k.toNat a).flatten) s
  | _, _ => False
section
variable {K : PySem.W.Frag}
instance : LR K (rMulTA K) fMulTA := ⟨fun {F s H x y dx dy Q Q0} ok rx ry h k => by
  unfold fMulTA at h
  split at h
  · rename_i a j
    obtain ⟨a, xs, rfl, h1, h2, h3⟩ := rx.tup vis_ex
    cases ry
    obtain ⟨⟨n1, n2, n3, n4⟩, h⟩ := h
    by_cases hk : 2 ≤ j
    · refine .inl ⟨a, _, xs, rfl, rfl, h1, fun e => n1 ((nil_iff h2).mp e), hk, n3, by rw [h2.len]; exact n4, ?_⟩
      refine new_tup ok (h2.rep _) ?_ h k
      rw [rep_len]
      have : j.toNat ≤ 1000 := by omega
      exact Nat.le_trans (Nat.mul_le_mul n4 this) (by decide)
    · refine .inr ⟨a, j, xs, rfl, rfl, h1, n2, by omega, fun e => ?_, fun e => ⟨fun e => n1 ((nil_iff h2).mp e), ?_⟩⟩
      · subst e
        have h : Q (.tup (List.replicate 1 ‹List D›).flatten) _ := h
        rw [List.replicate_one, List.flatten_singleton] at h
        exact k _ _ _ _ Tr.refl ok rx h
      · subst e
        exact new_tup ok .nil (Nat.zero_le _) h k
  · exact h.elim⟩
end
end Da

set_option maxHeartbeats 1000000
/-! Joined runs are told by their cells (own). -/
namespace Jn
/-- neighbours have unlike cells -/
def Alt : List Rn → Prop
  | a :: b :: r => a.2 ≠ b.2 ∧ Alt (b :: r)
  | _ => True
theorem Alt.tail {a : Rn} {r : List Rn} (h : Alt (a :: r)) : Alt r := by
  cases r with
  | nil => trivial
  | cons b r => exact h.2
theorem exp_head {r : Rn} {rs : List Rn} (h : 1 ≤ r.1) : expand (r :: rs) = r.2 :: expand ((r.1 - 1, r.2) :: rs) := by
  obtain ⟨k, hk⟩ : ∃ k, r.1.toNat = k + 1 := ⟨r.1.toNat - 1, by omega⟩
  show List.replicate r.1.toNat r.2 ++ expand rs = r.2 :: (List.replicate (r.1 - 1).toNat r.2 ++ expand rs)
  rw [hk, show (r.1 - 1).toNat = k by omega]
  rfl
theorem exp_zero {c : Int} {rs : List Rn} : expand ((0, c) :: rs) = expand rs := rfl
/-- the same count and cell at the front, with something of each left -/
theorem front : ∀ (n : Nat) {x y : Rn} {a b : List Rn}, x.1.toNat = n → 0 ≤ x.1 → 0 ≤ y.1 → x.1 ≤ y.1 → x.2 = y.2 → expand (x :: a) = expand (y :: b) → expand a = expand ((y.1 - x.1, y.2) :: b)
  | 0, x, y, a, b, hn, h0, h1, hl, hc, e => by
    have hx : x.1 = 0 := by omega
    show expand a = List.replicate (y.1 - x.1).toNat y.2 ++ expand b
    have e : List.replicate x.1.toNat x.2 ++ expand a = List.replicate y.1.toNat y.2 ++ expand b := e
    rw [hx] at e ⊢
    rw [Int.sub_zero]
    exact e
  | n + 1, x, y, a, b, hn, h0, h1, hl, hc, e => by
    rw [exp_head (by omega), exp_head (r := y) (by omega)] at e
    have e2 := (List.cons.inj e).2
    have := front n (x := (x.1 - 1, x.2)) (y := (y.1 - 1, y.2)) (by show (x.1 - 1).toNat = n; omega) (by show 0 ≤ x.1 - 1; omega) (by show 0 ≤ y.1 - 1; omega) (by show x.1 - 1 ≤ y.1 - 1; omega) hc e2
    rw [this]
    show List.replicate (y.1 - 1 - (x.1 - 1)).toNat y.2 ++ _ = List.replicate (y.1 - x.1).toNat y.2 ++ _
    rw [show y.1 - 1 - (x.1 - 1) = y.1 - x.1 by omega]
theorem uniq : ∀ {a b : List Rn}, (∀ r ∈ a, 1 ≤ r.1) → (∀ r ∈ b, 1 ≤ r.1) → Alt a → Alt b → expand a = expand b → a = b
  | [], [], _, _, _, _, _ => rfl
  | [], y :: b, _, hb, _, _, e => by
    rw [exp_head (hb y List.mem_cons_self)] at e
    cases e
  | x :: a, [], ha, _, _, _, e => by
    rw [exp_head (ha x List.mem_cons_self)] at e
    cases e
  | x :: a, y :: b, ha, hb, ka, kb, e => by
    have hx := ha x List.mem_cons_self
    have hy := hb y List.mem_cons_self
    have hc : x.2 = y.2 := by
      have e1 := e
      rw [exp_head hx, exp_head hy] at e1
      exact (List.cons.inj e1).1
    have ha2 : ∀ r ∈ a, 1 ≤ r.1 := fun r h => ha r (List.mem_cons_of_mem _ h)
    have hb2 : ∀ r ∈ b, 1 ≤ r.1 := fun r h => hb r (List.mem_cons_of_mem _ h)
    have no : ∀ {x y : Rn} {a b : List Rn}, 1 ≤ x.1 → x.1 < y.1 → x.2 = y.2 → (∀ r ∈ a, 1 ≤ r.1) → Alt (x :: a) → expand (x :: a) = expand (y :: b) → False := fun {x y a b} hx hlt hc ha2 ka e => by
      have e2 := front x.1.toNat rfl (by omega) (by omega) (by omega) hc e
      rw [exp_head (r := (y.1 - x.1, y.2)) (by show 1 ≤ y.1 - x.1; omega)] at e2
      cases a with
      | nil => cases e2
      | cons z a =>
        rw [exp_head (ha2 z List.mem_cons_self)] at e2
        exact ka.1 (hc.trans (List.cons.inj e2).1.symm)
    rcases Int.lt_trichotomy x.1 y.1 with h | h | h
    · exact (no hx h hc ha2 ka e).elim
    · have e2 := front x.1.toNat rfl (by omega) (by omega) (by omega) hc e
      rw [show y.1 - x.1 = 0 by omega] at e2
      rw [uniq ha2 hb2 ka.tail kb.tail e2, show x = y from Prod.ext h hc]
    · exact (no hy h hc.symm hb2 kb e.symm).elim
theorem Alt.snoc : ∀ {l : List Rn} {x : Rn}, Alt l → (∀ y, l.getLast? = some y → y.2 ≠ x.2) → Alt (l ++ [x])
  | [], x, _, _ => trivial
  | [a], x, _, h => ⟨h a rfl, trivial⟩
  | a :: b :: r, x, h, k => ⟨h.1, Alt.snoc (l := b :: r) h.2 (fun y hy => k y (by rw [List.getLast?_cons_cons]; exact hy))⟩
theorem Alt.same {l : List Rn} {x y : Rn} (h : Alt (l ++ [x])) (e : x.2 = y.2) : Alt (l ++ [y]) := by
  induction l with
  | nil => trivial
  | cons a r ih =>
    cases r with
    | nil => exact ⟨by rw [← e]; exact h.1, trivial⟩
    | cons b r => exact ⟨h.1, ih h.2⟩
theorem jstep_alt {acc : List Rn} {p : Rn} (h : Alt acc) : Alt (jstep acc p) := by
  unfold jstep
  by_cases h0 : p.1 = 0
  · rw [if_pos h0]; exact h
  · rw [if_neg h0]
    cases e : acc.getLast? with
    | none =>
      have : acc = [] := List.getLast?_eq_none_iff.mp e
      rw [this]
      trivial
    | some r =>
      by_cases hr : r.2 = p.2
      · simp only [hr, if_true]
        have h2 := last_split e
        rw [h2] at h
        exact h.same hr
      · simp only [if_neg hr]
        exact h.snoc (fun y hy => by rw [e] at hy; cases hy; exact hr)
theorem join_alt (ps : List Rn) : Alt (joinR ps) := by
  have gen : ∀ (ps acc : List Rn), Alt acc → Alt (ps.foldl jstep acc) := by
    intro ps
    induction ps with
    | nil => exact fun acc h => h
    | cons p r ih => exact fun acc h => ih _ (jstep_alt h)
  exact gen ps [] trivial
/-- rows of the same cells have the same runs -/
theorem join_uniq {ps qs : List Rn} (hp : ∀ p ∈ ps, 0 ≤ p.1) (hq : ∀ p ∈ qs, 0 ≤ p.1) (e : expand ps = expand qs) : joinR ps = joinR qs := by
  obtain ⟨a1, a2⟩ := join_ok hp
  obtain ⟨b1, b2⟩ := join_ok hq
  exact uniq a1 b1 (join_alt _) (join_alt _) (by rw [a2, b2, e])
theorem join_id {rs : List Rn} (h1 : ∀ r ∈ rs, 1 ≤ r.1) (h2 : Alt rs) : joinR rs = rs := by
  have h0 : ∀ r ∈ rs, 0 ≤ r.1 := fun r hr => by have := h1 r hr; omega
  obtain ⟨a1, a2⟩ := join_ok h0
  exact uniq a1 h1 (join_alt _) h2 a2
end Jn

/-! Readings over data: an own `in` (own). -/
namespace PySem.W
open PySem PySem.Spec PyProof.Rows
theorem contains_own {prog : Program} {w : World} {K : Frag} {s : Shared} {x C f : Addr} {ox : Obj} {od : Option Obj} {A : Around} {E : Value → Shared → Prop} {v : Value} {Q : Bool → Shared → Prop} (X : K.In s.heap) (I : InstAt s.heap x ox C od)
    (hs : findIn K (.ref C) "__contains__" = some (some (.ref f))) (hf : typeIn K (.ref f) = some (.type "function"))
    (h : wpAny (model prog w) A (call (.ref f) [.ref x, v]) (fun r s' => ∃ b, r = .bool b ∧ Q b s') E s) : wpAny (model prog w) A (contains (.ref x) v) Q E s := by
  unfold contains
  refine wpAny_holding ?_
  have e0 : stdlibNamesSay? (.ref x) v = none := rfl
  rw [e0]
  have sp : Looks (model prog w) s.heap (specialOf (.ref x) "__contains__") (some (.ref f)) := I.type.andThen (looks_findIn X hs)
  refine wpAny_bind (sp.here ?_)
  rw [if_neg (show ¬ ((some (Value.ref f) == some Value.none) = true) from by simp)]
  refine wpAny_bind ?_
  unfold callSpecialUnlessNone?
  refine wpAny_bind (sp.here ?_)
  refine wpAny_holding (wpAny_bind ((bind_fn X _ hf).here ?_))
  dsimp only
  rw [if_neg (show ¬ ((Value.ref f == Value.none) = true) from by simp)]
  refine wpAny_bind (wpAny_mono h (fun r s' hr => ?_) fun _ _ e => e)
  obtain ⟨b, rfl, q⟩ := hr
  exact wpAny_pure (wpAny_truthy_bool q)
end PySem.W
namespace Da
open PySem PySem.Spec PyProof.Rows L2 Evl Hd
def rInOwn (K : PySem.W.Frag) (C : Addr) (sp : Sp) (E : XK) : R2 := fun x y H Q => ∃ a dx fs, y = .ref a ∧ H a = some (.ins C dx fs) ∧ sp [.ref a, x] H (fun v H' => ∃ b, v = .bl b ∧ Q (.bl b) H') E
theorem inOwn {X : Cx} {CX : CXT} {n : Nat} {C f : Addr} {fd : FuncData} {ps : List Str} {sp : Sp} {E : XK} {K : PySem.W.Frag} (hK : X.K = K) (F : FnOk X.prog X.w X.K X.mg X.base CX n f fd ps sp) (hs : PySem.W.findIn X.K (.ref C) "__contains__" = some (some (.ref f)))
    (hf : PySem.W.isFn X.K (.ref f) = true) (hb : Binds X.K fd ps []) (hx : Passes CX X E) (hr : Room n X.A) : OpR X (compareOp .In) (rInOwn K C sp E) := by
  subst hK
  intro pins s σ H x y v u Q I rx ry ⟨a, dx, fs, ey, ha, hsp⟩
  subst ey
  cases ry
  obtain ⟨mA, J0, _⟩ := ins_get I.hok ha
  obtain ⟨od, J, _⟩ := J0.look
  obtain ⟨m, hF⟩ := I.fr
  have hu := hr.units0
  have body : wpAny (model X.prog X.w) X.A (call (.ref f) [.ref a, v]) (fun r s' => ∃ b, r = .bool b ∧ EP X pins σ Q (.bool b) s') X.xe s := by
    have hl := F.len _ _ _ _ hsp
    refine wpAny_call (codeAny_mono (F.run X.A X.stack s H ⟨[.ref a, v], []⟩ [.ref a, v] [.ref a, x] _ E hr I.env0 (by
      have z := hb s [.ref a, v] I.kIn (by simpa using hl)
      simpa using z) (.cons rfl (.cons rx .nil)) hsp) fun r st hq => ?_)
    cases r with
    | error er => exact hx pins σ H s er st I hq
    | ok fl =>
      cases fl with
      | ret wv =>
        obtain ⟨z, H2, I2, rz, b, ez, q2⟩ := I.after hq
        subst ez
        cases rz
        exact ⟨b, rfl, .bl b, H2, I2, rfl, q2⟩
      | next => exact False.elim hq
      | brk => exact False.elim hq
      | cont => exact False.elim hq
  show wpAny (model X.prog X.w) X.A (compareOp .In v (.ref a)) (EP X pins σ Q) X.xe s
  unfold compareOp
  have X0 := I.ok.mod.kin.keeps hF.keep
  refine wpAny_bind (wpAny_mono (PySem.W.contains_own X0 J hs (beq_iff_eq.mp hf) body) (fun r s' hq => ?_) fun _ _ e => e)
  exact wpAny_pure hq
def rNinOwn (K : PySem.W.Frag) (C : Addr) (sp : Sp) (E : XK) : R2 := fun x y H Q => ∃ a dx fs, y = .ref a ∧ H a = some (.ins C dx fs) ∧ sp [.ref a, x] H (fun v H' => ∃ b, v = .bl b ∧ Q (.bl (!b)) H') E
theorem ninOwn {X : Cx} {CX : CXT} {n : Nat} {C f : Addr} {fd : FuncData} {ps : List Str} {sp : Sp} {E : XK} {K : PySem.W.Frag} (hK : X.K = K) (F : FnOk X.prog X.w X.K X.mg X.base CX n f fd ps sp) (hs : PySem.W.findIn X.K (.ref C) "__contains__" = some (some (.ref f)))
    (hf : PySem.W.isFn X.K (.ref f) = true) (hb : Binds X.K fd ps []) (hx : Passes CX X E) (hr : Room n X.A) : OpR X (compareOp .NotIn) (rNinOwn K C sp E) := by
  subst hK
  intro pins s σ H x y v u Q I rx ry ⟨a, dx, fs, ey, ha, hsp⟩
  subst ey
  cases ry
  obtain ⟨mA, J0, _⟩ := ins_get I.hok ha
  obtain ⟨od, J, _⟩ := J0.look
  obtain ⟨m, hF⟩ := I.fr
  have hu := hr.units0
  have body : wpAny (model X.prog X.w) X.A (call (.ref f) [.ref a, v]) (fun r s' => ∃ b, r = .bool b ∧ EP X pins σ Q (.bool (!b)) s') X.xe s := by
    have hl := F.len _ _ _ _ hsp
    refine wpAny_call (codeAny_mono (F.run X.A X.stack s H ⟨[.ref a, v], []⟩ [.ref a, v] [.ref a, x] _ E hr I.env0 (by
      have z := hb s [.ref a, v] I.kIn (by simpa using hl)
      simpa using z) (.cons rfl (.cons rx .nil)) hsp) fun r st hq => ?_)
    cases r with
    | error er => exact hx pins σ H s er st I hq
    | ok fl =>
      cases fl with
      | ret wv =>
        obtain ⟨z, H2, I2, rz, b, ez, q2⟩ := I.after hq
        subst ez
        cases rz
        exact ⟨b, rfl, .bl (!b), H2, I2, rfl, q2⟩
      | next => exact False.elim hq
      | brk => exact False.elim hq
      | cont => exact False.elim hq
  show wpAny (model X.prog X.w) X.A (compareOp .NotIn v (.ref a)) (EP X pins σ Q) X.xe s
  unfold compareOp
  have X0 := I.ok.mod.kin.keeps hF.keep
  refine wpAny_bind (wpAny_mono (PySem.W.contains_own X0 J hs (beq_iff_eq.mp hf) body) (fun r s' hq => ?_) fun _ _ e => e)
  exact wpAny_pure hq
section
variable {K : PySem.W.Frag} {F : Fr} {s : S} {H H' : Hp}
def blD (d : D) (k : Prop) : Prop := match d with
  | .bl _ => k
  | _ => False
def inArgs (C : Addr) (ds : List D) (k : D → D → Prop) : Prop := match ds with
  | [x, .obj C' fs] => C' = C ∧ k x (.obj C' fs)
  | _ => False
def wInOwn (C : Addr) (dsp : DSp) (wa wb : WE) : WE := fun Γ s Q => wa Γ s fun x s1 => wb Γ s1 fun y s2 => escA s2 [x, y] fun ds s3 => inArgs C ds fun x e => dsp s3.pn [e, x] s3.n (fun d n' => blD d (Q d (s3.at n'))) XF
instance {C : Addr} {dsp : DSp} {E : XK} {ta tb : TE} {wa wb : WE} [la : LE K ta wa] [lb : LE K tb wb] : LE K (tOp (rInOwn K C (upSp K dsp) E) ta tb) (wInOwn C dsp wa wb) := ⟨fun {F s H σ Γ Q Q0} a h k =>
  la.go a h fun v1 H1 d1 s1 t1 ok1 r1 h1 => lb.go (a.to t1 ok1) h1 fun v2 H2 d2 s2 t2 ok2 r2 h2 => by
    obtain ⟨ds, s3, h3, ok3, t3, r3⟩ := escs ok2 (.cons (r1.mono t2.ex) (.cons r2 .nil)) h2
    have tt := (t1.trans t2).trans t3
    unfold inArgs at h3
    split at h3
    · obtain ⟨rfl, h4⟩ := h3
      cases r3 with
      | cons q1 q2 =>
        cases q2 with
        | cons q2 q3 =>
          cases q3
          cases q2 with
          | @obj a1 c1 dx fv fs g1 g2 =>
            refine ⟨a1, dx, fv, rfl, vis_ex _ _ g1, ?_⟩
            refine call_data ok3 (.cons (.obj g1 g2) (.cons q1 .nil)) h4 (fun v H4 d n' t4 ok4 r4 q => ?_) (fun _ _ _ _ _ _ _ _ q => q.elim)
            cases d with
            | bl b =>
              cases r4
              exact ⟨b, rfl, k _ _ _ _ (tt.trans t4) ok4 .bl q⟩
            | _ => exact q.elim
    · exact h3.elim⟩
def wNinOwn (C : Addr) (dsp : DSp) (wa wb : WE) : WE := fun Γ s Q => wa Γ s fun x s1 => wb Γ s1 fun y s2 => escA s2 [x, y] fun ds s3 => inArgs C ds fun x e => dsp s3.pn [e, x] s3.n (fun d n' => asB d fun b => Q (.bl (!b)) (s3.at n')) XF
instance {C : Addr} {dsp : DSp} {E : XK} {ta tb : TE} {wa wb : WE} [la : LE K ta wa] [lb : LE K tb wb] : LE K (tOp (rNinOwn K C (upSp K dsp) E) ta tb) (wNinOwn C dsp wa wb) := ⟨fun {F s H σ Γ Q Q0} a h k =>
  la.go a h fun v1 H1 d1 s1 t1 ok1 r1 h1 => lb.go (a.to t1 ok1) h1 fun v2 H2 d2 s2 t2 ok2 r2 h2 => by
    obtain ⟨ds, s3, h3, ok3, t3, r3⟩ := escs ok2 (.cons (r1.mono t2.ex) (.cons r2 .nil)) h2
    have tt := (t1.trans t2).trans t3
    unfold inArgs at h3
    split at h3
    · obtain ⟨rfl, h4⟩ := h3
      cases r3 with
      | cons q1 q2 =>
        cases q2 with
        | cons q2 q3 =>
          cases q3
          cases q2 with
          | @obj a1 c1 dx fv fs g1 g2 =>
            refine ⟨a1, dx, fv, rfl, vis_ex _ _ g1, ?_⟩
            refine call_data ok3 (.cons (.obj g1 g2) (.cons q1 .nil)) h4 (fun v H4 d n' t4 ok4 r4 q => ?_) (fun _ _ _ _ _ _ _ _ q => q.elim)
            cases d with
            | bl b =>
              cases r4
              exact ⟨b, rfl, k _ _ _ _ (tt.trans t4) ok4 .bl q⟩
            | _ => exact q.elim
    · exact h3.elim⟩
end
end Da

/-! Readings over data: comprehensions of two fors (own). -/
namespace Da
open PySem PySem.Spec PyProof.Rows L2 Evl Hd
/-- the inner walk: what is gathered, the state -/
@[irreducible] def Lc2In (wg1 : WG) (wt1 : WT) (we : WE) (vs1 : List Nat) (Γ2 : Ga) (acc : List D) (src : Src) (s : S) (K2 : List D → S → Prop) : Prop := ∃ Inv : Nat → List D → S → Prop, Inv 0 acc s ∧
  (∀ j d acc' s', j < src.n → src.at j = some d → Inv j acc' s' → wg1 d (wipeG Γ2 vs1) s' fun Γ3 s5 => wt1 Γ3 s5 fun b s6 => Br b (we Γ3 s6 fun y s7 => escP s7 y fun y' s8 => acc'.length < sizeLine ∧ Inv (j + 1) (acc' ++ [y']) s8) (Inv (j + 1) acc' s6)) ∧
  ∀ acc' s', Inv src.n acc' s' → K2 acc' s'
theorem lc2_in {wg1 : WG} {wt1 : WT} {we : WE} {vs1 : List Nat} {Γ2 : Ga} {acc : List D} {src : Src} {s : S} {K2 : List D → S → Prop} (Inv : Nat → List D → S → Prop) (h0 : Inv 0 acc s)
  (step : ∀ j d acc' s', j < src.n → src.at j = some d → Inv j acc' s' → wg1 d (wipeG Γ2 vs1) s' fun Γ3 s5 => wt1 Γ3 s5 fun b s6 => Br b (we Γ3 s6 fun y s7 => escP s7 y fun y' s8 => acc'.length < sizeLine ∧ Inv (j + 1) (acc' ++ [y']) s8) (Inv (j + 1) acc' s6))
  (fin : ∀ acc' s', Inv src.n acc' s' → K2 acc' s') : Lc2In wg1 wt1 we vs1 Γ2 acc src s K2 := by
  unfold Lc2In
  exact ⟨Inv, h0, step, fin⟩
theorem Lc2In.out {wg1 : WG} {wt1 : WT} {we : WE} {vs1 : List Nat} {Γ2 : Ga} {acc : List D} {src : Src} {s : S} {K2 : List D → S → Prop} (h : Lc2In wg1 wt1 we vs1 Γ2 acc src s K2) : ∃ Inv : Nat → List D → S → Prop, Inv 0 acc s ∧
  (∀ j d acc' s', j < src.n → src.at j = some d → Inv j acc' s' → wg1 d (wipeG Γ2 vs1) s' fun Γ3 s5 => wt1 Γ3 s5 fun b s6 => Br b (we Γ3 s6 fun y s7 => escP s7 y fun y' s8 => acc'.length < sizeLine ∧ Inv (j + 1) (acc' ++ [y']) s8) (Inv (j + 1) acc' s6)) ∧
  ∀ acc' s', Inv src.n acc' s' → K2 acc' s' := by
  unfold Lc2In at h
  exact h
@[irreducible] def Lc2B (wg : WG) (wt : WT) (ws1 : WI) (wg1 : WG) (wt1 : WT) (we : WE) (vs vs1 : List Nat) (Γ : Ga) (Q : QD) (src : Src) (s1 : S) : Prop := ∃ Inv : Nat → List D → S → Prop, Inv 0 [] s1 ∧
    (∀ i d acc s', i < src.n → src.at i = some d → Inv i acc s' → wg d (wipeG Γ vs) s' fun Γ2 s2 => wt Γ2 s2 fun b s3 => Br b (ws1 Γ2 s3 fun src1 s4 => Lc2In wg1 wt1 we vs1 Γ2 acc src1 s4 (Inv (i + 1))) (Inv (i + 1) acc s3)) ∧
    ∀ acc s', Inv src.n acc s' → acc.length ≤ sizeLine ∧ Q (.lst acc) s'
theorem lc2_inv {wg : WG} {wt : WT} {ws1 : WI} {wg1 : WG} {wt1 : WT} {we : WE} {vs vs1 : List Nat} {Γ : Ga} {Q : QD} {src : Src} {s1 : S} (Inv : Nat → List D → S → Prop) (h0 : Inv 0 [] s1)
    (step : ∀ i d acc s', i < src.n → src.at i = some d → Inv i acc s' → wg d (wipeG Γ vs) s' fun Γ2 s2 => wt Γ2 s2 fun b s3 => Br b (ws1 Γ2 s3 fun src1 s4 => Lc2In wg1 wt1 we vs1 Γ2 acc src1 s4 (Inv (i + 1))) (Inv (i + 1) acc s3))
    (fin : ∀ acc s', Inv src.n acc s' → acc.length ≤ sizeLine ∧ Q (.lst acc) s') : Lc2B wg wt ws1 wg1 wt1 we vs vs1 Γ Q src s1 := by
  unfold Lc2B
  exact ⟨Inv, h0, step, fin⟩
theorem Lc2B.out {wg : WG} {wt : WT} {ws1 : WI} {wg1 : WG} {wt1 : WT} {we : WE} {vs vs1 : List Nat} {Γ : Ga} {Q : QD} {src : Src} {s1 : S} (h : Lc2B wg wt ws1 wg1 wt1 we vs vs1 Γ Q src s1) : ∃ Inv : Nat → List D → S → Prop, Inv 0 [] s1 ∧
    (∀ i d acc s', i < src.n → src.at i = some d → Inv i acc s' → wg d (wipeG Γ vs) s' fun Γ2 s2 => wt Γ2 s2 fun b s3 => Br b (ws1 Γ2 s3 fun src1 s4 => Lc2In wg1 wt1 we vs1 Γ2 acc src1 s4 (Inv (i + 1))) (Inv (i + 1) acc s3)) ∧
    ∀ acc s', Inv src.n acc s' → acc.length ≤ sizeLine ∧ Q (.lst acc) s' := by
  unfold Lc2B at h
  exact h
def wLc2 (ws : WI) (is : List Nat) (wg : WG) (wt : WT) (ws1 : WI) (is1 : List Nat) (wg1 : WG) (wt1 : WT) (we : WE) (vs vs1 : List Nat) : WE := fun Γ s Q => match subN is vs && subN is1 vs1 with
  | false => False
  | true => ws Γ s fun src s1 => Lc2B wg wt ws1 wg1 wt1 we vs vs1 Γ Q src s1
section
variable {K : PySem.W.Frag} {F : Fr} {s : S} {H : Hp}
instance {wi wi1 : TI} {g g1 : TG} {tt tt1 : TT} {te : TE} {vs vs1 is is1 : List Nat} {ws ws1 : WI} {wg wg1 : WG} {wt wt1 : WT} {we : WE} [li : LI K wi ws] [lk : LGk g is] [m2 : Mono2 g] [lg : LG K g wg] [lt : LT K tt wt]
    [li1 : LI K wi1 ws1] [lk1 : LGk g1 is1] [m21 : Mono2 g1] [lg1 : LG K g1 wg1] [lt1 : LT K tt1 wt1] [le : LE K te we] : LE K (tLc2 wi g tt wi1 g1 tt1 te vs vs1) (wLc2 ws is wg wt ws1 is1 wg1 wt1 we vs vs1) := ⟨fun {F s H σ Γ Q Q0} a h k => by
  unfold wLc2 at h
  cases hs0 : (subN is vs && subN is1 vs1) with
  | false => rw [hs0] at h; exact h.elim
  | true =>
    rw [hs0] at h
    rw [Bool.and_eq_true] at hs0
    obtain ⟨hs, hs1⟩ := hs0
    refine li.go a h fun src H1 s1 J t1 ok1 wd h1 => ?_
    obtain ⟨Inv, i0, step, fin⟩ := h1.out
    obtain ⟨G, Y, W, hG, hY⟩ := wd.w
    intro D0 hD
    obtain ⟨okh, exh⟩ := ok1.hide (o := .lst []) hD
    have hFD : F D0 = false := by
      cases e : F D0 with
      | false => rfl
      | true => exact absurd hD (ok1.fr D0 e)
    have hFD0 : hidA F D0 D0 = true := by unfold hidA; simp
    have fr0 : ∀ b, F b = true → hidA F D0 b = true := fun b hb => by unfold hidA; rw [hb]; rfl
    -- what holds with so much gathered
    let Pg : (List D → S → Prop) → Hp → Prop := fun P H' => ∃ acc s' us, Ex (vis F s1 H1) (vis (hidA F D0) s' H') ∧ (∀ b, F b = true → H' b = H1 b) ∧ s'.pn = s1.pn ∧ OkS K (hidA F D0) s' H' ∧ H' D0 = some (.lst us) ∧ RepL K (vis (hidA F D0) s' H') us acc ∧ P acc s'
    refine ⟨fun i m H' => m = src.n - i ∧ i ≤ src.n ∧ Pg (Inv i) H', ⟨src.n, by simp, Nat.zero_le _, [], s1, [], exh, fun b hb => upd_ne fun z => (by rw [z, hFD] at hb; cases hb), rfl, okh, upd_same, .nil, i0⟩, ?_⟩
    rintro i m H' ⟨rfl, hi, acc, s', us, e1, e2, e3, ok, e4, e5, inv⟩
    have hGq := hG _ s' H' e1 ok
    by_cases hlt : i < src.n
    · refine .inr ⟨W.goes i H' hlt hGq, Pg (Inv (i + 1)), fun H2 p' => ⟨src.n - (i + 1), by omega, rfl, hlt, p'⟩, fun x H2 y => ?_⟩
      obtain ⟨d, hd, t2, ok2, r2, keep⟩ := hY _ i s' H' x H2 hlt e1 ok (W.yields i H' x H2 hlt hGq y)
      have g2 : RepG K (vis (hidA F D0) s' H2) (wipe σ vs) (wipeG Γ vs) := ((a.g.mono t1.ex).mono (e1.trans t2.ex)).wipe
      have q := lg.go ⟨g2, ok2⟩ r2 (step i d acc s' hlt hd inv) fun σ3 H3 Γ3 s3 t3 a3 h3 => (⟨Γ3, s3, t3, a3, h3⟩ : ∃ Γ3 s3, Tr (hidA F D0) s' H2 s3 H3 ∧ At K (hidA F D0) s3 H3 σ3 Γ3 ∧ wt Γ3 s3 fun b s3 => Br b (ws1 Γ3 s3 fun src1 s4 => Lc2In wg1 wt1 we vs1 Γ3 acc src1 s4 (Inv (i + 1))) (Inv (i + 1) acc s3))
      refine m2.go (fun σ3 H3 ⟨kp, Γ3, s3, t3, a3, h3⟩ => ⟨(wipe_eq kp.1 (fun j hj => kp.2 j fun z => hj (subN_mem hs j z))).trans (wipe_eq (wipe_length σ vs) (fun j hj => by rw [wipe_get, if_neg fun z => hj z.1])), ?_⟩) (lk.go q)
      refine lt.go a3 h3 fun b H4 s4 t4 ok4 h4 => h4.ite (fun _ h5 => ?_) (fun _ h5 => ?_)
      · have a4 : At K (hidA F D0) s4 H4 σ3 Γ3 := a3.to t4 ok4
        refine li1.go a4 h5 fun src1 H5 s5 J1 t5 ok5 wd1 h6 => ?_
        obtain ⟨Inv1, j0, step1, fin1⟩ := h6.out
        obtain ⟨G1, Y1, W1, hG1, hY1⟩ := wd1.w
        have tt := ((t2.trans t3).trans t4).trans t5
        have a5 : At K (hidA F D0) s5 H5 σ3 Γ3 := a4.to t5 ok5
        let P1 : (List D → S → Prop) → Hp → Prop := fun P H' => ∃ acc s' us, Ex (vis (hidA F D0) s5 H5) (vis (hidA F D0) s' H') ∧ (∀ b, F b = true → H' b = H1 b) ∧ s'.pn = s1.pn ∧ OkS K (hidA F D0) s' H' ∧ H' D0 = some (.lst us) ∧ RepL K (vis (hidA F D0) s' H') us acc ∧ P acc s'
        have up : ∀ P H', P1 P H' → Pg P H' := fun P H' ⟨acc, s', us, b1, b2, b3, b4, b5, b6, b7⟩ => ⟨acc, s', us, (e1.trans tt.ex).trans b1, b2, b3, b4, b5, b6, b7⟩
        refine ⟨fun j k H' => k = src1.n - j ∧ j ≤ src1.n ∧ P1 (Inv1 j) H', ⟨src1.n, by simp, Nat.zero_le _, acc, s5, us, Ex.refl _, fun b hb => by rw [tt.fr b (fr0 b hb), e2 b hb], tt.pn.trans e3, ok5, by rw [tt.fr D0 hFD0, e4], e5.mono tt.ex, j0⟩, ?_⟩
        rintro j k H6 ⟨rfl, hj, acc1, s6, us1, b1, b2, b3, b4, b5, b6, inv1⟩
        have hG1q := hG1 _ s6 H6 b1 b4
        by_cases hlt1 : j < src1.n
        · refine .inr ⟨W1.goes j H6 hlt1 hG1q, P1 (Inv1 (j + 1)), fun H2 p' => ⟨src1.n - (j + 1), by omega, rfl, hlt1, p'⟩, fun x1 H7 y1 => ?_⟩
          obtain ⟨d1, hd1, t7, ok7, r7, keep7⟩ := hY1 _ j s6 H6 x1 H7 hlt1 b1 b4 (W1.yields j H6 x1 H7 hlt1 hG1q y1)
          have g7 : RepG K (vis (hidA F D0) s6 H7) (wipe σ3 vs1) (wipeG Γ3 vs1) := (a5.g.mono (b1.trans t7.ex)).wipe
          have q1 := lg1.go ⟨g7, ok7⟩ r7 (step1 j d1 acc1 s6 hlt1 hd1 inv1) fun σ8 H8 Γ8 s8 t8 a8 h8 => (⟨Γ8, s8, t8, a8, h8⟩ : ∃ Γ8 s8, Tr (hidA F D0) s6 H7 s8 H8 ∧ At K (hidA F D0) s8 H8 σ8 Γ8 ∧ wt1 Γ8 s8 fun b s9 => Br b (we Γ8 s9 fun y s10 => escP s10 y fun y' s11 => acc1.length < sizeLine ∧ Inv1 (j + 1) (acc1 ++ [y']) s11) (Inv1 (j + 1) acc1 s9))
          refine m21.go (fun σ8 H8 ⟨kp, Γ8, s8, t8, a8, h8⟩ => ⟨(wipe_eq kp.1 (fun j hj => kp.2 j fun z => hj (subN_mem hs1 j z))).trans (wipe_eq (wipe_length σ3 vs1) (fun j hj => by rw [wipe_get, if_neg fun z => hj z.1])), ?_⟩) (lk1.go q1)
          refine lt1.go a8 h8 fun b H9 s9 t9 ok9 h9 => h9.ite (fun _ h10 => ?_) (fun _ h10 => ?_)
          · refine le.go (a8.to t9 ok9) h10 fun v H10 dv s10 t10 ok10 r10 h11 => ?_
            obtain ⟨y', s11, ⟨hl, h12⟩, ok11, t11, r11⟩ := esc ok10 r10 h11
            have t0 := ((t7.trans t8).trans (t9.trans t10)).trans t11
            have hD10 : H10 D0 = some (.lst us1) := by rw [t0.fr D0 hFD0, b5]
            obtain ⟨ok12, hv⟩ := ok11.hupd (o := .lst (us1 ++ [v]))
            refine ⟨us1, hD10, by rw [b6.len]; exact hl, acc1 ++ [y'], s11, us1 ++ [v], by rw [hv]; exact b1.trans t0.ex, fun b hb => ?_, t0.pn.trans b3, ok12, upd_same, ?_, h12⟩
            · rw [upd_ne fun z => (by rw [z, hFD] at hb; cases hb), t0.fr b (fr0 b hb), b2 b hb]
            · rw [hv]
              exact (b6.mono t0.ex).app (.cons r11 .nil)
          · have t0 := (t7.trans t8).trans t9
            exact ⟨acc1, s9, us1, b1.trans t0.ex, fun b hb => by rw [t0.fr b (fr0 b hb), b2 b hb], t0.pn.trans b3, ok9, by rw [t0.fr D0 hFD0, b5], b6.mono t0.ex, h10⟩
        · have e : j = src1.n := by omega
          subst e
          exact .inl ⟨W1.stops H6 hG1q, up _ _ ⟨acc1, s6, us1, b1, b2, b3, b4, b5, b6, fin1 acc1 s6 inv1⟩⟩
      · have tt := (t2.trans t3).trans t4
        exact ⟨acc, s4, us, e1.trans tt.ex, fun b hb => by rw [tt.fr b (fr0 b hb), e2 b hb], tt.pn.trans e3, ok4, by rw [tt.fr D0 hFD0, e4], e5.mono tt.ex, h5⟩
    · have e : i = src.n := by omega
      subst e
      refine .inl ⟨W.stops H' hGq, ?_⟩
      obtain ⟨ok8, ex8⟩ := ok.unhide
      obtain ⟨hl, hq⟩ := fin acc s' inv
      exact k _ _ _ _ (t1.trans ⟨e1.trans ex8, e2, e3⟩) ok8 (.lst (unhide_at ok e4 hFD) (e5.mono ex8) hl) hq⟩
instance {wi wi1 : TI} {g g1 : TG} {tt tt1 : TT} {te : TE} {vs vs1 is is1 : List Nat} {ws ws1 : WI} {wg wg1 : WG} {wt wt1 : WT} {we : WE} [li : LI K wi ws] [lk : LGk g is] [m2 : Mono2 g] [lg : LG K g wg] [lt : LT K tt wt]
    [li1 : LI K wi1 ws1] [lk1 : LGk g1 is1] [m21 : Mono2 g1] [lg1 : LG K g1 wg1] [lt1 : LT K tt1 wt1] [le : LE K te we] : LEo K (tLc2 wi g tt wi1 g1 tt1 te vs vs1) (fun Γ s Q => wLc2 ws is wg wt ws1 is1 wg1 wt1 we vs vs1 Γ s fun d s1 => asL d fun ds => Q (.lst ds) s1) := ⟨fun {F s H σ Γ Q Q0} a h k => by
  unfold wLc2 at h
  cases hs0 : (subN is vs && subN is1 vs1) with
  | false => rw [hs0] at h; exact h.elim
  | true =>
    rw [hs0] at h
    rw [Bool.and_eq_true] at hs0
    obtain ⟨hs, hs1⟩ := hs0
    refine li.go a h fun src H1 s1 J t1 ok1 wd h1 => ?_
    obtain ⟨Inv, i0, step, fin⟩ := h1.out
    obtain ⟨G, Y, W, hG, hY⟩ := wd.w
    intro D0 hD
    obtain ⟨okh, exh⟩ := ok1.hide (o := .lst []) hD
    have hFD : F D0 = false := by
      cases e : F D0 with
      | false => rfl
      | true => exact absurd hD (ok1.fr D0 e)
    have hFD0 : hidA F D0 D0 = true := by unfold hidA; simp
    have fr0 : ∀ b, F b = true → hidA F D0 b = true := fun b hb => by unfold hidA; rw [hb]; rfl
    -- what holds with so much gathered
    let Pg : (List D → S → Prop) → Hp → Prop := fun P H' => ∃ acc s' us, Ex (vis F s1 H1) (vis (hidA F D0) s' H') ∧ (∀ b, F b = true → H' b = H1 b) ∧ s'.pn = s1.pn ∧ OkS K (hidA F D0) s' H' ∧ H' D0 = some (.lst us) ∧ RepL K (vis (hidA F D0) s' H') us acc ∧ P acc s'
    refine ⟨fun i m H' => m = src.n - i ∧ i ≤ src.n ∧ Pg (Inv i) H', ⟨src.n, by simp, Nat.zero_le _, [], s1, [], exh, fun b hb => upd_ne fun z => (by rw [z, hFD] at hb; cases hb), rfl, okh, upd_same, .nil, i0⟩, ?_⟩
    rintro i m H' ⟨rfl, hi, acc, s', us, e1, e2, e3, ok, e4, e5, inv⟩
    have hGq := hG _ s' H' e1 ok
    by_cases hlt : i < src.n
    · refine .inr ⟨W.goes i H' hlt hGq, Pg (Inv (i + 1)), fun H2 p' => ⟨src.n - (i + 1), by omega, rfl, hlt, p'⟩, fun x H2 y => ?_⟩
      obtain ⟨d, hd, t2, ok2, r2, keep⟩ := hY _ i s' H' x H2 hlt e1 ok (W.yields i H' x H2 hlt hGq y)
      have g2 : RepG K (vis (hidA F D0) s' H2) (wipe σ vs) (wipeG Γ vs) := ((a.g.mono t1.ex).mono (e1.trans t2.ex)).wipe
      have q := lg.go ⟨g2, ok2⟩ r2 (step i d acc s' hlt hd inv) fun σ3 H3 Γ3 s3 t3 a3 h3 => (⟨Γ3, s3, t3, a3, h3⟩ : ∃ Γ3 s3, Tr (hidA F D0) s' H2 s3 H3 ∧ At K (hidA F D0) s3 H3 σ3 Γ3 ∧ wt Γ3 s3 fun b s3 => Br b (ws1 Γ3 s3 fun src1 s4 => Lc2In wg1 wt1 we vs1 Γ3 acc src1 s4 (Inv (i + 1))) (Inv (i + 1) acc s3))
      refine m2.go (fun σ3 H3 ⟨kp, Γ3, s3, t3, a3, h3⟩ => ⟨(wipe_eq kp.1 (fun j hj => kp.2 j fun z => hj (subN_mem hs j z))).trans (wipe_eq (wipe_length σ vs) (fun j hj => by rw [wipe_get, if_neg fun z => hj z.1])), ?_⟩) (lk.go q)
      refine lt.go a3 h3 fun b H4 s4 t4 ok4 h4 => h4.ite (fun _ h5 => ?_) (fun _ h5 => ?_)
      · have a4 : At K (hidA F D0) s4 H4 σ3 Γ3 := a3.to t4 ok4
        refine li1.go a4 h5 fun src1 H5 s5 J1 t5 ok5 wd1 h6 => ?_
        obtain ⟨Inv1, j0, step1, fin1⟩ := h6.out
        obtain ⟨G1, Y1, W1, hG1, hY1⟩ := wd1.w
        have tt := ((t2.trans t3).trans t4).trans t5
        have a5 : At K (hidA F D0) s5 H5 σ3 Γ3 := a4.to t5 ok5
        let P1 : (List D → S → Prop) → Hp → Prop := fun P H' => ∃ acc s' us, Ex (vis (hidA F D0) s5 H5) (vis (hidA F D0) s' H') ∧ (∀ b, F b = true → H' b = H1 b) ∧ s'.pn = s1.pn ∧ OkS K (hidA F D0) s' H' ∧ H' D0 = some (.lst us) ∧ RepL K (vis (hidA F D0) s' H') us acc ∧ P acc s'
        have up : ∀ P H', P1 P H' → Pg P H' := fun P H' ⟨acc, s', us, b1, b2, b3, b4, b5, b6, b7⟩ => ⟨acc, s', us, (e1.trans tt.ex).trans b1, b2, b3, b4, b5, b6, b7⟩
        refine ⟨fun j k H' => k = src1.n - j ∧ j ≤ src1.n ∧ P1 (Inv1 j) H', ⟨src1.n, by simp, Nat.zero_le _, acc, s5, us, Ex.refl _, fun b hb => by rw [tt.fr b (fr0 b hb), e2 b hb], tt.pn.trans e3, ok5, by rw [tt.fr D0 hFD0, e4], e5.mono tt.ex, j0⟩, ?_⟩
        rintro j k H6 ⟨rfl, hj, acc1, s6, us1, b1, b2, b3, b4, b5, b6, inv1⟩
        have hG1q := hG1 _ s6 H6 b1 b4
        by_cases hlt1 : j < src1.n
        · refine .inr ⟨W1.goes j H6 hlt1 hG1q, P1 (Inv1 (j + 1)), fun H2 p' => ⟨src1.n - (j + 1), by omega, rfl, hlt1, p'⟩, fun x1 H7 y1 => ?_⟩
          obtain ⟨d1, hd1, t7, ok7, r7, keep7⟩ := hY1 _ j s6 H6 x1 H7 hlt1 b1 b4 (W1.yields j H6 x1 H7 hlt1 hG1q y1)
          have g7 : RepG K (vis (hidA F D0) s6 H7) (wipe σ3 vs1) (wipeG Γ3 vs1) := (a5.g.mono (b1.trans t7.ex)).wipe
          have q1 := lg1.go ⟨g7, ok7⟩ r7 (step1 j d1 acc1 s6 hlt1 hd1 inv1) fun σ8 H8 Γ8 s8 t8 a8 h8 => (⟨Γ8, s8, t8, a8, h8⟩ : ∃ Γ8 s8, Tr (hidA F D0) s6 H7 s8 H8 ∧ At K (hidA F D0) s8 H8 σ8 Γ8 ∧ wt1 Γ8 s8 fun b s9 => Br b (we Γ8 s9 fun y s10 => escP s10 y fun y' s11 => acc1.length < sizeLine ∧ Inv1 (j + 1) (acc1 ++ [y']) s11) (Inv1 (j + 1) acc1 s9))
          refine m21.go (fun σ8 H8 ⟨kp, Γ8, s8, t8, a8, h8⟩ => ⟨(wipe_eq kp.1 (fun j hj => kp.2 j fun z => hj (subN_mem hs1 j z))).trans (wipe_eq (wipe_length σ3 vs1) (fun j hj => by rw [wipe_get, if_neg fun z => hj z.1])), ?_⟩) (lk1.go q1)
          refine lt1.go a8 h8 fun b H9 s9 t9 ok9 h9 => h9.ite (fun _ h10 => ?_) (fun _ h10 => ?_)
          · refine le.go (a8.to t9 ok9) h10 fun v H10 dv s10 t10 ok10 r10 h11 => ?_
            obtain ⟨y', s11, ⟨hl, h12⟩, ok11, t11, r11⟩ := esc ok10 r10 h11
            have t0 := ((t7.trans t8).trans (t9.trans t10)).trans t11
            have hD10 : H10 D0 = some (.lst us1) := by rw [t0.fr D0 hFD0, b5]
            obtain ⟨ok12, hv⟩ := ok11.hupd (o := .lst (us1 ++ [v]))
            refine ⟨us1, hD10, by rw [b6.len]; exact hl, acc1 ++ [y'], s11, us1 ++ [v], by rw [hv]; exact b1.trans t0.ex, fun b hb => ?_, t0.pn.trans b3, ok12, upd_same, ?_, h12⟩
            · rw [upd_ne fun z => (by rw [z, hFD] at hb; cases hb), t0.fr b (fr0 b hb), b2 b hb]
            · rw [hv]
              exact (b6.mono t0.ex).app (.cons r11 .nil)
          · have t0 := (t7.trans t8).trans t9
            exact ⟨acc1, s9, us1, b1.trans t0.ex, fun b hb => by rw [t0.fr b (fr0 b hb), b2 b hb], t0.pn.trans b3, ok9, by rw [t0.fr D0 hFD0, b5], b6.mono t0.ex, h10⟩
        · have e : j = src1.n := by omega
          subst e
          exact .inl ⟨W1.stops H6 hG1q, up _ _ ⟨acc1, s6, us1, b1, b2, b3, b4, b5, b6, fin1 acc1 s6 inv1⟩⟩
      · have tt := (t2.trans t3).trans t4
        exact ⟨acc, s4, us, e1.trans tt.ex, fun b hb => by rw [tt.fr b (fr0 b hb), e2 b hb], tt.pn.trans e3, ok4, by rw [tt.fr D0 hFD0, e4], e5.mono tt.ex, h5⟩
    · have e : i = src.n := by omega
      subst e
      refine .inl ⟨W.stops H' hGq, ?_⟩
      obtain ⟨hl, hq⟩ := fin acc s' inv
      exact k D0 H' (.lst acc) s' hFD ok (t1.ex.trans e1) (fun b hb => (e2 b hb).trans (t1.fr b hb)) (e3.trans t1.pn) ⟨us, e4, e5, hl⟩ hq⟩
end
end Da

/-! Readings over data: the law itself, from behind its first statement on (own). -/
namespace Da
open PySem PySem.Spec PyProof.Rows L2 Evl Hd
def lawE : DE := ⟨fun _ _ => False, fun d _ => d = .bl true, fun _ _ => False, fun _ _ => False⟩
def lawG (ks : List Int) (p : Addr) (n : Nat) : Ga := some (.lck ks) :: some (.val (.ref p)) :: List.replicate n none
def lawS (a p : Addr) (n : Nat) : L2.St := some (.ref a) :: some (.ref p) :: List.replicate n none
theorem law_rest {K : PySem.W.Frag} {t : TS} {w : WS} [l : LS K t w] {p q a : Addr} {n : Nat} {ks : List Int} {H : Hp} {Q : VK} (hp : Pen H p q 0) (hs : SqL K (hid [p, q] H) a (ks.map V.int))
    (hw : w lawE (lawG ks p n) (st0 0 (some (p, q)))) (k : ∀ H', Q (.bl true) H') : t { nx := fun _ H' => Q .non H', rt := Q } (lawS a p n) H := by
  have ex : Ex (hid [p, q] H) (vis (fun _ => false) (st0 0 (some (p, q))) H) := fun b o e => by
    obtain ⟨h1, h2⟩ := hid_iff.mp e
    refine vis_iff.mpr ⟨?_, h2⟩
    unfold S.hid
    have h3 : b ≠ p := fun z => h1 (by rw [z]; exact List.mem_cons_self)
    have h4 : b ≠ q := fun z => h1 (by rw [z]; exact List.mem_cons_of_mem _ List.mem_cons_self)
    show (false || false || (b == p || b == q)) = false
    rw [beq_eq_false_iff_ne.mpr h3, beq_eq_false_iff_ne.mpr h4]
    rfl
  have ok : OkS K (fun _ => false) (st0 0 (some (p, q))) H := ⟨(fun e he => nomatch he), List.nodup_nil, fun p' q' e => by
    cases e
    exact ⟨⟨0, hp, Int.le_refl _⟩, (fun e he => nomatch he)⟩, (fun a ha => nomatch ha), (fun e he => nomatch he), fun p' q' e => ⟨rfl, rfl⟩⟩
  have g : RepG K (vis (fun _ => false) (st0 0 (some (p, q))) H) (lawS a p n) (lawG ks p n) := by
    refine ⟨by unfold lawS lawG; simp, fun i d h => ?_⟩
    match i, h with
    | 0, h =>
      cases h
      exact ⟨_, rfl, .lck (ex_l ex hs)⟩
    | 1, h =>
      cases h
      exact ⟨_, rfl, .val⟩
    | i + 2, h =>
      have h : look (List.replicate n none) i = some d := h
      rw [look_rep] at h
      cases h
  exact l.go ⟨g, ok⟩ hw ⟨fun _ _ _ _ _ _ q => q.elim, fun v H' d s' _ _ r q => by
    have q : d = .bl true := q
    subst q
    cases r
    exact k H', fun _ _ _ _ _ _ q => q.elim, fun _ _ _ _ _ _ q => q.elim⟩
theorem ex_hidN {S : List Addr} {H H' : Hp} (e : Ex H H') (h : ∀ b ∈ S, H b = none) : Ex H (hid S H') := fun b o he => hid_iff.mpr ⟨fun z => (by rw [h b z] at he; cases he), e _ _ he⟩
/-- the script's own copy, or [0]: the pen -/
theorem pen_nil {H : Hp} {l z p : Addr} (nl : H l = none) (nz : upd H l (.lst []) z = none) (np : upd (upd H l (.lst [])) z (.lst [.int 0]) p = none) {K : PySem.W.Frag} {a : Addr} {xs : List V} (ha : SqL K H a xs) :
    Pen (upd (upd (upd H l (.lst [])) z (.lst [.int 0])) p (.lst [.ref z, .int 0])) p z 0 ∧ SqL K (hid [p, z] (upd (upd (upd H l (.lst [])) z (.lst [.int 0])) p (.lst [.ref z, .int 0]))) a xs := by
  have e1 := (Ex.new (o := .lst []) nl).trans (Ex.new (o := .lst [.int 0]) nz)
  have e2 : Ex (upd (upd H l (.lst [])) z (.lst [.int 0])) (upd (upd (upd H l (.lst [])) z (.lst [.int 0])) p (.lst [.ref z, .int 0])) := Ex.new np
  refine ⟨⟨by omega, [0], upd_same, e2 _ _ upd_same, by decide, by decide⟩, ex_l (ex_hidN (e1.trans e2) fun b hb => ?_) ha⟩
  rcases List.mem_cons.mp hb with rfl | hb
  · cases h : H b with
    | none => rfl
    | some o => rw [e1 _ _ h] at np; cases np
  · rw [List.mem_singleton.mp hb]
    cases h : H z with
    | none => rfl
    | some o => rw [Ex.new (o := .lst []) nl _ _ h] at nz; cases nz
theorem pen_cons {H : Hp} {l p : Addr} {ns : List Int} (hn : ns ≠ []) (hl : ns.length ≤ 100) (nl : H l = none) (np : upd H l (.lst (ns.map V.int)) p = none) {K : PySem.W.Frag} {a : Addr} {xs : List V} (ha : SqL K H a xs) :
    Pen (upd (upd H l (.lst (ns.map V.int))) p (.lst [.ref l, .int 0])) p l 0 ∧ SqL K (hid [p, l] (upd (upd H l (.lst (ns.map V.int))) p (.lst [.ref l, .int 0]))) a xs := by
  have e1 : Ex H (upd H l (.lst (ns.map V.int))) := Ex.new nl
  have e2 : Ex (upd H l (.lst (ns.map V.int))) (upd (upd H l (.lst (ns.map V.int))) p (.lst [.ref l, .int 0])) := Ex.new np
  refine ⟨⟨by omega, ns, upd_same, e2 _ _ upd_same, hn, hl⟩, ex_l (ex_hidN (e1.trans e2) fun b hb => ?_) ha⟩
  rcases List.mem_cons.mp hb with rfl | hb
  · cases h : H b with
    | none => rfl
    | some o => rw [e1 _ _ h] at np; cases np
  · rw [List.mem_singleton.mp hb]
    exact nl
def spLaw (K : PySem.W.Frag) : Sp := fun vs H Q _ => ∃ (a : Addr) (ns : List Int), vs = [.ref a] ∧ SqL K H a (ns.map V.int) ∧ ns.length ≤ 63 ∧ ∀ H', Q (.bl true) H'
end Da

/-! Readings over data: defs that return an object which the caller may change (own). -/
namespace Da
open PySem PySem.Spec PyProof.Rows L2 Evl Hd
abbrev DSpO := Option (Addr × Addr) → List D → Nat → (MO → Nat → Prop) → XD → Prop
def upSpO (K : PySem.W.Frag) (dsp : DSpO) : Sp := fun vs H Q E => ∃ (F : Fr) (args : List D) (pn : Option (Addr × Addr)) (n : Nat) (Qd : MO → Nat → Prop) (Xd : XD), RepL K (vis F (st0 n pn) H) vs args ∧ OkS K F (st0 n pn) H ∧ dsp pn args n Qd Xd ∧
  (∀ p H' m n', F p = false → OkS K (hidA F p) (st0 n' pn) H' → Ex (vis F (st0 n pn) H) (vis (hidA F p) (st0 n' pn) H') → (∀ b, F b = true → H' b = H b) → RepO K (vis (hidA F p) (st0 n' pn) H') H' p m → Qd m n' → Q (.ref p) H') ∧
  ∀ C dx e H' n', Tr F (st0 n pn) H (st0 n' pn) H' → OkS K F (st0 n' pn) H' → XRep K (vis F (st0 n' pn) H') H' dx e → Xd C e n' → E (.ref C) dx H'
section
variable {K : PySem.W.Frag} {F : Fr} {s : S} {H H' : Hp}
theorem hid_callA {p : Addr} {n : Nat} : vis (hidA (hidF F s) p) (st0 n s.pn) H = vis (hidA F p) (s.at n) H := by
  funext a
  unfold vis
  have : (st0 n s.pn).hid (hidA (hidF F s) p) a = (s.at n).hid (hidA F p) a := by
    unfold S.hid hidA hidF
    show (F a || s.hidM a || a == p || false || (st0 n s.pn).hidP a) = (F a || a == p || s.hidM a || (s.at n).hidP a)
    have e : (st0 n s.pn).hidP a = (s.at n).hidP a := rfl
    rw [e]
    cases F a <;> cases s.hidM a <;> cases (a == p) <;> cases (s.at n).hidP a <;> rfl
  rw [this]
theorem call_outO (ok : OkS K F s H) {p : Addr} {n' : Nat} (hp : hidF F s p = false) (ok' : OkS K (hidA (hidF F s) p) (st0 n' s.pn) H') (ex0 : Ex (vis (hidF F s) (st0 s.n s.pn) H) (vis (hidA (hidF F s) p) (st0 n' s.pn) H')) (fr : ∀ b, hidF F s b = true → H' b = H b) : F p = false ∧ OkS K (hidA F p) (s.at n') H' ∧ Ex (vis F s H) (vis (hidA F p) (s.at n') H') := by
  have ex : Ex (vis F s H) (vis (hidA F p) (s.at n') H') := by
    rw [vis_call, hid_callA] at ex0
    exact ex0
  have hF : F p = false := by
    unfold hidF at hp
    rw [Bool.or_eq_false_iff] at hp
    exact hp.1
  have hpp : hidA F p p = true := by unfold hidA; simp
  have same : ∀ e ∈ s.M, H' e.a = H e.a ∧ e.a ≠ p := fun e he => by
    cases hf : e.fz with
    | false =>
      have hm : s.hidM e.a = true := by
        unfold S.hidM
        exact List.any_eq_true.mpr ⟨e, he, by rw [hf]; simp⟩
      have hh : hidF F s e.a = true := by unfold hidF; rw [hm, Bool.or_true]
      exact ⟨fr e.a hh, fun z => by rw [z, hp] at hh; cases hh⟩
    | true =>
      have h1 := ent_seen ok he hf
      cases hh : H e.a with
      | none => exact absurd hh (ok.ents e he).some
      | some o =>
        obtain ⟨g1, g2⟩ := vis_iff.mp (ex _ _ (vis_iff.mpr ⟨h1, hh⟩))
        refine ⟨g2, fun z => ?_⟩
        unfold S.hid at g1
        rw [z, hpp] at g1
        cases g1
  refine ⟨hF, ⟨fun e he => (ok.ents e he).mono ex (same e he).1, ok.nd, fun a b e => ⟨(ok'.pen a b e).1, (ok.pen a b e).2⟩, fun a ha => ok'.fr a ?_, fun e he => ?_, fun a b e => ?_⟩, ex⟩
  · unfold hidA at ha ⊢
    unfold hidF
    rw [Bool.or_eq_true] at ha
    rcases ha with ha | ha
    · rw [ha]; rfl
    · rw [ha, Bool.or_true]
  · unfold hidA
    rw [ok.frM e he, Bool.false_or]
    exact beq_eq_false_iff_ne.mpr (same e he).2
  · obtain ⟨h1, h2⟩ := ok'.frP a b e
    unfold hidA hidF at h1 h2
    unfold hidA
    simp only [Bool.or_eq_false_iff] at h1 h2 ⊢
    exact ⟨⟨h1.1.1, h1.2⟩, ⟨h2.1.1, h2.2⟩⟩
/-- a call of such a def -/
theorem call_dataO {dsp : DSpO} {vs : List V} {args : List D} (ok : OkS K F s H) (r : RepL K (vis F s H) vs args) {Qd : MO → Nat → Prop} (h : dsp s.pn args s.n Qd XF) {Q : VK} {E : XK}
    (hq : KM K F s H (fun m s' => ∃ n', s' = s.at n' ∧ Qd m n') Q) : upSpO K dsp vs H Q E := by
  refine ⟨hidF F s, args, s.pn, s.n, Qd, XF, by rw [vis_call]; exact r, ok_call ok, h, fun p H' m n' hp ok' ex fr r' q => ?_, fun _ _ _ _ _ _ _ _ q => q.elim⟩
  obtain ⟨o1, o2, o3⟩ := call_outO ok hp ok' ex fr
  rw [hid_callA] at r'
  exact hq p H' m _ o1 o2 o3 (fun b hb => fr b (by unfold hidF; rw [hb]; rfl)) rfl r' ⟨n', rfl, q⟩
def woCall (dsp : DSpO) (dds : List D) (wa : WA) : WM := fun Γ s Q => wa Γ s fun ds s1 => escA s1 ds fun ds' s2 => dsp s2.pn (ds' ++ dds) s2.n (fun m n' => Q m (s2.at n')) XF
instance {dsp : DSpO} {dvs : List V} {dds : List D} {E : XK} {ta : TA} {wa : WA} [df : Dflt K dvs dds] [l : LA K ta wa] : LEo K (tCall (upSpO K dsp) dvs E ta) (woCall dsp dds wa) := ⟨fun {F s H σ Γ Q Q0} a h k => l.go a h fun vs H1 ds s1 t1 ok1 r1 h1 => by
  obtain ⟨ds', s2, h2, ok2, t2, r2⟩ := escs ok1 r1 h1
  refine call_dataO ok2 (r2.app (df.rep _)) h2 (fun p H' m s' h1 h2 h3 h4 h5 h6 ⟨n', e, q⟩ => ?_)
  subst e
  exact (k.to (t1.trans t2)) p H' m _ h1 h2 h3 h4 h5 h6 q⟩
def woMeth (C : Addr) (m : Str) (dsp : DSpO) (dds : List D) (w : WE) (wa : WA) : WM := fun Γ s Q => w Γ s fun x s1 => escP s1 x fun x' s2 => asObj C x' fun fs => lookF fs m = none ∧ wa Γ s2 fun ds s3 => escA s3 ds fun ds' s4 =>
  dsp s4.pn (x' :: (ds' ++ dds)) s4.n (fun m n' => Q m (s4.at n')) XF
instance {C : Addr} {m : Str} {dsp : DSpO} {dvs : List V} {dds : List D} {E : XK} {te : TE} {w : WE} {ta : TA} {wa : WA} [df : Dflt K dvs dds] [le : LE K te w] [l : LA K ta wa] : LEo K (tMeth C m (upSpO K dsp) dvs E te ta) (woMeth C m dsp dds w wa) := ⟨fun {F s H σ Γ Q Q0} a h k => le.go a h fun v H1 d s1 t1 ok1 r1 h1 => by
  obtain ⟨x', s2, h2, ok2, t2, r2⟩ := esc ok1 r1 h1
  cases x' with
  | obj C' gs =>
    obtain ⟨rfl, h3, h4⟩ := h2
    cases r2 with
    | @obj b _ dx fs _ g1 g2 =>
      refine ⟨b, dx, fs, rfl, vis_ex _ _ g1, g2.look_none (lookF_eq.trans h3), l.go (a.to (t1.trans t2) ok2) h4 fun vs H3 ds s3 t3 ok3 r3 h5 => ?_⟩
      obtain ⟨ds', s4, h6, ok4, t4, r4⟩ := escs ok3 r3 h5
      refine call_dataO ok4 (.cons (.obj ((t3.trans t4).ex _ _ g1) (g2.mono (t3.trans t4).ex)) (r4.app (df.rep _))) h6 (fun p H' m s' h1 h2 h3 h4 h5 h6 ⟨n', e, q⟩ => ?_)
      subst e
      exact (k.to (((t1.trans t2).trans t3).trans t4)) p H' m _ h1 h2 h3 h4 h5 h6 q
  | _ => exact h2.elim⟩
/-- its object is only looked at: seen from now on -/
theorem KM.see {Q : MO → S → Prop} {Q0 : VK} {Qe : QD} (k : KE K F s H Qe Q0) (hq : ∀ m s', Q m s' → Qe (viewM m) s') : KM K F s H Q Q0 := fun p H' m s' hF ok ex fr pn r q => by
  obtain ⟨ok8, ex8⟩ := ok.unhide
  have hv : vis F s' H' p = H' p := by
    cases e : H' p with
    | none => exact absurd e r.some
    | some o => exact unhide_at ok e hF
  exact k (.ref p) H' (viewM m) s' ⟨ex.trans ex8, fr, pn⟩ ok8 ((r.mono ex8 rfl).r hv) (hq m s' q)
instance (priority := 50) {te : TE} {wo : WM} [l : LEo K te wo] : LE K te (fun Γ s Q => wo Γ s fun m s1 => Q (viewM m) s1) := ⟨fun {F s H σ Γ Q Q0} a h k => l.go a h (KM.see k fun _ _ q => q)⟩
/-- what is returned stays one's own -/
def tRetO (te : TE) : TS := tRet te
theorem ps_retO {X : Cx} {st : Stmt} {te : TE} (p : PS X st (tRet te)) : PS X st (tRetO te) := p
def wRetO (w : WE) : WS := fun e Γ s => w Γ s fun d s1 => e.rt d s1
instance {te : TE} {w : WE} [l : LE K te w] : LS K (tRetO te) (wRetO w) := ⟨fun {F s H σ Γ e D0} a h k => l.go a h fun v H1 d s1 t1 ok1 r1 h1 => k.rt v H1 d s1 t1 ok1 r1 h1⟩
def deOfO (Q : MO → Nat → Prop) : DE := ⟨fun _ _ => False, fun d s => mutP s d fun _ m => Q m s.n, fun _ _ => False, fun _ _ => False⟩
theorem own_hid {a : Addr} {h : Nat} {m : MO} {n : Nat} {pn : Option (Addr × Addr)} (ok : OkS K F ⟨[⟨h, a, m, false⟩], n, pn⟩ H) : F a = false ∧ OkS K (hidA F a) (st0 n pn) H ∧ vis (hidA F a) (st0 n pn) H = vis F ⟨[⟨h, a, m, false⟩], n, pn⟩ H := by
  have hv : vis (hidA F a) (st0 n pn) H = vis F ⟨[⟨h, a, m, false⟩], n, pn⟩ H := by
    funext b
    unfold vis
    have : (st0 n pn).hid (hidA F a) b = (⟨[⟨h, a, m, false⟩], n, pn⟩ : S).hid F b := by
      unfold S.hid hidA
      show (F b || b == a || false || (st0 n pn).hidP b) = (F b || ((!false && a == b) || false) || (st0 n pn).hidP b)
      have e : (a == b) = (b == a) := by
        by_cases z : a = b
        · subst z; rfl
        · rw [beq_eq_false_iff_ne.mpr z, beq_eq_false_iff_ne.mpr (Ne.symm z)]
      rw [e]
      cases F b <;> cases (b == a) <;> cases (st0 n pn).hidP b <;> rfl
    rw [this]
  have hm : (⟨h, a, m, false⟩ : Ent) ∈ (⟨[⟨h, a, m, false⟩], n, pn⟩ : S).M := List.mem_cons_self
  have hF : F a = false := ok.frM _ hm
  refine ⟨hF, ⟨(fun e he => nomatch he), List.nodup_nil, fun p q e => ⟨(ok.pen p q e).1, (fun e he => nomatch he)⟩, fun b hb => ?_, (fun e he => nomatch he), fun p q e => ?_⟩, hv⟩
  · unfold hidA at hb
    rw [Bool.or_eq_true, beq_iff_eq] at hb
    rcases hb with hb | rfl
    · exact ok.fr b hb
    · exact (ok.ents _ hm).some
  · obtain ⟨h1, h2⟩ := ok.frP p q e
    obtain ⟨h3, h4⟩ := (ok.pen p q e).2 _ hm
    unfold hidA
    rw [h1, h2]
    exact ⟨by simpa using Ne.symm h3, by simpa using Ne.symm h4⟩
theorem go_upO {dsp : DSpO} {N : List Str} {t : TS} {w : WS} {vs : List V} {Q : VK} {E : XK} (h : upSpO K dsp vs H Q E) [l : LS K t w] (hw : ∀ pn args n Qd Xd, dsp pn args n Qd Xd → w (deOfO Qd) (startG N args) (st0 n pn)) : t { nx := fun _ H' => Q .non H', rt := Q } (L2.start N vs) H := by
  obtain ⟨F, args, pn, n, Qd, Xd, r, ok, h, k, _⟩ := h
  refine l.go (σ := L2.start N vs) ⟨start_rep r, ok⟩ (hw pn args n Qd Xd h) ⟨fun _ _ _ _ _ _ q => q.elim, fun v H' d s' t ok' r' q => ?_, fun _ _ _ _ _ _ q => q.elim, fun _ _ _ _ _ _ q => q.elim⟩
  have q : mutP s' d fun _ m => Qd m s'.n := q
  obtain ⟨m, e, q1, q2, rfl, q4, rfl⟩ := mutP_of r' q
  obtain ⟨hm1, hm2⟩ := mget_mem q1
  obtain ⟨eh, ea, eo, ef⟩ := e
  simp only at hm2 q2 q4
  subst hm2 q2
  have hless := ok'.less (s' := ⟨[⟨eh, ea, eo, false⟩], s'.n, pn⟩) (fun e he => ⟨e, by rw [List.mem_singleton.mp he]; exact hm1, rfl, rfl, id⟩) (by simp) t.pn.symm (Nat.le_refl _)
  obtain ⟨g1, g2, g3⟩ := own_hid hless.1
  refine k ea H' eo s'.n g1 g2 ?_ (fun b hb => t.fr b hb) ?_ q4
  · rw [g3]
    exact (t.trans hless.2).ex
  · rw [g3]
    exact hless.1.ents _ List.mem_cons_self
end
abbrev RO1 := Option (Addr × Addr) → D → Nat → (MO → Nat → Prop) → XD → Prop
abbrev RO2 := Option (Addr × Addr) → D → D → Nat → (MO → Nat → Prop) → XD → Prop
def so1 (f : RO1) : DSpO := fun pn args n Q X => match args with
  | [a] => f pn a n Q X
  | _ => False
def so2 (f : RO2) : DSpO := fun pn args n Q X => match args with
  | [a, b] => f pn a b n Q X
  | _ => False
theorem so1_of {f : RO1} {pn : Option (Addr × Addr)} {args : List D} {n : Nat} {Q : MO → Nat → Prop} {X : XD} (h : so1 f pn args n Q X) : ∃ a, args = [a] ∧ f pn a n Q X := by
  unfold so1 at h
  split at h
  · exact ⟨_, rfl, h⟩
  · exact h.elim
theorem so2_of {f : RO2} {pn : Option (Addr × Addr)} {args : List D} {n : Nat} {Q : MO → Nat → Prop} {X : XD} (h : so2 f pn args n Q X) : ∃ a b, args = [a, b] ∧ f pn a b n Q X := by
  unfold so2 at h
  split at h
  · exact ⟨_, _, rfl, h⟩
  · exact h.elim
section
variable {K : PySem.W.Frag} {H : Hp} {N : List Str} {t : TS} {w : WS} {vs : List V} {Q : VK} {E : XK}
theorem upO_len1 {f : RO1} (h : upSpO K (so1 f) vs H Q E) : vs.length = 1 := by
  obtain ⟨F, args, pn, n, Qd, Xd, r, _, h, _⟩ := h
  obtain ⟨a, rfl, _⟩ := so1_of h
  rw [r.len]; rfl
theorem upO_len2 {f : RO2} (h : upSpO K (so2 f) vs H Q E) : vs.length = 2 := by
  obtain ⟨F, args, pn, n, Qd, Xd, r, _, h, _⟩ := h
  obtain ⟨a, b, rfl, _⟩ := so2_of h
  rw [r.len]; rfl
theorem go_upO1 {f : RO1} (h : upSpO K (so1 f) vs H Q E) [l : LS K t w] (hw : ∀ pn a n Qd Xd, f pn a n Qd Xd → w (deOfO Qd) (startG N [a]) (st0 n pn)) : t { nx := fun _ H' => Q .non H', rt := Q } (L2.start N vs) H :=
  go_upO h fun pn args n Qd Xd q => by obtain ⟨a, rfl, q⟩ := so1_of q; exact hw pn a n Qd Xd q
theorem go_upO2 {f : RO2} (h : upSpO K (so2 f) vs H Q E) [l : LS K t w] (hw : ∀ pn a b n Qd Xd, f pn a b n Qd Xd → w (deOfO Qd) (startG N [a, b]) (st0 n pn)) : t { nx := fun _ H' => Q .non H', rt := Q } (L2.start N vs) H :=
  go_upO h fun pn args n Qd Xd q => by obtain ⟨a, b, rfl, q⟩ := so2_of q; exact hw pn a b n Qd Xd q
end
end Da

namespace Lw
open PySem L2
open Evl Da
local macro_rules
  | `(tactic| walk_at "f") => `(tactic| first | exact lookF_put | exact lookF_hit | exact (lookF_skip (by decide +kernel) lookF_hit) | exact (lookF_skip (by decide +kernel) (lookF_skip (by decide +kernel) lookF_hit)) | exact (lookF_skip (by decide +kernel) (lookF_skip (by decide +kernel) (lookF_skip (by decide +kernel) lookF_hit))) | exact (lookF_skip (by decide +kernel) (lookF_skip (by decide +kernel) (lookF_skip (by decide +kernel) (lookF_skip (by decide +kernel) lookF_hit)))) | exact (lookF_skip (by decide +kernel) (lookF_skip (by decide +kernel) (lookF_skip (by decide +kernel) (lookF_skip (by decide +kernel) (lookF_skip (by decide +kernel) lookF_hit))))) | exact (lookF_skip (by decide +kernel) (lookF_skip (by decide +kernel) (lookF_skip (by decide +kernel) (lookF_skip (by decide +kernel) (lookF_skip (by decide +kernel) (lookF_skip (by decide +kernel) lookF_hit)))))) | ((refine lookF_other (by decide +kernel) ?_); walk_at "f") | ((refine lookF_skip (by decide +kernel) ?_); walk_at "f"))
  | `(tactic| walk_at "fl") => `(tactic| first | exact Nat.zero_lt_succ _ | ((refine putFD_lt ?_); walk_at "fl"))
  | `(tactic| walk_at "a") => `(tactic| first | exact le1000 (Nat.le_of_ble_eq_true rfl) | exact rfl | decide +kernel | exact And.intro (by with_reducible assumption) (by with_reducible assumption) | exact And.intro (And.intro (by with_reducible assumption) (by with_reducible assumption)) (by walk_at "fl"))
  | `(tactic| walk_at "w") => `(tactic| ((conv => whnf); repeat ((first | ((with_reducible refine And.intro ?_ ?_); (focus (walk_at "a"))) | ((with_reducible refine Br.yes ?_ ?_); (focus (first | exact rfl | decide +kernel))) | ((with_reducible refine Br.no ?_ ?_); (focus (first | exact rfl | decide +kernel))) | ((with_reducible refine ex_fld ?_); (refine fld_w (by walk_at "f") ?_)) | ((with_reducible refine ex_at ?_); (refine at_w rfl ?_))); (conv => whnf))))
  | `(tactic| walk_at "n") => `(tactic| ((try dsimp only [st0, st1, S.at, S.drop, S.own, S.put, S.frz, Src.n] at *); omega))
  | `(tactic| walk_at "draw") => `(tactic| ((try walk_at "w"); (refine i_draw ⟨by walk_at "n", by walk_at "n", by walk_at "n"⟩ ?_)))
open Jn (Rn joinR expand)
theorem of_dec2 {p : Prop} {ip : Decidable p} (h : decide p = true) : p := of_decide_eq_true h
theorem exp_cons {r : Rn} {rs : List Rn} : expand (r :: rs) = List.replicate r.1.toNat r.2 ++ expand rs := rfl
theorem exp_mem {r : Rn} : ∀ {rs : List Rn}, r ∈ rs → 1 ≤ r.1 → r.2 ∈ expand rs
  | x :: l, h, h1 => by
    rw [exp_cons, List.mem_append]
    rcases List.mem_cons.mp h with rfl | h
    · exact .inl (List.mem_replicate.mpr ⟨by omega, rfl⟩)
    · exact .inr (exp_mem h h1)
theorem exp_nn : ∀ {rs : List Rn}, (∀ r ∈ rs, 0 ≤ r.2) → ∀ z ∈ expand rs, 0 ≤ z
  | [], _, z, hz => nomatch hz
  | x :: l, h, z, hz => by
    rw [exp_cons, List.mem_append] at hz
    rcases hz with hz | hz
    · rw [(List.mem_replicate.mp hz).2]
      exact h x List.mem_cons_self
    · exact exp_nn (fun y hy => h y (List.mem_cons_of_mem _ hy)) z hz
theorem join_cells {ps : List Rn} (h : ∀ p ∈ ps, 0 ≤ p.1 ∧ 0 ≤ p.2) : ∀ r ∈ joinR ps, 0 ≤ r.2 := fun r hr => by
  obtain ⟨h1, h2⟩ := Jn.join_ok (fun p q => (h p q).1)
  have := exp_mem hr (h1 r hr)
  rw [h2] at this
  exact exp_nn (fun p q => (h p q).2) _ this
section
variable {P : Program} {w : World} {K : PySem.W.Frag} {mg : Str → Option Value} {base : Heap}
/-- the pieces of a part: of each run what lies inside -/
def pcsP (a b : Int) : Int → List Rn → List Rn
  | _, [] => []
  | be, r :: l => (max 0 (min (be + r.1) b - max be a), r.2) :: pcsP a b (be + r.1) l
theorem pcsP_snoc {a b : Int} {r : Rn} : ∀ {rs : List Rn} {be : Int}, pcsP a b be (rs ++ [r]) = pcsP a b be rs ++ [(max 0 (min (be + (rs.map (·.1)).sum + r.1) b - max (be + (rs.map (·.1)).sum) a), r.2)]
  | [], be => by
    show [_] = [_]
    rw [List.map_nil, List.sum_nil, Int.add_zero]
  | x :: l, be => by
    show _ :: pcsP a b (be + x.1) (l ++ [r]) = _ :: (pcsP a b (be + x.1) l ++ [_])
    rw [pcsP_snoc, List.map_cons, List.sum_cons, Int.add_assoc be x.1]
theorem rep_cut {n : Nat} {c : Int} {l : List Int} {a b : Nat} : ((List.replicate n c ++ l).take b).drop a = List.replicate (min n b - a) c ++ (l.take (b - n)).drop (a - n) := by
  rw [List.take_append, List.length_replicate, List.drop_append, List.take_replicate, List.drop_replicate, List.length_replicate, Nat.min_comm b n]
  by_cases h : n ≤ b
  · rw [Nat.min_eq_left h]
  · rw [show b - n = 0 by omega, List.take_zero, List.drop_nil, List.drop_nil]
theorem pcsP_ok {a b : Nat} : ∀ {rs : List Rn} {be : Nat}, (∀ r ∈ rs, 0 ≤ r.1) → expand (pcsP (a : Int) (b : Int) (be : Int) rs) = ((expand rs).take (b - be)).drop (a - be)
  | [], be, _ => by
    show ([] : List Int) = (([] : List Int).take _).drop _
    rw [List.take_nil, List.drop_nil]
  | r :: l, be, h => by
    have h1 := h r List.mem_cons_self
    have e : (be : Int) + r.1 = ((be + r.1.toNat : Nat) : Int) := by omega
    show expand ((max 0 (min ((be : Int) + r.1) b - max (be : Int) a), r.2) :: pcsP (a : Int) (b : Int) ((be : Int) + r.1) l) = _
    rw [exp_cons, exp_cons, e, pcsP_ok (fun x hx => h x (List.mem_cons_of_mem _ hx)), rep_cut]
    have e1 : (max (0 : Int) (min ((be + r.1.toNat : Nat) : Int) (b : Int) - max (be : Int) (a : Int))).toNat = min r.1.toNat (b - be) - (a - be) := by omega
    show List.replicate (max (0 : Int) (min ((be + r.1.toNat : Nat) : Int) (b : Int) - max (be : Int) (a : Int))).toNat r.2 ++ _ = _
    rw [e1, show b - (be + r.1.toNat) = b - be - r.1.toNat by omega, show a - (be + r.1.toNat) = a - be - r.1.toNat by omega]
theorem pcsP_pos {a b : Int} : ∀ {rs : List Rn} {be : Int}, (∀ r ∈ rs, 0 ≤ r.2) → ∀ p ∈ pcsP a b be rs, 0 ≤ p.1 ∧ 0 ≤ p.2
  | [], _, _, p, hp => nomatch hp
  | r :: l, be, h, p, hp => by
    rcases List.mem_cons.mp hp with rfl | hp
    · exact ⟨by show 0 ≤ max 0 _; omega, h r List.mem_cons_self⟩
    · exact pcsP_pos (fun x hx => h x (List.mem_cons_of_mem _ hx)) p hp
theorem pcsP_len {a b : Int} : ∀ {rs : List Rn} {be : Int}, (pcsP a b be rs).length = rs.length
  | [], _ => rfl
  | r :: l, be => congrArg (· + 1) pcsP_len
@[irreducible] def dPart (C : Addr) : R3 := fun _ a b c n Q _ => ∃ (rs : List Rn) (st so : Nat), a = rowG C rs ∧ b = .int (st : Int) ∧ c = .int (so : Int) ∧ RunsOk rs ∧ (∀ r ∈ rs, 0 ≤ r.2) ∧ st ≤ (expand rs).length ∧ so ≤ (expand rs).length ∧ Q (rowG C (joinR (pcsP (st : Int) (so : Int) 0 rs))) n
theorem ok_Row_part (T : Tx w K mg) : FnOk P w K mg base CX0 6 T.f_Row_part T.d_Row_part ["self", "start", "stop"] (Da.upSp K (sp3 (dPart T.c_Row))) := by
  refine T.F_Row_part.ok sc_Row_part (fun vs H Q E h => Da.up_len3 h) (fun cdv A outer s H vs Q E hr h => ?_)
  refine ⟨_, (pss_cons (ps_set (i := 3) sc_Row_part.nd rfl (Or.inl rfl) (pe_prop (pv 0) T.cl_Row T.h_Row_size (ok_Row_size T) (hr.mono (by decide)) T.b_Row_size .nil pass0 rfl))
      (pss_cons (ps_for PassesOwn.never rfl (Da.seqK (K := K) rfl (pe_tup (pa_cons (pv 1) (pa_cons (pv 2) pa_nil)))) (pg_name (i := 4) sc_Row_part.nd rfl (Or.inl rfl))
        (pss_one (ps_if (PW.pt (pw_or (pt_cmpR op_lt (pv 4) pe_int (nomark _)) (pw_or1 (pt_cmpR op_gt (pv 4) (pv 3) (nomark _)))))
          (pss_one ps_never)
          pss_nil)))
      (pss_cons (Da.ps_own 1 (ps_set (i := 5) sc_Row_part.nd rfl (Or.inl rfl) (pe_lst pa_nil)))
      (pss_cons (ps_set (i := 6) sc_Row_part.nd rfl (Or.inl rfl) pe_int)
      (pss_cons (ps_for PassesOwn.never rfl (Da.seqK (K := K) rfl (Da.fldK (K := K) rfl (pv 0) rfl)) (Da.gtupK (n := 2) (K := K) rfl (by rfl) (pgs_cons (pg_name (i := 7) sc_Row_part.nd rfl (Or.inl rfl)) (pgs_cons (pg_name (i := 8) sc_Row_part.nd rfl (Or.inl rfl)) pgs_nil)))
        (pss_cons (ps_set (i := 9) sc_Row_part.nd rfl (Or.inl rfl) (pe_op (Da.addK (K := K) rfl) (pv 6) (pv 7)))
        (pss_cons (ps_set (i := 10) sc_Row_part.nd rfl (Or.inl rfl) (pe_op op_sub (pe_callB (call_min2 rfl) (by rfl) T.z_min (by decide +kernel) (pa_cons (pv 9) (pa_cons (pv 2) pa_nil))) (pe_callB (call_max2 rfl) (by rfl) T.z_max (by decide +kernel) (pa_cons (pv 6) (pa_cons (pv 1) pa_nil)))))
        (pss_cons (ps_expr (Da.bmK (K := K) rfl PySem.F.plainAttrs_list PySem.F.slot_list_append PySem.F.type_list_append mt_append (pv 5) (pa_cons (pe_tup (pa_cons (pe_callB (call_max2 rfl) (by rfl) T.z_max (by decide +kernel) (pa_cons pe_int (pa_cons (pv 10) pa_nil))) (pa_cons (pv 8) pa_nil))) pa_nil)))
        (pss_one (ps_set (i := 6) sc_Row_part.nd rfl (Or.inl rfl) (pv 9)))))))
      (pss_one (ps_ret (Sm.pe_smeth (pe_glob (v := .ref T.c_Row) rfl T.m_Row rfl) T.h_Row_of_runs (ok_Row_of_runs T) (hr.mono (by decide)) T.b_Row_of_runs .nil pass0 (pa_cons (pv 5) pa_nil))))))))), Da.go_up3 h ?_⟩
  intro pn a b c n Q _ h
  unfold dPart at h
  obtain ⟨rs, st, so, rfl, rfl, rfl, ho, hc, l1, l2, h⟩ := h
  have c1 := T.cl_Row
  have c2 := T.n_Row_runs
  have hf := ho.few
  walk_at "w"
  refine i_size ho ?_
  walk_at "w"
  refine for_inv (fun i Γ s => ∃ u4 u5 u6 u7 u8 u9 u10 : Option D, Γ = [some (rowG T.c_Row rs), some (.int (st : Int)), some (.int (so : Int)), some (.int ((expand rs).length : Int)), u4, u5, u6, u7, u8, u9, u10] ∧ s = st0 n pn) ⟨_, _, _, _, _, _, _, rfl, rfl⟩ ?_ ?_
  · rintro i d _ _ hi hd ⟨u4, u5, u6, u7, u8, u9, u10, rfl, rfl⟩
    have hd := seq_at hd
    obtain ⟨x, rfl, x1⟩ : ∃ x : Nat, d = .int (x : Int) ∧ x ≤ (expand rs).length := by
      match i, hd with
      | 0, hd => cases hd; exact ⟨st, rfl, l1⟩
      | 1, hd => cases hd; exact ⟨so, rfl, l2⟩
      | i + 2, hd => cases hd
    walk_at "w"
    refine .n (by omega) ?_
    walk_at "w"
    exact ⟨_, _, _, _, _, _, _, rfl, rfl⟩
  rintro _ _ ⟨u4, u5, u6, u7, u8, u9, u10, rfl, rfl⟩
  unfold rowG
  walk_at "w"
  intro l
  walk_at "w"
  refine for_inv (fun i Γ s => ∃ (be : Int) (u4 u7 u8 u9 u10 : Option D), Γ = [some (rowG T.c_Row rs), some (.int (st : Int)), some (.int (so : Int)), some (.int ((expand rs).length : Int)), u4, some (.loc l 1), some (.int be), u7, u8, u9, u10] ∧ s = ⟨[⟨1, l, .lst ((pcsP (st : Int) (so : Int) 0 (rs.take i)).map runD), false⟩], n, pn⟩ ∧ be = ((rs.take i).map (·.1)).sum) ⟨0, _, _, _, _, _, rfl, rfl, rfl⟩ ?_ ?_
  · rintro i d _ _ hi hd ⟨be, u4, u7, u8, u9, u10, rfl, rfl, hbe⟩
    obtain ⟨r, hr, rfl⟩ := runs_at (seq_at hd)
    have hi2 := (List.getElem?_eq_some_iff.mp hr).1
    walk_at "w"
    refine ⟨small1000 (by rw [List.length_map, pcsP_len, List.length_take]; omega), ?_⟩
    walk_at "w"
    refine ⟨be + r.1, _, _, _, _, _, rfl, ?_, ?_⟩
    · rw [take_more hr, pcsP_snoc, List.map_append, ← hbe, Int.zero_add]
      rfl
    · rw [take_more hr, List.map_append, List.sum_append, ← hbe]
      show be + r.1 = be + (r.1 + 0)
      omega
  · rintro _ _ ⟨be, u4, u7, u8, u9, u10, rfl, rfl, hbe⟩
    rw [runs_n, List.take_length]
    walk_at "w"
    have hp := pcsP_pos (a := (st : Int)) (b := (so : Int)) (be := 0) hc
    have h0 : ∀ r ∈ rs, 0 ≤ r.1 := fun r hr => by have := ho.pos r hr; omega
    refine i_of_runs (ps := pcsP (st : Int) (so : Int) 0 rs) rfl hp (Nat.le_trans (Jn.join_len _) (by rw [pcsP_len]; exact hf)) (by rw [pcsP_len]; omega) ?_
    walk_at "w"
    exact h
theorem i_part {pn : Option (Addr × Addr)} {n : Nat} {Q : D → Nat → Prop} {X : XD} {C : Addr} {rs : List Rn} {st so : Nat} {b c : D} (eb : b = .int (st : Int)) (ec : c = .int (so : Int)) (ho : RunsOk rs) (hc : ∀ r ∈ rs, 0 ≤ r.2) (l1 : st ≤ (expand rs).length) (l2 : so ≤ (expand rs).length) (h : Q (rowG C (joinR (pcsP (st : Int) (so : Int) 0 rs))) n) : dPart C pn (rowG C rs) b c n Q X := by
  unfold dPart
  exact ⟨rs, st, so, rfl, eb, ec, ho, hc, l1, l2, h⟩
@[irreducible] def dAdd (C : Addr) : R2' := fun _ a b n Q _ => ∃ rs1 rs2 : List Rn, a = rowG C rs1 ∧ b = rowG C rs2 ∧ (∀ p ∈ rs1 ++ rs2, 0 ≤ p.1 ∧ 0 ≤ p.2) ∧ (rs1 ++ rs2).length ≤ 1000 ∧ Q (rowG C (joinR (rs1 ++ rs2))) n
theorem ok_Row___add (T : Tx w K mg) : FnOk P w K mg base CX0 6 T.f_Row___add T.d_Row___add ["self", "other"] (Da.upSp K (sp2 (dAdd T.c_Row))) := by
  refine T.F_Row___add.ok sc_Row___add (fun vs H Q E h => Da.up_len2 h) (fun cdv A outer s H vs Q E hr h => ?_)
  refine ⟨_, (pss_cons (ps_if (pt_not (pt_val (pe_callB (Da.isiK (K := K) rfl) (by rfl) T.z_isinstance (by decide +kernel) (pa_cons (pv 1) (pa_cons (pe_glob (v := .ref T.c_Row) rfl T.m_Row rfl) pa_nil)))))
        (pss_one ps_never)
        pss_nil)
      (pss_one (ps_ret (Sm.pe_smeth (pe_glob (v := .ref T.c_Row) rfl T.m_Row rfl) T.h_Row_of_runs (ok_Row_of_runs T) (hr.mono (by decide)) T.b_Row_of_runs .nil pass0 (pa_cons (pe_op (Da.addK (K := K) rfl) (Da.fldK (K := K) rfl (pv 0) rfl) (Da.fldK (K := K) rfl (pv 1) rfl)) pa_nil))))), Da.go_up2 h ?_⟩
  intro pn a b n Q _ h
  unfold dAdd at h
  obtain ⟨rs1, rs2, rfl, rfl, h1, h2, h⟩ := h
  have c1 := T.cl_Row
  have c2 := T.n_Row_runs
  unfold rowG
  walk_at "w"
  refine ⟨T.ob_Row, true, T.kit_Row_Row, ?_⟩
  walk_at "w"
  refine ⟨le1000 (by rw [List.length_map, List.length_map, ← List.length_append]; exact h2), ?_⟩
  walk_at "w"
  refine i_of_runsT (ps := rs1 ++ rs2) (by rw [List.map_append]) h1 (Nat.le_trans (Jn.join_len _) h2) (by omega) ?_
  walk_at "w"
  exact h
theorem i_add {pn : Option (Addr × Addr)} {n : Nat} {Q : D → Nat → Prop} {X : XD} {C : Addr} {rs1 rs2 : List Rn} (h1 : ∀ p ∈ rs1 ++ rs2, 0 ≤ p.1 ∧ 0 ≤ p.2) (h2 : (rs1 ++ rs2).length ≤ 1000) (h : Q (rowG C (joinR (rs1 ++ rs2))) n) : dAdd C pn (rowG C rs1) (rowG C rs2) n Q X := by
  unfold dAdd
  exact ⟨rs1, rs2, rfl, rfl, h1, h2, h⟩
theorem mulE {i j : Int} (hi : i.natAbs < 2 ^ 200) (hj : j.natAbs < 2 ^ 200) : CMulW i j := by
  have h1 : i.natAbs.log2 < 200 := log2_small hi (by decide)
  have h2 : j.natAbs.log2 < 200 := log2_small hj (by decide)
  show i.natAbs.log2 + j.natAbs.log2 < 1000000
  omega
theorem rep_exp {t : Nat} : ∀ {rs : List Rn}, expand (List.replicate t rs).flatten = (List.replicate t (expand rs)).flatten := by
  intro rs
  induction t with
  | zero => rfl
  | succ n ih => rw [List.replicate_succ, List.replicate_succ, List.flatten_cons, List.flatten_cons, Jn.expand_app, ih]
theorem one_exp {t : Nat} {r : Rn} (h : 0 ≤ r.1) : expand [(r.1 * (t : Int), r.2)] = (List.replicate t (expand [r])).flatten := by
  have e1 : expand [r] = List.replicate r.1.toNat r.2 := by rw [exp_cons]; exact List.append_nil _
  have e2 : expand [(r.1 * (t : Int), r.2)] = List.replicate (r.1 * (t : Int)).toNat r.2 := by rw [exp_cons]; exact List.append_nil _
  rw [e1, e2]
  obtain ⟨m, hm⟩ : ∃ m : Nat, r.1 = (m : Int) := ⟨r.1.toNat, by omega⟩
  rw [hm, show ((m : Int) * (t : Int)) = ((m * t : Nat) : Int) from (Int.natCast_mul m t).symm]
  show List.replicate (m * t) r.2 = (List.replicate t (List.replicate m r.2)).flatten
  rw [List.flatten_replicate_replicate, Nat.mul_comm]
theorem rep_len2 {α : Type} {l : List α} {t : Nat} : (List.replicate t l).flatten.length = l.length * t := by rw [List.length_flatten, List.map_replicate, List.sum_replicate_nat, Nat.mul_comm]
@[irreducible] def dMul (C : Addr) : R2' := fun _ a b n Q _ => ∃ (rs : List Rn) (t : Nat), a = rowG C rs ∧ b = .int (t : Int) ∧ RunsOk rs ∧ (∀ r ∈ rs, 0 ≤ r.2) ∧ (2 ≤ rs.length → t ≤ 100 ∧ rs.length * t ≤ 1000) ∧ t < 2 ^ 150 ∧ (∀ r ∈ rs, r.1 < 2 ^ 150) ∧ Q (rowG C (joinR (List.replicate t rs).flatten)) n
theorem ok_Row___mul (T : Tx w K mg) : FnOk P w K mg base CX0 6 T.f_Row___mul T.d_Row___mul ["self", "times"] (Da.upSp K (sp2 (dMul T.c_Row))) := by
  refine T.F_Row___mul.ok sc_Row___mul (fun vs H Q E h => Da.up_len2 h) (fun cdv A outer s H vs Q E hr h => ?_)
  refine ⟨_, (pss_cons (ps_if (pt_cmpR op_lt (pv 1) pe_int (nomark _))
        (pss_one ps_never)
        pss_nil)
      (pss_cons (ps_set (i := 2) sc_Row___mul.nd rfl (Or.inl rfl) (pe_callB (Da.lenK (K := K) rfl) (by rfl) T.z_len (by decide +kernel) (pa_cons (Da.fldK (K := K) rfl (pv 0) rfl) pa_nil)))
      (pss_cons (ps_if (pt_cmpR op_lt (pv 2) pe_int (nomark _))
        (pss_one (ps_ret (Sm.pe_smeth (pe_glob (v := .ref T.c_Row) rfl T.m_Row rfl) T.h_Row_of_runs (ok_Row_of_runs T) (hr.mono (by decide)) T.b_Row_of_runs .nil pass0 (pa_cons (pe_lc (g := gTup K 2 (gCons (gName 3) (gCons (gName 4) gNil))) rfl sc_Row___mul.nd (Da.seqK (K := K) rfl (Da.fldK (K := K) rfl (pv 0) rfl)) (blkOk_by (own := [("count", 3), ("cell", 4)]) (N := ["self", "times", "many", "count", "cell"]) (sc := defScope s_Row___mul) (by decide +kernel)) (fun _ _ _ _ _ => (Da.gtupK (n := 2) (K := K) rfl (by rfl) (pgs_cons (pg_name (i := 3) sc_Row___mul.nd rfl (Or.inl rfl)) (pgs_cons (pg_name (i := 4) sc_Row___mul.nd rfl (Or.inl rfl)) pgs_nil)))) (fun _ _ _ _ _ => pts_nil) (fun _ _ _ _ _ => (pe_tup (pa_cons (pe_op (Da.mulK (K := K) rfl) (pv 3) (pv 1)) (pa_cons (pv 4) pa_nil))))) pa_nil))))
        pss_nil)
      (pss_cons (ps_if (pt_cmpR op_ge (pe_op (Da.mulK (K := K) rfl) (pe_op op_sub (pv 2) pe_int) (pv 1)) (pe_glob (v := .int 1000) rfl T.m_MOST_RUNS ⟨_, rfl⟩) (nomark _))
        (pss_one ps_never)
        pss_nil)
      (pss_one (ps_ret (Sm.pe_smeth (pe_glob (v := .ref T.c_Row) rfl T.m_Row rfl) T.h_Row_of_runs (ok_Row_of_runs T) (hr.mono (by decide)) T.b_Row_of_runs .nil pass0 (pa_cons (pe_op (Da.mulTK (K := K) rfl) (Da.fldK (K := K) rfl (pv 0) rfl) (pv 1)) pa_nil)))))))), Da.go_up2 h ?_⟩
  intro pn a b n Q _ h
  unfold dMul at h
  obtain ⟨rs, t, rfl, rfl, ho, hc, hl, ht, hr, h⟩ := h
  have c1 := T.cl_Row
  have c2 := T.n_Row_runs
  have hf := ho.few
  have h0 : ∀ r ∈ rs, 0 ≤ r.1 := fun r hr => by have := ho.pos r hr; omega
  have hp2 : ∀ p ∈ (List.replicate t rs).flatten, 0 ≤ p.1 ∧ 0 ≤ p.2 := fun p hp => by
    obtain ⟨l, hl, hpl⟩ := List.mem_flatten.mp hp
    rw [(List.mem_replicate.mp hl).2] at hpl
    exact ⟨h0 p hpl, hc p hpl⟩
  have ht2 : t < 1427247692705959881058285969449495136382746624 := ht
  unfold rowG
  have em : (rs.map runD).length = rs.length := List.length_map _
  walk_at "w"
  rw [em]
  refine .dec (fun o => ?_) (fun o => ?_)
  · walk_at "w"
    refine lc_inv (fun i acc s => acc = ((rs.take i).map fun r => (r.1 * (t : Int), r.2)).map runD ∧ s = st0 n pn) (le1000 (by rw [runs_n]; omega)) ⟨rfl, rfl⟩ ?_ ?_
    · rintro i d _ _ hi hd _ ⟨rfl, rfl⟩
      obtain ⟨r, hr1, rfl⟩ := runs_at (seq_at hd)
      have hm := List.mem_of_getElem? hr1
      have k0 := h0 r hm
      have k1 := hr r hm
      have k2 : r.1 < 1427247692705959881058285969449495136382746624 := k1
      walk_at "w"
      refine ⟨mulE (by omega) (by omega), ?_⟩
      walk_at "w"
      refine ⟨?_, rfl⟩
      rw [take_more hr1, List.map_append, List.map_append]
      rfl
    · rintro _ _ _ ⟨rfl, rfl⟩
      rw [runs_n, List.take_length]
      walk_at "w"
      have hp : ∀ p ∈ rs.map (fun r => (r.1 * (t : Int), r.2)), 0 ≤ p.1 ∧ 0 ≤ p.2 := fun p hp => by
        obtain ⟨r, hr, rfl⟩ := List.mem_map.mp hp
        exact ⟨Int.mul_nonneg (h0 r hr) (by omega), hc r hr⟩
      have hln : (rs.map (fun r => (r.1 * (t : Int), r.2))).length = rs.length := List.length_map _
      refine i_of_runs (ps := rs.map (fun r => (r.1 * (t : Int), r.2))) rfl hp (Nat.le_trans (Jn.join_len _) (by rw [hln]; exact hf)) (by rw [hln]; omega) ?_
      walk_at "w"
      rw [Jn.join_uniq (fun p q => (hp p q).1) (fun p q => (hp2 p q).1) ?_]
      · exact h
      · rw [rep_exp]
        rcases rs with _ | ⟨r, _ | ⟨r', l⟩⟩
        · rw [show expand [] = [] from rfl, List.flatten_replicate_nil]
          rfl
        · exact one_exp (h0 r List.mem_cons_self)
        · exfalso
          rw [List.length_cons, List.length_cons] at o
          omega
  · have o2 : 2 ≤ rs.length := by omega
    obtain ⟨t100, hl⟩ := hl o2
    have hq : (rs.length : Int) * (t : Int) ≤ 1000 := by rw [← Int.natCast_mul]; omega
    have hq2 : ((rs.length : Int) - 1) * (t : Int) = (rs.length : Int) * (t : Int) - (t : Int) := by rw [Int.sub_mul, Int.one_mul]
    walk_at "w"
    refine ⟨mulE (by omega) (by omega), ?_⟩
    walk_at "w"
    have hq3 : 0 < t ∨ (rs.length : Int) * (t : Int) = 0 := by
      rcases Nat.eq_zero_or_pos t with e | e
      · exact .inr (by rw [e]; exact Int.mul_zero _)
      · exact .inl e
    refine .n (by rw [hq2]; omega) ?_
    walk_at "w"
    refine ⟨⟨fun e => ?_, by omega, by omega, by rw [em]; exact hf⟩, ?_⟩
    · rw [List.map_eq_nil_iff] at e
      rw [e] at o2
      exact absurd o2 (by decide)
    walk_at "w"
    have hln : (List.replicate t rs).flatten.length ≤ 1000 := by rw [rep_len2]; exact hl
    refine i_of_runsT (ps := (List.replicate t rs).flatten) (by rw [List.map_flatten, List.map_replicate]; rfl) hp2 (Nat.le_trans (Jn.join_len _) hln) (by omega) ?_
    walk_at "w"
    exact h
theorem i_mul {pn : Option (Addr × Addr)} {n : Nat} {Q : D → Nat → Prop} {X : XD} {C : Addr} {rs : List Rn} {t : Nat} {b : D} (eb : b = .int (t : Int)) (ho : RunsOk rs) (hc : ∀ r ∈ rs, 0 ≤ r.2) (hl : 2 ≤ rs.length → t ≤ 100 ∧ rs.length * t ≤ 1000) (ht : t < 2 ^ 150) (hr : ∀ r ∈ rs, r.1 < 2 ^ 150) (h : Q (rowG C (joinR (List.replicate t rs).flatten)) n) : dMul C pn (rowG C rs) b n Q X := by
  unfold dMul
  exact ⟨rs, t, rfl, eb, ho, hc, hl, ht, hr, h⟩
@[irreducible] def dCells (C : Addr) : RO1 := fun _ a n Q _ => ∃ rs : List Rn, a = rowG C rs ∧ RunsOk rs ∧ (expand rs).length ≤ 1000 ∧ Q (.lst (intsD (expand rs))) n
theorem exp_at2 {rs : List Rn} {i : Nat} {r : Rn} (h : rs[i]? = some r) : expand (rs.take (i + 1)) = expand (rs.take i) ++ List.replicate r.1.toNat r.2 := by rw [take_more h, Jn.expand_app, Jn.expand_one]
theorem exp_few2 {rs : List Rn} {i : Nat} {r : Rn} (h : rs[i]? = some r) : (expand (rs.take i)).length + r.1.toNat ≤ (expand rs).length := by
  have e := Jn.expand_app (rs.take (i + 1)) (rs.drop (i + 1))
  rw [List.take_append_drop, exp_at2 h] at e
  rw [e, List.length_append, List.length_append, List.length_replicate]
  omega
theorem ok_Row_cells (T : Tx w K mg) : FnOk P w K mg base CX0 3 T.f_Row_cells T.d_Row_cells ["self"] (Da.upSpO K (so1 (dCells T.c_Row))) := by
  refine T.F_Row_cells.ok sc_Row_cells (fun vs H Q E h => Da.upO_len1 h) (fun cdv A outer s H vs Q E hr h => ?_)
  refine ⟨_, (pss_cons (ps_if (pt_cmpR op_gt (pe_prop (pv 0) T.cl_Row T.h_Row_size (ok_Row_size T) (hr.mono (by decide)) T.b_Row_size .nil pass0 rfl) (pe_glob (v := .int 1000) rfl T.m_MOST_CELLS ⟨_, rfl⟩) (nomark _))
        (pss_one ps_never)
        pss_nil)
      (pss_one (Da.ps_retO (ps_ret (Da.pe_own 3 (pe_lc2 (g := gTup K 2 (gCons (gName 1) (gCons (gName 2) gNil))) (g1 := gName 3) (vs1 := [3]) rfl sc_Row_cells.nd (Da.seqK (K := K) rfl (Da.fldK (K := K) rfl (pv 0) rfl)) (blkOk_by (own := [("count", 1), ("cell", 2), ("_", 3)]) (N := ["self", "count", "cell", "_"]) (sc := defScope s_Row_cells) (by decide +kernel)) (by decide) (fun _ _ _ _ _ => (Da.gtupK (n := 2) (K := K) rfl (by rfl) (pgs_cons (pg_name (i := 1) sc_Row_cells.nd rfl (Or.inl rfl)) (pgs_cons (pg_name (i := 2) sc_Row_cells.nd rfl (Or.inl rfl)) pgs_nil)))) (fun _ _ _ _ _ => pts_nil) (fun _ _ _ _ _ => (pi_range1 (by rfl) T.z_range (pa_cons (pv 1) pa_nil))) (fun _ _ _ _ _ => (pg_name (i := 3) sc_Row_cells.nd rfl (Or.inl rfl))) (fun _ _ _ _ _ => pts_nil) (fun _ _ _ _ _ => (pv 2)))))))), Da.go_upO1 h ?_⟩
  intro pn a n Q _ h
  unfold dCells at h
  obtain ⟨rs, rfl, ho, hl, h⟩ := h
  have c1 := T.cl_Row
  have c2 := T.n_Row_runs
  have hf := ho.few
  unfold rowG
  walk_at "w"
  refine i_size ho ?_
  walk_at "w"
  refine .n (by omega) ?_
  walk_at "w"
  refine lc2_inv (fun i acc s => acc = intsD (expand (rs.take i)) ∧ s = st0 n pn) ⟨rfl, rfl⟩ ?_ ?_
  · rintro i d _ _ hi hd ⟨rfl, rfl⟩
    obtain ⟨r, hr1, rfl⟩ := runs_at (seq_at hd)
    have hp := ho.pos r (List.mem_of_getElem? hr1)
    have hfew := exp_few2 hr1
    walk_at "w"
    refine ⟨by omega, ?_⟩
    refine lc2_in (fun j acc s => acc = intsD (expand (rs.take i) ++ List.replicate j r.2) ∧ s = st0 n pn) ⟨by rw [List.replicate_zero, List.append_nil], rfl⟩ ?_ ?_
    · rintro j d _ _ hj hd ⟨rfl, rfl⟩
      have hj : j < r.1.toNat := hj
      obtain ⟨_, rfl⟩ := rng_at hd
      walk_at "w"
      refine ⟨Nat.lt_of_le_of_lt (show _ ≤ 1000 from ?_) (by decide), ?_, rfl⟩
      · unfold intsD
        rw [List.length_map, List.length_append, List.length_replicate]
        omega
      · unfold intsD
        rw [List.replicate_succ', ← List.append_assoc, List.map_append (l₂ := [r.2])]
        rfl
    · rintro _ _ ⟨rfl, rfl⟩
      refine ⟨?_, rfl⟩
      rw [exp_at2 hr1]
      rfl
  · rintro _ _ ⟨rfl, rfl⟩
    rw [runs_n, List.take_length]
    refine ⟨le1000 (by unfold intsD; rw [List.length_map]; exact hl), ?_⟩
    walk_at "w"
    intro la
    walk_at "w"
    exact h
theorem i_cellsO {pn : Option (Addr × Addr)} {n : Nat} {Q : MO → Nat → Prop} {X : XD} {C : Addr} {rs : List Rn} (ho : RunsOk rs) (hl : (expand rs).length ≤ 1000) (h : Q (.lst (intsD (expand rs))) n) : dCells C pn (rowG C rs) n Q X := by
  unfold dCells
  exact ⟨rs, rfl, ho, hl, h⟩
@[irreducible] def dCellAt (C : Addr) : R2' := fun _ a b n Q _ => ∃ (rs : List Rn) (p : Nat) (z : Int), a = rowG C rs ∧ b = .int (p : Int) ∧ RunsOk rs ∧ (expand rs)[p]? = some z ∧ Q (.int z) n
theorem ok_Row_cell_at (T : Tx w K mg) : FnOk P w K mg base CX0 1 T.f_Row_cell_at T.d_Row_cell_at ["self", "place"] (Da.upSp K (sp2 (dCellAt T.c_Row))) := by
  refine T.F_Row_cell_at.ok sc_Row_cell_at (fun vs H Q E h => Da.up_len2 h) (fun cdv A outer s H vs Q E hr h => ?_)
  refine ⟨_, (pss_cons (ps_if (pt_cmpR op_ge (pv 1) pe_int (nomark _))
        (pss_cons (ps_set (i := 2) sc_Row_cell_at.nd rfl (Or.inl rfl) pe_int)
        (pss_one (ps_for PassesOwn.never rfl (Da.seqK (K := K) rfl (Da.fldK (K := K) rfl (pv 0) rfl)) (Da.gtupK (n := 2) (K := K) rfl (by rfl) (pgs_cons (pg_name (i := 3) sc_Row_cell_at.nd rfl (Or.inl rfl)) (pgs_cons (pg_name (i := 4) sc_Row_cell_at.nd rfl (Or.inl rfl)) pgs_nil)))
          (pss_cons (ps_set (i := 2) sc_Row_cell_at.nd rfl (Or.inl rfl) (pe_op (Da.addK (K := K) rfl) (pv 2) (pv 3)))
          (pss_one (ps_if (pt_cmpR op_lt (pv 1) (pv 2) (nomark _))
            (pss_one (ps_ret (pv 4)))
            pss_nil))))))
        pss_nil)
      (pss_one ps_never)), Da.go_up2 h ?_⟩
  intro pn a b n Q _ h
  unfold dCellAt at h
  obtain ⟨rs, p, z, rfl, rfl, ho, hz, h⟩ := h
  have c1 := T.cl_Row
  have c2 := T.n_Row_runs
  have hf := ho.few
  have hpl := (List.getElem?_eq_some_iff.mp hz).1
  unfold rowG
  walk_at "w"
  refine for_inv (fun i Γ s => ∃ u3 u4 : Option D, Γ = [some (.obj T.c_Row [("runs", .tup (rs.map runD))]), some (.int (p : Int)), some (.int ((expand (rs.take i)).length : Int)), u3, u4] ∧ s = st0 n pn ∧ (expand (rs.take i)).length ≤ p) ⟨_, _, rfl, rfl, Nat.zero_le _⟩ ?_ ?_
  · rintro i d _ _ hi hd ⟨u3, u4, rfl, rfl, hle⟩
    obtain ⟨r, hr1, rfl⟩ := runs_at (seq_at hd)
    have hp := ho.pos r (List.mem_of_getElem? hr1)
    have e1 := exp_at2 hr1
    have e2 : ((expand (rs.take i)).length : Int) + r.1 = ((expand (rs.take (i + 1))).length : Int) := by rw [e1, List.length_append, List.length_replicate]; omega
    walk_at "w"
    refine .dec (fun o => ?_) (fun o => ?_)
    · have o : (p : Int) < ((expand (rs.take i)).length : Int) + r.1 := o
      walk_at "w"
      have ez : z = r.2 := by
        have e3 := Jn.expand_app (rs.take (i + 1)) (rs.drop (i + 1))
        rw [List.take_append_drop, e1] at e3
        rw [e3, List.getElem?_append_left (by rw [List.length_append, List.length_replicate]; omega), List.getElem?_append_right hle, List.getElem?_replicate] at hz
        split at hz
        · exact (Option.some.inj hz).symm
        · cases hz
      rw [ez] at h
      exact h
    · have o : ¬ (p : Int) < ((expand (rs.take i)).length : Int) + r.1 := o
      walk_at "w"
      rw [e2]
      exact ⟨_, _, rfl, rfl, by omega⟩
  · rintro _ _ ⟨u3, u4, rfl, rfl, hle⟩
    rw [runs_n, List.take_length] at hle
    omega
theorem i_cell_at {pn : Option (Addr × Addr)} {n : Nat} {Q : D → Nat → Prop} {X : XD} {C : Addr} {rs : List Rn} {p : Nat} {z : Int} {b : D} (eb : b = .int (p : Int)) (ho : RunsOk rs) (hz : (expand rs)[p]? = some z) (h : Q (.int z) n) : dCellAt C pn (rowG C rs) b n Q X := by
  unfold dCellAt
  exact ⟨rs, p, z, rfl, eb, ho, hz, h⟩
@[irreducible] def dCont (C : Addr) : R2' := fun _ a b n Q _ => ∃ (rs : List Rn) (z : Int), a = rowG C rs ∧ b = .int z ∧ RunsOk rs ∧ ∀ k : Bool, (k = true ↔ z ∈ rs.map (·.2)) → Q (.bl k) n
theorem ok_Row___contains (T : Tx w K mg) : FnOk P w K mg base CX0 1 T.f_Row___contains T.d_Row___contains ["self", "x"] (Da.upSp K (sp2 (dCont T.c_Row))) := by
  refine T.F_Row___contains.ok sc_Row___contains (fun vs H Q E h => Da.up_len2 h) (fun cdv A outer s H vs Q E hr h => ?_)
  refine ⟨_, (pss_one (ps_ret (pe_cmpR (Da.inK (K := K) rfl (Da.u65 hr)) (pv 1) (pe_lc (g := gTup K 2 (gCons (gName 2) (gCons (gName 3) gNil))) rfl sc_Row___contains.nd (Da.seqK (K := K) rfl (Da.fldK (K := K) rfl (pv 0) rfl)) (blkOk_by (own := [("_", 2), ("cell", 3)]) (N := ["self", "x", "_", "cell"]) (sc := defScope s_Row___contains) (by decide +kernel)) (fun _ _ _ _ _ => (Da.gtupK (n := 2) (K := K) rfl (by rfl) (pgs_cons (pg_name (i := 2) sc_Row___contains.nd rfl (Or.inl rfl)) (pgs_cons (pg_name (i := 3) sc_Row___contains.nd rfl (Or.inl rfl)) pgs_nil)))) (fun _ _ _ _ _ => pts_nil) (fun _ _ _ _ _ => (pv 3))) (by rfl)))), Da.go_up2 h ?_⟩
  intro pn a b n Q _ h
  unfold dCont at h
  obtain ⟨rs, z, rfl, rfl, ho, h⟩ := h
  have c1 := T.cl_Row
  have c2 := T.n_Row_runs
  have hf := ho.few
  unfold rowG
  walk_at "w"
  refine lc_inv (fun i acc s => acc = ((rs.take i).map (·.2)).map D.int ∧ s = st0 n pn) (le1000 (by rw [runs_n]; omega)) ⟨rfl, rfl⟩ ?_ ?_
  · rintro i d _ _ hi hd _ ⟨rfl, rfl⟩
    obtain ⟨r, hr1, rfl⟩ := runs_at (seq_at hd)
    walk_at "w"
    refine ⟨?_, rfl⟩
    rw [take_more hr1, List.map_append, List.map_append]
    rfl
  · rintro _ _ _ ⟨rfl, rfl⟩
    rw [runs_n, List.take_length]
    walk_at "w"
    refine ⟨⟨0, by decide, trivial, int_plain⟩, ?_⟩
    walk_at "w"
    refine h _ ?_
    rw [if_neg Bool.false_ne_true]
    exact ⟨fun e => int_mem.mp (of_dec2 e), fun e => dec_t (int_mem.mpr e)⟩
theorem i_cont {pn : Option (Addr × Addr)} {n : Nat} {Q : D → Nat → Prop} {X : XD} {C : Addr} {rs : List Rn} {z : Int} {b : D} (eb : b = .int z) (ho : RunsOk rs) (h : ∀ k : Bool, (k = true ↔ z ∈ rs.map (·.2)) → Q (.bl k) n) : dCont C pn (rowG C rs) b n Q X := by
  unfold dCont
  exact ⟨rs, z, rfl, eb, ho, h⟩
theorem run_inj : ∀ {a b : List Rn}, a.map runD = b.map runD → a = b
  | [], [], _ => rfl
  | [], _ :: _, h => by cases h
  | _ :: _, [], h => by cases h
  | (a, b) :: l, (c, d) :: m, h => by
    rw [List.map_cons, List.map_cons] at h
    obtain ⟨h1, h2⟩ := List.cons.inj h
    have h1 : D.tup [.int a, .int b] = .tup [.int c, .int d] := h1
    cases h1
    rw [run_inj h2]
theorem runs_pl {rs : List Rn} : ∀ d ∈ rs.map runD, Pl 1 d := fun d hd => by
  obtain ⟨r, _, rfl⟩ := List.mem_map.mp hd
  intro e he
  rcases List.mem_cons.mp he with rfl | he
  · trivial
  · obtain rfl := List.mem_singleton.mp he
    trivial
@[irreducible] def dRowEq (C : Addr) : R2' := fun _ a b n Q _ => ∃ rs : List Rn, a = rowG C rs ∧ ((∃ ro : List Rn, b = rowG C ro ∧ ∀ k : Bool, (k = true ↔ rs = ro) → Q (.bl k) n) ∨ (∃ ds, b = .tup ds ∧ Q (.bl false) n))
theorem ok_Row___eq (T : Tx w K mg) : FnOk P w K mg base CX0 1 T.f_Row___eq T.d_Row___eq ["self", "other"] (Da.upSp K (sp2 (dRowEq T.c_Row))) := by
  refine T.F_Row___eq.ok sc_Row___eq (fun vs H Q E h => Da.up_len2 h) (fun cdv A outer s H vs Q E hr h => ?_)
  refine ⟨_, (pss_one (ps_ret (pe_and (pe_callB (Da.isiK (K := K) rfl) (by rfl) T.z_isinstance (by decide +kernel) (pa_cons (pv 1) (pa_cons (pe_glob (v := .ref T.c_Row) rfl T.m_Row rfl) pa_nil))) (pe_one (pe_cmpR (Da.eqK (K := K) rfl hr.units) (Da.fldK (K := K) rfl (pv 0) rfl) (Da.fldK (K := K) rfl (pv 1) rfl) (nomark _)))))), Da.go_up2 h ?_⟩
  intro pn a b n Q _ h
  unfold dRowEq at h
  obtain ⟨rs, rfl, ⟨ro, rfl, h⟩ | ⟨ds, rfl, h⟩⟩ := h
  · have c1 := T.cl_Row
    have c2 := T.n_Row_runs
    unfold rowG
    walk_at "w"
    refine ⟨T.ob_Row, true, T.kit_Row_Row, ?_⟩
    walk_at "w"
    refine ⟨⟨2, 2, by decide, by decide, runs_pl, runs_pl⟩, ?_⟩
    walk_at "w"
    refine h _ ?_
    rw [if_neg Bool.false_ne_true]
    exact ⟨fun e => run_inj (D.tup.inj (of_dec2 e)), fun e => dec_t (by rw [e])⟩
  · unfold rowG
    walk_at "w"
    refine ⟨false, T.kit_tuple_Row, ?_⟩
    walk_at "w"
    exact h
theorem i_row_eq {pn : Option (Addr × Addr)} {n : Nat} {Q : D → Nat → Prop} {X : XD} {C : Addr} {rs ro : List Rn} (h : ∀ k : Bool, (k = true ↔ rs = ro) → Q (.bl k) n) : dRowEq C pn (rowG C rs) (rowG C ro) n Q X := by
  unfold dRowEq
  exact ⟨rs, rfl, .inl ⟨ro, rfl, h⟩⟩
theorem i_row_ne {pn : Option (Addr × Addr)} {n : Nat} {Q : D → Nat → Prop} {X : XD} {C : Addr} {rs : List Rn} {ds : List D} (h : Q (.bl false) n) : dRowEq C pn (rowG C rs) (.tup ds) n Q X := by
  unfold dRowEq
  exact ⟨rs, rfl, .inr ⟨ds, rfl, h⟩⟩
end
end Lw

namespace Lw
open PySem L2
open Evl Da
local macro_rules
  | `(tactic| walk_at "f") => `(tactic| first | exact lookF_put | exact lookF_hit | exact (lookF_skip (by decide +kernel) lookF_hit) | exact (lookF_skip (by decide +kernel) (lookF_skip (by decide +kernel) lookF_hit)) | exact (lookF_skip (by decide +kernel) (lookF_skip (by decide +kernel) (lookF_skip (by decide +kernel) lookF_hit))) | exact (lookF_skip (by decide +kernel) (lookF_skip (by decide +kernel) (lookF_skip (by decide +kernel) (lookF_skip (by decide +kernel) lookF_hit)))) | exact (lookF_skip (by decide +kernel) (lookF_skip (by decide +kernel) (lookF_skip (by decide +kernel) (lookF_skip (by decide +kernel) (lookF_skip (by decide +kernel) lookF_hit))))) | exact (lookF_skip (by decide +kernel) (lookF_skip (by decide +kernel) (lookF_skip (by decide +kernel) (lookF_skip (by decide +kernel) (lookF_skip (by decide +kernel) (lookF_skip (by decide +kernel) lookF_hit)))))) | ((refine lookF_other (by decide +kernel) ?_); walk_at "f") | ((refine lookF_skip (by decide +kernel) ?_); walk_at "f"))
  | `(tactic| walk_at "fl") => `(tactic| first | exact Nat.zero_lt_succ _ | ((refine putFD_lt ?_); walk_at "fl"))
  | `(tactic| walk_at "a") => `(tactic| first | exact le1000 (Nat.le_of_ble_eq_true rfl) | exact rfl | decide +kernel | exact And.intro (by with_reducible assumption) (by with_reducible assumption) | exact And.intro (And.intro (by with_reducible assumption) (by with_reducible assumption)) (by walk_at "fl"))
  | `(tactic| walk_at "w") => `(tactic| ((conv => whnf); repeat ((first | ((with_reducible refine And.intro ?_ ?_); (focus (walk_at "a"))) | ((with_reducible refine Br.yes ?_ ?_); (focus (first | exact rfl | decide +kernel))) | ((with_reducible refine Br.no ?_ ?_); (focus (first | exact rfl | decide +kernel))) | ((with_reducible refine ex_fld ?_); (refine fld_w (by walk_at "f") ?_)) | ((with_reducible refine ex_at ?_); (refine at_w rfl ?_))); (conv => whnf))))
  | `(tactic| walk_at "n") => `(tactic| ((try dsimp only [st0, st1, S.at, S.drop, S.own, S.put, S.frz, Src.n] at *); omega))
  | `(tactic| walk_at "draw") => `(tactic| ((try walk_at "w"); (refine i_draw ⟨by walk_at "n", by walk_at "n", by walk_at "n"⟩ ?_)))
section
variable {K : PySem.W.Frag}
theorem i_orT {ta tb : TE} {σ : L2.St} {H : Hp} {Q : VK} (q : ta σ H fun x H1 => ∃ k, TruV K x H1 k ∧ if k = true then Q x H1 else tb σ H1 Q) : tOrT K ta tb σ H Q := q
end
end Lw

namespace Lw
open PySem L2
open Evl Da Hd
local macro_rules
  | `(tactic| walk_at "f") => `(tactic| first | exact lookF_put | exact lookF_hit | exact (lookF_skip (by decide +kernel) lookF_hit) | exact (lookF_skip (by decide +kernel) (lookF_skip (by decide +kernel) lookF_hit)) | exact (lookF_skip (by decide +kernel) (lookF_skip (by decide +kernel) (lookF_skip (by decide +kernel) lookF_hit))) | exact (lookF_skip (by decide +kernel) (lookF_skip (by decide +kernel) (lookF_skip (by decide +kernel) (lookF_skip (by decide +kernel) lookF_hit)))) | exact (lookF_skip (by decide +kernel) (lookF_skip (by decide +kernel) (lookF_skip (by decide +kernel) (lookF_skip (by decide +kernel) (lookF_skip (by decide +kernel) lookF_hit))))) | exact (lookF_skip (by decide +kernel) (lookF_skip (by decide +kernel) (lookF_skip (by decide +kernel) (lookF_skip (by decide +kernel) (lookF_skip (by decide +kernel) (lookF_skip (by decide +kernel) lookF_hit)))))) | ((refine lookF_other (by decide +kernel) ?_); walk_at "f") | ((refine lookF_skip (by decide +kernel) ?_); walk_at "f"))
  | `(tactic| walk_at "fl") => `(tactic| first | exact Nat.zero_lt_succ _ | ((refine putFD_lt ?_); walk_at "fl"))
  | `(tactic| walk_at "a") => `(tactic| first | exact le1000 (Nat.le_of_ble_eq_true rfl) | exact rfl | decide +kernel | exact And.intro (by with_reducible assumption) (by with_reducible assumption) | exact And.intro (And.intro (by with_reducible assumption) (by with_reducible assumption)) (by walk_at "fl"))
  | `(tactic| walk_at "w") => `(tactic| ((conv => whnf); repeat ((first | ((with_reducible refine And.intro ?_ ?_); (focus (walk_at "a"))) | ((with_reducible refine Br.yes ?_ ?_); (focus (first | exact rfl | decide +kernel))) | ((with_reducible refine Br.no ?_ ?_); (focus (first | exact rfl | decide +kernel))) | ((with_reducible refine ex_fld ?_); (refine fld_w (by walk_at "f") ?_)) | ((with_reducible refine ex_at ?_); (refine at_w rfl ?_))); (conv => whnf))))
  | `(tactic| walk_at "n") => `(tactic| ((try dsimp only [st0, st1, S.at, S.drop, S.own, S.put, S.frz, Src.n] at *); omega))
  | `(tactic| walk_at "draw") => `(tactic| ((try walk_at "w"); (refine i_draw ⟨by walk_at "n", by walk_at "n", by walk_at "n"⟩ ?_)))
open Jn (Rn expand joinR jstep)
theorem mulB {i j : Int} (hi : i.natAbs < 2 ^ 200) (hj : j.natAbs < 2 ^ 200) : CMulW i j := by
  have h1 : i.natAbs.log2 < 200 := log2_small hi (by decide)
  have h2 : j.natAbs.log2 < 200 := log2_small hj (by decide)
  show i.natAbs.log2 + j.natAbs.log2 < 1000000
  omega
section
variable {P : Program} {w : World} {K : PySem.W.Frag} {mg : Str → Option Value} {base : Heap}
@[irreducible] def dTen : R1 := fun pn a n Q _ => IsPen pn a ∧ n < 549755813000 ∧ ∀ (t : Int) n', 1 ≤ t → t ≤ 1000000000000000000000000000000 → n' ≤ n + 1 → Q (.int t) n'
theorem ok_law_ten (T : Tx w K mg) : FnOk P w K mg base CX0 2 T.f_law_ten T.d_law_ten ["_law_pen"] (Da.upSp K (sp1 dTen)) := by
  refine T.F_law_ten.ok sc_law_ten (fun vs H Q E h => Da.up_len1 h) (fun cdv A outer s H vs Q E hr h => ?_)
  refine ⟨_, (pss_cons (ps_set (i := 1) sc_law_ten.nd rfl (Or.inl rfl) pe_int)
      (pss_cons (ps_for PassesOwn.never rfl (pi_range1 (by rfl) T.z_range (pa_cons (pe_call (ok_law_draw T) (hr.mono (by decide)) rfl T.m_law_draw T.F_law_draw.kp T.b_law_draw .nil pass0 (pa_cons (pv 0) (pa_cons pe_int pa_nil))) pa_nil)) (pg_name (i := 2) sc_law_ten.nd rfl (Or.inl rfl))
        (pss_one (ps_set (i := 1) sc_law_ten.nd rfl (Or.inl rfl) (pe_op (Da.mulK (K := K) rfl) (pv 1) pe_int))))
      (pss_one (ps_ret (pv 1))))), Da.go_up1 h ?_⟩
  intro pn a n Q _ h
  unfold dTen at h
  obtain ⟨⟨p, q, rfl, rfl⟩, n1, h⟩ := h
  walk_at "draw"
  intro r r0 r1
  walk_at "w"
  refine ⟨by omega, ?_⟩
  refine for_inv (fun i Γ s => ∃ (t : Int) (u2 : Option D), Γ = [some (.val (.ref p)), some (.int t), u2] ∧ s = st0 (n + 1) (some (p, q)) ∧ 1 ≤ t ∧ t.natAbs ≤ 10 ^ i) ⟨1, _, rfl, rfl, by decide, by decide⟩ ?_ ?_
  · rintro i d _ _ hi hd ⟨t, u2, rfl, rfl, t1, t2⟩
    obtain ⟨hi, rfl⟩ := rng_at hd
    have hi : i < 30 := by omega
    have hp : (10 : Nat) ^ i ≤ 10 ^ 30 := Nat.pow_le_pow_right (by decide) (by omega)
    have h3 : (10 : Nat) ^ 30 < 2 ^ 200 := by decide
    have hm : CMulW t 10 := mulB (by omega) (by decide)
    walk_at "w"
    refine ⟨hm, ?_⟩
    walk_at "w"
    exact ⟨t * 10, _, rfl, rfl, by omega, by rw [Nat.pow_succ]; omega⟩
  · rintro _ _ ⟨t, u2, rfl, rfl, t1, t2⟩
    have hn : (Src.rng 0 r.toNat).n ≤ 30 := by show r.toNat ≤ 30; omega
    have hp : (10 : Nat) ^ (Src.rng 0 r.toNat).n ≤ 10 ^ 30 := Nat.pow_le_pow_right (by decide) hn
    have h3 : (10 : Nat) ^ 30 = 1000000000000000000000000000000 := by decide
    walk_at "w"
    exact h t _ t1 (by omega) (by walk_at "n")
theorem i_ten {p q : Addr} {n : Nat} {Q : D → Nat → Prop} {X : XD} (h : n < 549755813000) (k : ∀ (t : Int) n', 1 ≤ t → t ≤ 1000000000000000000000000000000 → n' ≤ n + 1 → Q (.int t) n') : dTen (some (p, q)) (.val (.ref p)) n Q X := by
  unfold dTen
  exact ⟨⟨p, q, rfl, rfl⟩, h, k⟩
structure RkS (rs : List Rn) : Prop where
  pos : ∀ r ∈ rs, 0 ≤ r.1 ∧ r.1 ≤ 1000000000000000000000000001000 ∧ 0 ≤ r.2 ∧ r.2 ≤ 100000000000000000002
theorem RkS.snoc {rs : List Rn} (h : RkS rs) {c g : Int} (c0 : 0 ≤ c) (c1 : c ≤ 1000000000000000000000000001000) (g0 : 0 ≤ g) (g1 : g ≤ 100000000000000000002) : RkS (rs ++ [(c, g)]) := ⟨fun r hr => by
  rcases List.mem_append.mp hr with hr | hr
  · exact h.pos r hr
  · obtain rfl := List.mem_singleton.mp hr
    exact ⟨c0, c1, g0, g1⟩⟩
theorem pick_ok {ten r x : Int} (h10 : ten = 100000000000000000000) (r0 : 0 ≤ r) (r1 : r < 3) (hx : x ∈ [0, 1, 1, 7, 7, ten + r]) : 0 ≤ x ∧ x ≤ 100000000000000000002 := by
  simp only [List.mem_cons, List.not_mem_nil, or_false] at hx
  omega
@[irreducible] def dSome : R2' := fun pn a b n Q _ => IsPen pn a ∧ ∃ m : Int, b = .int m ∧ 0 ≤ m ∧ m ≤ 8 ∧ n < 549755812000 ∧ ∀ (rs : List Rn) n', RkS rs → (rs.length : Int) ≤ m → n' ≤ n + 100 → Q (.lst (rs.map runD)) n'
theorem ok_law_some (T : Tx w K mg) : FnOk P w K mg base CX0 3 T.f_law_some T.d_law_some ["_law_pen", "_law_many"] (Da.upSp K (sp2 dSome)) := by
  refine T.F_law_some.ok sc_law_some (fun vs H Q E h => Da.up_len2 h) (fun cdv A outer s H vs Q E hr h => ?_)
  refine ⟨_, (pss_cons (Da.ps_own 1 (ps_set (i := 2) sc_law_some.nd rfl (Or.inl rfl) (pe_lst pa_nil)))
      (pss_cons (ps_for PassesOwn.never rfl (pi_range1 (by rfl) T.z_range (pa_cons (pv 1) pa_nil)) (pg_name (i := 3) sc_law_some.nd rfl (Or.inl rfl))
        (pss_cons (ps_set (i := 4) sc_law_some.nd rfl (Or.inl rfl) (pe_ifExp (pt_cmpR op_lt (pe_call (ok_law_draw T) (hr.mono (by decide)) rfl T.m_law_draw T.F_law_draw.kp T.b_law_draw .nil pass0 (pa_cons (pv 0) (pa_cons pe_int pa_nil))) pe_int (nomark _)) (pe_call (ok_law_draw T) (hr.mono (by decide)) rfl T.m_law_draw T.F_law_draw.kp T.b_law_draw .nil pass0 (pa_cons (pv 0) (pa_cons pe_int pa_nil))) (pe_op (Da.addK (K := K) rfl) (pe_call (ok_law_ten T) (hr.mono (by decide)) rfl T.m_law_ten T.F_law_ten.kp T.b_law_ten .nil pass0 (pa_cons (pv 0) pa_nil)) (pe_call (ok_law_draw T) (hr.mono (by decide)) rfl T.m_law_draw T.F_law_draw.kp T.b_law_draw .nil pass0 (pa_cons (pv 0) (pa_cons pe_int pa_nil))))))
        (pss_cons (ps_set (i := 5) sc_law_some.nd rfl (Or.inl rfl) (pe_call (ok_law_pick T) (hr.mono (by decide)) rfl T.m_law_pick T.F_law_pick.kp T.b_law_pick .nil pass0 (pa_cons (pv 0) (pa_cons (pe_lst (pa_cons pe_int (pa_cons pe_int (pa_cons pe_int (pa_cons pe_int (pa_cons pe_int (pa_cons (pe_op (Da.addK (K := K) rfl) (pe_op op_pow pe_int pe_int) (pe_call (ok_law_draw T) (hr.mono (by decide)) rfl T.m_law_draw T.F_law_draw.kp T.b_law_draw .nil pass0 (pa_cons (pv 0) (pa_cons pe_int pa_nil)))) pa_nil))))))) pa_nil))))
        (pss_one (ps_expr (Da.bmK (K := K) rfl PySem.F.plainAttrs_list PySem.F.slot_list_append PySem.F.type_list_append mt_append (pv 2) (pa_cons (pe_tup (pa_cons (pv 4) (pa_cons (pv 5) pa_nil))) pa_nil)))))))
      (pss_one (ps_ret (pv 2))))), Da.go_up2 h ?_⟩
  intro pn a b n Q _ h
  unfold dSome at h
  obtain ⟨⟨p, q, rfl, rfl⟩, m, rfl, m0, m1, n1, h⟩ := h
  walk_at "w"
  intro l
  walk_at "w"
  refine ⟨by omega, ?_⟩
  refine for_inv (fun i Γ s => ∃ (rs : List Rn) (u3 u4 u5 : Option D) (n' : Nat), Γ = [some (.val (.ref p)), some (.int m), some (.loc l 1), u3, u4, u5] ∧ s = ⟨[⟨1, l, .lst (rs.map runD), false⟩], n', some (p, q)⟩ ∧ n' ≤ n + 12 * i ∧ RkS rs ∧ rs.length = i) ⟨[], _, _, _, n, rfl, rfl, Nat.le_refl _, ⟨fun _ z => nomatch z⟩, rfl⟩ ?_ ?_
  · rintro i d _ _ hi hd ⟨rs, u3, u4, u5, n2, rfl, rfl, h2, hr, hl⟩
    obtain ⟨hi, rfl⟩ := rng_at hd
    have hi8 : i < 8 := by omega
    walk_at "draw"
    intro k k0 k1
    walk_at "w"
    refine .dec (fun _ => ?_) (fun _ => ?_)
    · walk_at "draw"
      intro f f0 f1
      have hc : 0 ≤ f ∧ f ≤ 1000000000000000000000000001000 := by omega
      generalize f = c at hc ⊢
      walk_at "w"
      refine ⟨⟨by decide +kernel, by decide +kernel⟩, ?_⟩
      walk_at "draw"
      intro g g0 g1
      walk_at "w"
      generalize hten : (10 : Int) ^ Int.toNat 20 = ten
      have h10 : ten = 100000000000000000000 := by rw [← hten]; decide
      refine i_pickI (ns := [0, 1, 1, 7, 7, ten + g]) ⟨by walk_at "n", by show 0 < 6; decide, by show 6 < 1000000; decide⟩ (fun x hx => ?_)
      obtain ⟨x0, x1⟩ := pick_ok h10 g0 g1 hx
      walk_at "w"
      refine ⟨small1000 (by rw [List.length_map]; omega), ?_⟩
      exact ⟨rs ++ [(c, x)], _, _, _, _, rfl, by rw [List.map_append]; rfl, by walk_at "n", hr.snoc hc.1 hc.2 x0 x1, by rw [List.length_append, hl]; rfl⟩
    · walk_at "w"
      refine i_ten (by walk_at "n") (fun t0 n3 t1 t2 h5 => ?_)
      walk_at "draw"
      intro f f0 f1
      walk_at "w"
      have hc : 0 ≤ t0 + f ∧ t0 + f ≤ 1000000000000000000000000001000 := by omega
      generalize t0 + f = c at hc ⊢
      walk_at "w"
      refine ⟨⟨by decide +kernel, by decide +kernel⟩, ?_⟩
      walk_at "draw"
      intro g g0 g1
      walk_at "w"
      generalize hten : (10 : Int) ^ Int.toNat 20 = ten
      have h10 : ten = 100000000000000000000 := by rw [← hten]; decide
      refine i_pickI (ns := [0, 1, 1, 7, 7, ten + g]) ⟨by walk_at "n", by show 0 < 6; decide, by show 6 < 1000000; decide⟩ (fun x hx => ?_)
      obtain ⟨x0, x1⟩ := pick_ok h10 g0 g1 hx
      walk_at "w"
      refine ⟨small1000 (by rw [List.length_map]; omega), ?_⟩
      exact ⟨rs ++ [(c, x)], _, _, _, _, rfl, by rw [List.map_append]; rfl, by walk_at "n", hr.snoc hc.1 hc.2 x0 x1, by rw [List.length_append, hl]; rfl⟩
  · rintro _ _ ⟨rs, u3, u4, u5, n2, rfl, rfl, h2, hr, hl⟩
    have en : ((Src.rng 0 m.toNat).n : Int) ≤ m := by show (m.toNat : Int) ≤ m; omega
    have en8 : (Src.rng 0 m.toNat).n ≤ 8 := by omega
    walk_at "w"
    exact h rs n2 hr (by omega) (by omega)
theorem i_some {p q : Addr} {m : Int} {n : Nat} {Q : D → Nat → Prop} {X : XD} (m0 : 0 ≤ m) (m1 : m ≤ 8) (h : n < 549755812000) (k : ∀ (rs : List Rn) n', RkS rs → (rs.length : Int) ≤ m → n' ≤ n + 100 → Q (.lst (rs.map runD)) n') : dSome (some (p, q)) (.val (.ref p)) (.int m) n Q X := by
  unfold dSome
  exact ⟨⟨p, q, rfl, rfl⟩, m, rfl, m0, m1, h, k⟩
theorem acc_pl {rs : List Rn} : ∀ d ∈ rs.map runD, Pl 1 d := runs_pl
@[irreducible] def dMerged : R1 := fun _ a n Q _ => ∃ ps : List Rn, (a = .lst (ps.map runD) ∨ a = .tup (ps.map runD)) ∧ (∀ p ∈ ps, 0 ≤ p.1) ∧ ps.length ≤ 900 ∧ Q (.tup ((joinR ps).map runD)) n
theorem ok_law_merged (T : Tx w K mg) : FnOk P w K mg base CX0 1 T.f_law_merged T.d_law_merged ["_law_runs"] (Da.upSp K (sp1 dMerged)) := by
  refine T.F_law_merged.ok sc_law_merged (fun vs H Q E h => Da.up_len1 h) (fun cdv A outer s H vs Q E hr h => ?_)
  refine ⟨_, (pss_cons (Da.ps_own 1 (ps_set (i := 1) sc_law_merged.nd rfl (Or.inl rfl) (pe_lst pa_nil)))
      (pss_cons (ps_for PassesOwn.never rfl (Da.seqK (K := K) rfl (pv 0)) (Da.gtupK (n := 2) (K := K) rfl (by rfl) (pgs_cons (pg_name (i := 2) sc_law_merged.nd rfl (Or.inl rfl)) (pgs_cons (pg_name (i := 3) sc_law_merged.nd rfl (Or.inl rfl)) pgs_nil)))
        (pss_one (ps_if (PW.pt (pw_and (pt_cmpR op_gt (pv 2) pe_int (nomark _)) (pw_and (pt_cmpR (Da.neK (K := K) rfl hr.units) (pv 1) (pe_lst pa_nil) (nomark _)) (pw_and1 (pt_cmpR (Da.eqK (K := K) rfl hr.units) (pe_ix (Da.ixK (K := K) rfl) (pe_ix (Da.ixK (K := K) rfl) (pv 1) (pe_un un_neg pe_int) (fun _ _ => rfl)) pe_int (fun _ _ => rfl)) (pv 3) (nomark _))))))
          (pss_one (ps_asg (pe_tup (pa_cons (pe_op (Da.addK (K := K) rfl) (pe_ix (Da.ixK (K := K) rfl) (pe_ix (Da.ixK (K := K) rfl) (pv 1) (pe_un un_neg pe_int) (fun _ _ => rfl)) pe_int (fun _ _ => rfl)) (pv 2)) (pa_cons (pv 3) pa_nil))) (pg_sub (pv 1) (pe_un un_neg pe_int) set_list)))
          (pss_one (ps_if (pt_cmpR op_gt (pv 2) pe_int (nomark _))
            (pss_one (ps_expr (Da.bmK (K := K) rfl PySem.F.plainAttrs_list PySem.F.slot_list_append PySem.F.type_list_append mt_append (pv 1) (pa_cons (pe_tup (pa_cons (pv 2) (pa_cons (pv 3) pa_nil))) pa_nil))))
            pss_nil)))))
      (pss_one (ps_ret (pe_callTy (Da.tupleK (K := K) rfl) (by rfl) T.z_tuple (by decide +kernel) (pa_cons (pv 1) pa_nil)))))), Da.go_up1 h ?_⟩
  intro pn a n Q _ h
  unfold dMerged at h
  obtain ⟨ps, e, h0, hl, h⟩ := h
  rcases e with rfl | rfl
  all_goals
    walk_at "w"
    intro l
    walk_at "w"
    refine for_inv (fun i Γ s => ∃ (u0 u2 u3 : Option D), Γ = [u0, some (.loc l 1), u2, u3] ∧ s = ⟨[⟨1, l, .lst ((joinR (ps.take i)).map runD), false⟩], n, pn⟩) ⟨_, _, _, rfl, rfl⟩ ?_ ?_
    · rintro i d _ _ hi hd ⟨u0, u2, u3, rfl, rfl⟩
      obtain ⟨r, hr1, rfl⟩ := runs_at (seq_at hd)
      have hp := h0 r (List.mem_of_getElem? hr1)
      have hl2 := Jn.join_len (ps.take i)
      rw [List.length_take] at hl2
      have ej : joinR (ps.take (i + 1)) = jstep (joinR (ps.take i)) r := by rw [take_more hr1, Jn.join_snoc]
      generalize joinR (ps.take i) = acc at hl2 ej ⊢
      unfold jstep at ej
      walk_at "w"
      refine .dec (fun h0 => ?_) (fun h0 => ?_)
      · have h0 : 0 < r.1 := h0
        rw [if_neg (by omega)] at ej
        walk_at "w"
        refine ⟨⟨2, 1, by decide, by decide, acc_pl, fun d hd => nomatch hd⟩, ?_⟩
        rcases List.eq_nil_or_concat acc with rfl | ⟨bs, y, rfl⟩
        · walk_at "w"
          refine .nn rfl ?_
          walk_at "w"
          refine .y h0 ?_
          walk_at "w"
          refine ⟨_, _, _, rfl, ?_⟩
          rw [ej]
          rfl
        · rw [List.concat_eq_append] at ej hl2 ⊢
          have lb : bs.length + 1 ≤ i := by rw [List.length_append] at hl2; have : bs.length + 1 ≤ min i ps.length := hl2; omega
          rw [List.getLast?_append] at ej
          have ej : joinR (ps.take (i + 1)) = if y.2 = r.2 then (bs ++ [y]).dropLast ++ [(y.1 + r.1, r.2)] else bs ++ [y] ++ [r] := ej
          rw [List.dropLast_concat] at ej
          have em : (bs ++ [y]).map runD = bs.map runD ++ [runD y] := by rw [List.map_append]; rfl
          have em2 : bs.length = (bs.map runD).length := (List.length_map _).symm
          rw [em]
          walk_at "w"
          refine .ny (by simp) ?_
          walk_at "w"
          refine ⟨_, at_last, ?_⟩
          walk_at "w"
          refine .dec (fun he => ?_) (fun he => ?_)
          · walk_at "w"
            refine ⟨_, at_last, ?_⟩
            walk_at "w"
            refine ⟨(bs.map runD).length, by rw [List.length_append]; exact ix_last, ?_⟩
            rw [set_last]
            refine ⟨_, _, _, rfl, ?_⟩
            rw [ej, if_pos he, List.map_append]
            rfl
          · walk_at "w"
            refine .y h0 ?_
            walk_at "w"
            refine ⟨small1000 ?_, ?_⟩
            · rw [List.length_append, ← em2]
              have := (List.getElem?_eq_some_iff.mp hr1).1
              show bs.length + 1 ≤ 1000
              omega
            · refine ⟨_, _, _, rfl, ?_⟩
              rw [ej, if_neg he, List.map_append, List.map_append]
              rfl
      · have h0 : ¬ 0 < r.1 := h0
        rw [if_pos (by omega)] at ej
        walk_at "w"
        refine .n h0 ?_
        walk_at "w"
        exact ⟨_, _, _, rfl, by rw [ej]⟩
    · rintro _ _ ⟨u0, u2, u3, rfl, rfl⟩
      rw [runs_n, List.take_length]
      walk_at "w"
      exact h
theorem i_merged {pn : Option (Addr × Addr)} {n : Nat} {Q : D → Nat → Prop} {X : XD} {ps : List Rn} {a : D} (e : a = .lst (ps.map runD) ∨ a = .tup (ps.map runD)) (h0 : ∀ p ∈ ps, 0 ≤ p.1) (hl : ps.length ≤ 900) (h : Q (.tup ((joinR ps).map runD)) n) : dMerged pn a n Q X := by
  unfold dMerged
  exact ⟨ps, e, h0, hl, h⟩
@[irreducible] def dSizeL : R1 := fun _ a n Q _ => ∃ ps : List Rn, a = .tup (ps.map runD) ∧ ps.length ≤ 1000 ∧ Q (.int (ps.map (·.1)).sum) n
theorem ok_law_size (T : Tx w K mg) : FnOk P w K mg base CX0 1 T.f_law_size T.d_law_size ["_law_runs"] (Da.upSp K (sp1 dSizeL)) := by
  refine T.F_law_size.ok sc_law_size (fun vs H Q E h => Da.up_len1 h) (fun cdv A outer s H vs Q E hr h => ?_)
  refine ⟨_, (pss_one (ps_ret (pe_callB (Da.sumK (K := K) rfl rfl) (by rfl) T.z_sum (by decide +kernel) (pa_cons (pe_lc (g := gTup K 2 (gCons (gName 1) (gCons (gName 2) gNil))) rfl sc_law_size.nd (Da.seqK (K := K) rfl (pv 0)) (blkOk_by (own := [("_law_count", 1), ("_law_cell", 2)]) (N := ["_law_runs", "_law_count", "_law_cell"]) (sc := defScope s_law_size) (by decide +kernel)) (fun _ _ _ _ _ => (Da.gtupK (n := 2) (K := K) rfl (by rfl) (pgs_cons (pg_name (i := 1) sc_law_size.nd rfl (Or.inl rfl)) (pgs_cons (pg_name (i := 2) sc_law_size.nd rfl (Or.inl rfl)) pgs_nil)))) (fun _ _ _ _ _ => pts_nil) (fun _ _ _ _ _ => (pv 1))) pa_nil)))), Da.go_up1 h ?_⟩
  intro pn a n Q _ h
  unfold dSizeL at h
  obtain ⟨ps, rfl, hl, h⟩ := h
  walk_at "w"
  refine lc_inv (fun i acc s => acc = (ps.take i).map (fun r => D.int r.1) ∧ s = st0 n pn) (le1000 (by rw [runs_n]; omega)) ⟨rfl, rfl⟩ ?_ ?_
  · rintro i d _ _ hi hd _ ⟨rfl, rfl⟩
    obtain ⟨r, hr1, rfl⟩ := runs_at (seq_at hd)
    walk_at "w"
    refine ⟨?_, rfl⟩
    rw [take_more hr1, List.map_append]
    rfl
  rintro _ _ _ ⟨rfl, rfl⟩
  rw [runs_n, List.take_length]
  walk_at "w"
  refine ⟨ps.map (·.1), by rw [List.map_map]; rfl, ?_⟩
  walk_at "w"
  exact h
theorem i_sizeL {pn : Option (Addr × Addr)} {n : Nat} {Q : D → Nat → Prop} {X : XD} {ps : List Rn} {a : D} (e : a = .tup (ps.map runD)) (hl : ps.length ≤ 1000) (h : Q (.int (ps.map (·.1)).sum) n) : dSizeL pn a n Q X := by
  unfold dSizeL
  exact ⟨ps, e, hl, h⟩
@[irreducible] def dPartL : R3 := fun _ a b c n Q _ => ∃ (ps : List Rn) (st so : Int), a = .lst (ps.map runD) ∧ b = .int st ∧ c = .int so ∧ (∀ p ∈ ps, 0 ≤ p.1 ∧ 0 ≤ p.2) ∧ ps.length ≤ 900 ∧ Q (.tup ((joinR (pcsP st so 0 ps)).map runD)) n
theorem ok_law_part (T : Tx w K mg) : FnOk P w K mg base CX0 2 T.f_law_part T.d_law_part ["_law_runs", "_law_start", "_law_stop"] (Da.upSp K (sp3 dPartL)) := by
  refine T.F_law_part.ok sc_law_part (fun vs H Q E h => Da.up_len3 h) (fun cdv A outer s H vs Q E hr h => ?_)
  refine ⟨_, (pss_cons (Da.ps_own 1 (ps_set (i := 3) sc_law_part.nd rfl (Or.inl rfl) (pe_lst pa_nil)))
      (pss_cons (ps_set (i := 4) sc_law_part.nd rfl (Or.inl rfl) pe_int)
      (pss_cons (ps_for PassesOwn.never rfl (Da.seqK (K := K) rfl (pv 0)) (Da.gtupK (n := 2) (K := K) rfl (by rfl) (pgs_cons (pg_name (i := 5) sc_law_part.nd rfl (Or.inl rfl)) (pgs_cons (pg_name (i := 6) sc_law_part.nd rfl (Or.inl rfl)) pgs_nil)))
        (pss_cons (ps_expr (Da.bmK (K := K) rfl PySem.F.plainAttrs_list PySem.F.slot_list_append PySem.F.type_list_append mt_append (pv 3) (pa_cons (pe_tup (pa_cons (pe_callB (call_max2 rfl) (by rfl) T.z_max (by decide +kernel) (pa_cons pe_int (pa_cons (pe_op op_sub (pe_callB (call_min2 rfl) (by rfl) T.z_min (by decide +kernel) (pa_cons (pv 2) (pa_cons (pe_op (Da.addK (K := K) rfl) (pv 4) (pv 5)) pa_nil))) (pe_callB (call_max2 rfl) (by rfl) T.z_max (by decide +kernel) (pa_cons (pv 1) (pa_cons (pv 4) pa_nil)))) pa_nil))) (pa_cons (pv 6) pa_nil))) pa_nil)))
        (pss_one (ps_set (i := 4) sc_law_part.nd rfl (Or.inl rfl) (pe_op (Da.addK (K := K) rfl) (pv 4) (pv 5))))))
      (pss_one (ps_ret (pe_call (ok_law_merged T) (hr.mono (by decide)) rfl T.m_law_merged T.F_law_merged.kp T.b_law_merged .nil pass0 (pa_cons (pv 3) pa_nil))))))), Da.go_up3 h ?_⟩
  intro pn a b c n Q _ h
  unfold dPartL at h
  obtain ⟨ps, st, so, rfl, rfl, rfl, h0, hl, h⟩ := h
  walk_at "w"
  intro l
  walk_at "w"
  refine for_inv (fun i Γ s => ∃ (be : Int) (u5 u6 : Option D), Γ = [some (.lst (ps.map runD)), some (.int st), some (.int so), some (.loc l 1), some (.int be), u5, u6] ∧ s = ⟨[⟨1, l, .lst ((pcsP st so 0 (ps.take i)).map runD), false⟩], n, pn⟩ ∧ be = ((ps.take i).map (·.1)).sum) ⟨0, _, _, rfl, rfl, rfl⟩ ?_ ?_
  · rintro i d _ _ hi hd ⟨be, u5, u6, rfl, rfl, hbe⟩
    obtain ⟨r, hr, rfl⟩ := runs_at (seq_at hd)
    have hi2 := (List.getElem?_eq_some_iff.mp hr).1
    walk_at "w"
    refine ⟨small1000 (by rw [List.length_map, pcsP_len, List.length_take]; omega), ?_⟩
    walk_at "w"
    refine ⟨be + r.1, _, _, rfl, ?_, ?_⟩
    · rw [take_more hr, pcsP_snoc, List.map_append, ← hbe, Int.zero_add, Int.min_comm (be + r.1) so, Int.max_comm be st]
      rfl
    · rw [take_more hr, List.map_append, List.sum_append, ← hbe]
      show be + r.1 = be + (r.1 + 0)
      omega
  · rintro _ _ ⟨be, u5, u6, rfl, rfl, hbe⟩
    rw [runs_n, List.take_length]
    walk_at "w"
    have hp := pcsP_pos (a := st) (b := so) (be := 0) (fun r hr => (h0 r hr).2)
    refine i_merged (ps := pcsP st so 0 ps) (.inl rfl) (fun p q => (hp p q).1) (by rw [pcsP_len]; exact hl) ?_
    walk_at "w"
    exact h
theorem i_partL {pn : Option (Addr × Addr)} {n : Nat} {Q : D → Nat → Prop} {X : XD} {ps : List Rn} {a b c : D} {st so : Int} (e : a = .lst (ps.map runD)) (eb : b = .int st) (ec : c = .int so) (h0 : ∀ p ∈ ps, 0 ≤ p.1 ∧ 0 ≤ p.2) (hl : ps.length ≤ 900) (h : Q (.tup ((joinR (pcsP st so 0 ps)).map runD)) n) : dPartL pn a b c n Q X := by
  unfold dPartL
  exact ⟨ps, st, so, e, eb, ec, h0, hl, h⟩
end
end Lw

namespace Lw
open PySem L2
open Evl Da Hd
local macro_rules
  | `(tactic| walk_at "f") => `(tactic| first | exact lookF_put | exact lookF_hit | exact (lookF_skip (by decide +kernel) lookF_hit) | exact (lookF_skip (by decide +kernel) (lookF_skip (by decide +kernel) lookF_hit)) | exact (lookF_skip (by decide +kernel) (lookF_skip (by decide +kernel) (lookF_skip (by decide +kernel) lookF_hit))) | exact (lookF_skip (by decide +kernel) (lookF_skip (by decide +kernel) (lookF_skip (by decide +kernel) (lookF_skip (by decide +kernel) lookF_hit)))) | exact (lookF_skip (by decide +kernel) (lookF_skip (by decide +kernel) (lookF_skip (by decide +kernel) (lookF_skip (by decide +kernel) (lookF_skip (by decide +kernel) lookF_hit))))) | exact (lookF_skip (by decide +kernel) (lookF_skip (by decide +kernel) (lookF_skip (by decide +kernel) (lookF_skip (by decide +kernel) (lookF_skip (by decide +kernel) (lookF_skip (by decide +kernel) lookF_hit)))))) | ((refine lookF_other (by decide +kernel) ?_); walk_at "f") | ((refine lookF_skip (by decide +kernel) ?_); walk_at "f"))
  | `(tactic| walk_at "fl") => `(tactic| first | exact Nat.zero_lt_succ _ | ((refine putFD_lt ?_); walk_at "fl"))
  | `(tactic| walk_at "a") => `(tactic| first | exact le1000 (Nat.le_of_ble_eq_true rfl) | exact rfl | decide +kernel | exact And.intro (by with_reducible assumption) (by with_reducible assumption) | exact And.intro (And.intro (by with_reducible assumption) (by with_reducible assumption)) (by walk_at "fl"))
  | `(tactic| walk_at "w") => `(tactic| ((conv => whnf); repeat ((first | ((with_reducible refine And.intro ?_ ?_); (focus (walk_at "a"))) | ((with_reducible refine Br.yes ?_ ?_); (focus (first | exact rfl | decide +kernel))) | ((with_reducible refine Br.no ?_ ?_); (focus (first | exact rfl | decide +kernel))) | ((with_reducible refine ex_fld ?_); (refine fld_w (by walk_at "f") ?_)) | ((with_reducible refine ex_at ?_); (refine at_w rfl ?_))); (conv => whnf))))
  | `(tactic| walk_at "n") => `(tactic| ((try dsimp only [st0, st1, S.at, S.drop, S.own, S.put, S.frz, Src.n] at *); omega))
  | `(tactic| walk_at "draw") => `(tactic| ((try walk_at "w"); (refine i_draw ⟨by walk_at "n", by walk_at "n", by walk_at "n"⟩ ?_)))
open Jn (Rn expand joinR)
theorem exp_in {rs : List Rn} {i j : Nat} {r : Rn} (h : rs[i]? = some r) (hj : j < r.1.toNat) : (expand rs)[(expand (rs.take i)).length + j]? = some r.2 := by
  have e3 := Jn.expand_app (rs.take (i + 1)) (rs.drop (i + 1))
  rw [List.take_append_drop, exp_at2 h] at e3
  rw [e3, List.append_assoc, List.getElem?_append_right (Nat.le_add_right _ _), Nat.add_sub_cancel_left, List.getElem?_append_left (by rw [List.length_replicate]; exact hj), List.getElem?_replicate, if_pos hj]
theorem cell_pl {rs : List Rn} : ∀ d ∈ rs.map (fun r => D.int r.2), Pl 0 d := fun d hd => by
  obtain ⟨r, _, rfl⟩ := List.mem_map.mp hd
  trivial
theorem cell_mem {rs : List Rn} {z : Int} : D.int z ∈ rs.map (fun r => D.int r.2) ↔ z ∈ rs.map (·.2) := by
  rw [List.mem_map, List.mem_map]
  exact ⟨fun ⟨r, h, e⟩ => ⟨r, h, D.int.inj e⟩, fun ⟨r, h, e⟩ => ⟨r, h, congrArg D.int e⟩⟩
theorem same_b {k : Bool} {p : Prop} {ip : Decidable p} (h : k = true ↔ p) : (if true = true then !decide (k = if false = true then !decide p else decide p) else decide (k = if false = true then !decide p else decide p)) = false := by
  have e : decide p = k := by rw [Bool.eq_iff_iff, decide_eq_true_iff]; exact h.symm
  rw [if_pos rfl, if_neg Bool.false_ne_true, e]
  cases k <;> rfl
section
variable {P : Program} {w : World} {K : PySem.W.Frag} {mg : Str → Option Value} {base : Heap}
@[irreducible] def dFits (C : Addr) : R2' := fun _ a b n Q _ => ∃ ps : List Rn, a = rowG C (joinR ps) ∧ (b = .lst (ps.map runD) ∨ b = .tup (ps.map runD)) ∧ (∀ p ∈ ps, 0 ≤ p.1 ∧ 0 ≤ p.2) ∧ ps.length ≤ 900 ∧ Q (.bl true) n
theorem ok_law_fits (T : Tx w K mg) : FnOk P w K mg base CX0 4 T.f_law_fits T.d_law_fits ["_law_row", "_law_runs"] (Da.upSp K (sp2 (dFits T.c_Row))) := by
  refine T.F_law_fits.ok sc_law_fits (fun vs H Q E h => Da.up_len2 h) (fun cdv A outer s H vs Q E hr h => ?_)
  refine ⟨_, (pss_cons (ps_set (i := 2) sc_law_fits.nd rfl (Or.inl rfl) (pe_call (ok_law_merged T) (hr.mono (by decide)) rfl T.m_law_merged T.F_law_merged.kp T.b_law_merged .nil pass0 (pa_cons (pv 1) pa_nil)))
      (pss_cons (ps_if (PW.pt (pw_or (pt_cmpR (Da.neK (K := K) rfl hr.units) (Da.fldK (K := K) rfl (pv 0) rfl) (pv 2) (nomark _)) (pw_or (pt_not (pt_val (pe_callB (Da.isiK (K := K) rfl) (by rfl) T.z_isinstance (by decide +kernel) (pa_cons (Da.fldK (K := K) rfl (pv 0) rfl) (pa_cons (pe_bltn (v := .ty "tuple") (by rfl) T.z_tuple (by decide +kernel) rfl) pa_nil))))) (pw_or1 (pt_cmpR (Da.neK (K := K) rfl hr.units) (pe_prop (pv 0) T.cl_Row T.h_Row_size (ok_Row_size T) (hr.mono (by decide)) T.b_Row_size .nil pass0 rfl) (pe_call (ok_law_size T) (hr.mono (by decide)) rfl T.m_law_size T.F_law_size.kp T.b_law_size .nil pass0 (pa_cons (pv 2) pa_nil)) (nomark _))))))
        (pss_one (ps_ret pe_bl))
        pss_nil)
      (pss_cons (ps_set (i := 3) sc_law_fits.nd rfl (Or.inl rfl) pe_int)
      (pss_cons (ps_for PassesOwn.never rfl (Da.seqK (K := K) rfl (pv 2)) (Da.gtupK (n := 2) (K := K) rfl (by rfl) (pgs_cons (pg_name (i := 4) sc_law_fits.nd rfl (Or.inl rfl)) (pgs_cons (pg_name (i := 5) sc_law_fits.nd rfl (Or.inl rfl)) pgs_nil)))
        (pss_cons (ps_if (PW.pt (pw_or (pt_cmpR (Da.neK (K := K) rfl hr.units) (pe_meth (pv 0) T.cl_Row T.h_Row_cell_at (ok_Row_cell_at T) (hr.mono (by decide)) T.b_Row_cell_at .nil pass0 (pa_cons (pv 3) pa_nil)) (pv 5) (nomark _)) (pw_or (pt_cmpR (Da.neK (K := K) rfl hr.units) (pe_meth (pv 0) T.cl_Row T.h_Row_cell_at (ok_Row_cell_at T) (hr.mono (by decide)) T.b_Row_cell_at .nil pass0 (pa_cons (pe_op op_sub (pe_op (Da.addK (K := K) rfl) (pv 3) (pv 4)) pe_int) pa_nil)) (pv 5) (nomark _)) (pw_or1 (pt_cmpR (Da.ninOwn (K := K) rfl (ok_Row___contains T) T.hs_Row___contains T.hf_Row___contains T.b_Row___contains pass0 (hr.mono (by decide))) (pv 5) (pv 0) (by rfl))))))
          (pss_one (ps_ret pe_bl))
          pss_nil)
        (pss_cons (ps_if (pt_cmpR (Da.neK (K := K) rfl hr.units) (pe_meth (pv 0) T.cl_Row T.h_Row_cell_at (ok_Row_cell_at T) (hr.mono (by decide)) T.b_Row_cell_at .nil pass0 (pa_cons (pe_op (Da.addK (K := K) rfl) (pv 3) (pe_op Da.op_divA (pv 4) pe_int)) pa_nil)) (pv 5) (nomark _))
          (pss_one (ps_ret pe_bl))
          pss_nil)
        (pss_one (ps_set (i := 3) sc_law_fits.nd rfl (Or.inl rfl) (pe_op (Da.addK (K := K) rfl) (pv 3) (pv 4)))))))
      (pss_cons (ps_set (i := 6) sc_law_fits.nd rfl (Or.inr rfl) (pe_lc (g := gTup K 2 (gCons (gName 4) (gCons (gName 5) gNil))) rfl sc_law_fits.nd (Da.seqK (K := K) rfl (pv 2)) (blkOk_by (own := [("_law_count", 4), ("_law_cell", 5)]) (N := ["_law_row", "_law_runs", "_law_due", "_law_place", "_law_count", "_law_cell", "_law_cells"]) (sc := defScope s_law_fits) (by decide +kernel)) (fun _ _ _ _ _ => (Da.gtupK (n := 2) (K := K) rfl (by rfl) (pgs_cons (pg_name (i := 4) sc_law_fits.nd rfl (Or.inl rfl)) (pgs_cons (pg_name (i := 5) sc_law_fits.nd rfl (Or.inl rfl)) pgs_nil)))) (fun _ _ _ _ _ => pts_nil) (fun _ _ _ _ _ => (pv 5))))
      (pss_one (ps_ret (pe_cmpR (Da.eqK (K := K) rfl hr.units) (pe_lc rfl sc_law_fits.nd (Da.seqK (K := K) rfl (pe_lst (pa_cons pe_int (pa_cons pe_int (pa_cons pe_int (pa_cons pe_int (pa_cons (pe_op op_pow pe_int pe_int) pa_nil))))))) (blkOk_by (own := [("_law_cell", 5)]) (N := ["_law_row", "_law_runs", "_law_due", "_law_place", "_law_count", "_law_cell", "_law_cells"]) (sc := defScope s_law_fits) (by decide +kernel)) (fun _ _ _ _ _ => (pg_name (i := 5) sc_law_fits.nd rfl (Or.inl rfl))) (fun _ _ _ _ _ => (pts_one (pt_cmpR (Da.neK (K := K) rfl hr.units) (pe_cmpR (Da.inOwn (K := K) rfl (ok_Row___contains T) T.hs_Row___contains T.hf_Row___contains T.b_Row___contains pass0 (hr.mono (by decide))) (pv 5) (pv 0) (by rfl)) (pe_cmpR (Da.inK (K := K) rfl (Da.u65 hr)) (pv 5) (pv 6) (by rfl)) (nomark _)))) (fun _ _ _ _ _ => (pv 5))) (pe_lst pa_nil) (nomark _))))))))), Da.go_up2 h ?_⟩
  intro pn a b n Q _ h
  unfold dFits at h
  obtain ⟨ps, rfl, hb, h0, hl, h⟩ := h
  rcases hb with rfl | rfl
  all_goals
    have c1 := T.cl_Row
    have c2 := T.n_Row_runs
    have jl := Jn.join_len ps
    have ho : RunsOk (joinR ps) := join_runs (fun r hr => (h0 r hr).1) (by omega)
    have hc := join_cells h0
    walk_at "w"
    refine i_merged (by first | exact .inl rfl | exact .inr rfl) (fun r hr => (h0 r hr).1) hl ?_
    clear h0
    generalize joinR ps = rs at h ho hc jl ⊢
    unfold rowG
    walk_at "w"
    refine ⟨⟨2, 2, by decide, by decide, runs_pl, runs_pl⟩, ?_⟩
    walk_at "w"
    refine .nn rfl ?_
    walk_at "w"
    refine ⟨true, T.kit_tuple_tuple, ?_⟩
    walk_at "w"
    refine i_size ho ?_
    walk_at "w"
    refine i_sizeL rfl (by omega) ?_
    rw [Jn.size_of ho.pos]
    walk_at "w"
    refine .nn rfl ?_
    walk_at "w"
    refine for_inv (fun i Γ s => ∃ (u1 u4 u5 u6 : Option D), Γ = [some (.obj T.c_Row [("runs", .tup (rs.map runD))]), u1, some (.tup (rs.map runD)), some (.int ((expand (rs.take i)).length : Int)), u4, u5, u6] ∧ s = st0 n pn) ⟨_, _, _, _, rfl, rfl⟩ ?_ ?_
    · rintro i d _ _ hi hd ⟨u1, u4, u5, u6, rfl, rfl⟩
      obtain ⟨r, hr, rfl⟩ := runs_at (seq_at hd)
      have hm := List.mem_of_getElem? hr
      have h1 := ho.pos r hm
      walk_at "w"
      refine i_cell_at rfl ho (exp_in (j := 0) hr (by omega)) ?_
      walk_at "w"
      refine .nn rfl ?_
      walk_at "w"
      refine i_cell_at (p := (expand (rs.take i)).length + (r.1.toNat - 1)) (by rw [show ((expand (rs.take i)).length : Int) + r.1 - 1 = (((expand (rs.take i)).length + (r.1.toNat - 1) : Nat) : Int) by omega]) ho (exp_in hr (by omega)) ?_
      walk_at "w"
      refine .nn rfl ?_
      walk_at "w"
      refine i_cont rfl ho (fun k hk => ?_)
      obtain rfl : k = true := hk.mpr (List.mem_map.mpr ⟨r, hm, rfl⟩)
      walk_at "w"
      refine i_cell_at (p := (expand (rs.take i)).length + r.1.toNat / 2) ?_ ho (exp_in hr (by omega)) ?_
      · rw [show r.1 / 2 = ((r.1.toNat / 2 : Nat) : Int) by omega]
        rfl
      walk_at "w"
      refine .nn rfl ?_
      walk_at "w"
      have e9 : ((expand (rs.take i)).length : Int) + r.1 = ((expand (rs.take (i + 1))).length : Int) := by rw [exp_at2 hr, List.length_append, List.length_replicate]; omega
      rw [e9]
      exact ⟨_, _, _, _, rfl, rfl⟩
    · rintro _ _ ⟨u1, u4, u5, u6, rfl, rfl⟩
      walk_at "w"
      refine lc_inv (fun i acc s => acc = (rs.take i).map (fun r => D.int r.2) ∧ s = st0 n pn) (le1000 (by rw [runs_n]; omega)) ⟨rfl, rfl⟩ ?_ ?_
      · rintro i d _ _ hi hd _ ⟨rfl, rfl⟩
        obtain ⟨r, hr1, rfl⟩ := runs_at (seq_at hd)
        walk_at "w"
        refine ⟨?_, rfl⟩
        rw [take_more hr1, List.map_append]
        rfl
      rintro _ _ _ ⟨rfl, rfl⟩
      rw [runs_n, List.take_length]
      walk_at "w"
      refine ⟨⟨by decide +kernel, by decide +kernel⟩, ?_⟩
      generalize hten : (10 : Int) ^ Int.toNat 20 = ten
      walk_at "w"
      refine lc_inv (fun i acc s => acc = [] ∧ s = st0 n pn) (le1000 (by show 5 ≤ 1000; decide)) ⟨rfl, rfl⟩ ?_ ?_
      · rintro i d _ _ hi hd _ ⟨rfl, rfl⟩
        obtain ⟨z, rfl⟩ : ∃ z : Int, d = .int z := by
          have hd := seq_at hd
          match i, hd with
          | 0, hd => cases hd; exact ⟨_, rfl⟩
          | 1, hd => cases hd; exact ⟨_, rfl⟩
          | 2, hd => cases hd; exact ⟨_, rfl⟩
          | 3, hd => cases hd; exact ⟨_, rfl⟩
          | 4, hd => cases hd; exact ⟨_, rfl⟩
          | i + 5, hd => cases hd
        walk_at "w"
        refine i_cont rfl ho (fun k hk => ?_)
        walk_at "w"
        refine ⟨⟨0, by decide, trivial, cell_pl⟩, ?_⟩
        walk_at "w"
        refine Br.no (same_b (hk.trans (cell_mem (rs := rs)).symm)) ?_
        exact ⟨rfl, rfl⟩
      rintro _ _ _ ⟨rfl, rfl⟩
      walk_at "w"
      refine ⟨⟨1, 1, by decide, by decide, (fun d hd => nomatch hd), (fun d hd => nomatch hd)⟩, ?_⟩
      walk_at "w"
      rw [if_neg Bool.false_ne_true]
      refine (congrArg (fun b => Q (.bl b) n) ?_).mpr h
      exact dec_t rfl
theorem i_fits {pn : Option (Addr × Addr)} {n : Nat} {Q : D → Nat → Prop} {X : XD} {C : Addr} {ps rs : List Rn} {a b : D} (ea : a = rowG C rs) (ej : rs = joinR ps) (e : b = .lst (ps.map runD) ∨ b = .tup (ps.map runD)) (h0 : ∀ p ∈ ps, 0 ≤ p.1 ∧ 0 ≤ p.2) (hl : ps.length ≤ 900) (h : Q (.bl true) n) : dFits C pn a b n Q X := by
  unfold dFits
  exact ⟨ps, by rw [ea, ej], e, h0, hl, h⟩
end
end Lw

namespace Lw
open PySem L2
open Evl Da Hd
local macro_rules
  | `(tactic| walk_at "f") => `(tactic| first | exact lookF_put | exact lookF_hit | exact (lookF_skip (by decide +kernel) lookF_hit) | exact (lookF_skip (by decide +kernel) (lookF_skip (by decide +kernel) lookF_hit)) | exact (lookF_skip (by decide +kernel) (lookF_skip (by decide +kernel) (lookF_skip (by decide +kernel) lookF_hit))) | exact (lookF_skip (by decide +kernel) (lookF_skip (by decide +kernel) (lookF_skip (by decide +kernel) (lookF_skip (by decide +kernel) lookF_hit)))) | exact (lookF_skip (by decide +kernel) (lookF_skip (by decide +kernel) (lookF_skip (by decide +kernel) (lookF_skip (by decide +kernel) (lookF_skip (by decide +kernel) lookF_hit))))) | exact (lookF_skip (by decide +kernel) (lookF_skip (by decide +kernel) (lookF_skip (by decide +kernel) (lookF_skip (by decide +kernel) (lookF_skip (by decide +kernel) (lookF_skip (by decide +kernel) lookF_hit)))))) | ((refine lookF_other (by decide +kernel) ?_); walk_at "f") | ((refine lookF_skip (by decide +kernel) ?_); walk_at "f"))
  | `(tactic| walk_at "fl") => `(tactic| first | exact Nat.zero_lt_succ _ | ((refine putFD_lt ?_); walk_at "fl"))
  | `(tactic| walk_at "a") => `(tactic| first | exact le1000 (Nat.le_of_ble_eq_true rfl) | exact rfl | decide +kernel | exact And.intro (by with_reducible assumption) (by with_reducible assumption) | exact And.intro (And.intro (by with_reducible assumption) (by with_reducible assumption)) (by walk_at "fl"))
  | `(tactic| walk_at "w") => `(tactic| ((conv => whnf); repeat ((first | ((with_reducible refine And.intro ?_ ?_); (focus (walk_at "a"))) | ((with_reducible refine Br.yes ?_ ?_); (focus (first | exact rfl | decide +kernel))) | ((with_reducible refine Br.no ?_ ?_); (focus (first | exact rfl | decide +kernel))) | ((with_reducible refine ex_fld ?_); (refine fld_w (by walk_at "f") ?_)) | ((with_reducible refine ex_at ?_); (refine at_w rfl ?_))); (conv => whnf))))
  | `(tactic| walk_at "n") => `(tactic| ((try dsimp only [st0, st1, S.at, S.drop, S.own, S.put, S.frz, Src.n] at *); omega))
  | `(tactic| walk_at "draw") => `(tactic| ((try walk_at "w"); (refine i_draw ⟨by walk_at "n", by walk_at "n", by walk_at "n"⟩ ?_)))
open Jn (Rn expand joinR)
theorem sum_nn {rs : List Rn} (h : ∀ r ∈ rs, 0 ≤ r.1) : 0 ≤ (rs.map (·.1)).sum := by
  induction rs with
  | nil => exact Int.le_refl _
  | cons x l ih =>
    rw [List.map_cons, List.sum_cons]
    have h1 := h x List.mem_cons_self
    have h2 := ih (fun r q => h r (List.mem_cons_of_mem _ q))
    omega
theorem sum_take {rs : List Rn} {i : Nat} {r : Rn} (h : rs[i]? = some r) : ((rs.take (i + 1)).map (·.1)).sum = ((rs.take i).map (·.1)).sum + r.1 := by
  rw [take_more h, List.map_append, List.sum_append]
  show _ + (r.1 + 0) = _
  omega
theorem sum_le {rs : List Rn} (h : ∀ r ∈ rs, 0 ≤ r.1) (i : Nat) : ((rs.take i).map (·.1)).sum ≤ (rs.map (·.1)).sum := by
  have e : (rs.map (·.1)).sum = ((rs.take i).map (·.1)).sum + ((rs.drop i).map (·.1)).sum := by rw [← List.sum_append, ← List.map_append, List.take_append_drop]
  have := sum_nn (rs := rs.drop i) (fun r q => h r (List.mem_of_mem_drop q))
  omega
section
variable {P : Program} {w : World} {K : PySem.W.Frag} {mg : Str → Option Value} {base : Heap}
@[irreducible] def dPlaces : R1 := fun _ a n Q _ => ∃ rs : List Rn, a = .tup (rs.map runD) ∧ (∀ r ∈ rs, 0 ≤ r.1) ∧ rs.length ≤ 100 ∧ ∀ xs : List Int, (∀ x ∈ xs, 0 ≤ x ∧ x ≤ (rs.map (·.1)).sum) → 0 < xs.length → xs.length ≤ 2 + 4 * rs.length → Q (.lst (xs.map D.int)) n
theorem ok_law_places (T : Tx w K mg) : FnOk P w K mg base CX0 2 T.f_law_places T.d_law_places ["_law_runs"] (Da.upSp K (sp1 dPlaces)) := by
  refine T.F_law_places.ok sc_law_places (fun vs H Q E h => Da.up_len1 h) (fun cdv A outer s H vs Q E hr h => ?_)
  refine ⟨_, (pss_cons (ps_set (i := 1) sc_law_places.nd rfl (Or.inl rfl) (pe_call (ok_law_size T) (hr.mono (by decide)) rfl T.m_law_size T.F_law_size.kp T.b_law_size .nil pass0 (pa_cons (pv 0) pa_nil)))
      (pss_cons (ps_set (i := 2) sc_law_places.nd rfl (Or.inl rfl) (pe_lst (pa_cons pe_int (pa_cons (pv 1) pa_nil))))
      (pss_cons (ps_set (i := 3) sc_law_places.nd rfl (Or.inl rfl) pe_int)
      (pss_cons (ps_for PassesOwn.never rfl (Da.seqK (K := K) rfl (pv 0)) (Da.gtupK (n := 2) (K := K) rfl (by rfl) (pgs_cons (pg_name (i := 4) sc_law_places.nd rfl (Or.inl rfl)) (pgs_cons (pg_name (i := 5) sc_law_places.nd rfl (Or.inl rfl)) pgs_nil)))
        (pss_cons (ps_set (i := 3) sc_law_places.nd rfl (Or.inl rfl) (pe_op (Da.addK (K := K) rfl) (pv 3) (pv 4)))
        (pss_one (ps_set (i := 2) sc_law_places.nd rfl (Or.inl rfl) (pe_op (Da.addK (K := K) rfl) (pv 2) (pe_lst (pa_cons (pv 3) (pa_cons (pe_callB (call_max2 rfl) (by rfl) T.z_max (by decide +kernel) (pa_cons pe_int (pa_cons (pe_op op_sub (pv 3) pe_int) pa_nil))) (pa_cons (pe_callB (call_min2 rfl) (by rfl) T.z_min (by decide +kernel) (pa_cons (pv 1) (pa_cons (pe_op (Da.addK (K := K) rfl) (pv 3) pe_int) pa_nil))) (pa_cons (pe_op op_sub (pv 3) (pe_op Da.op_divA (pv 4) pe_int)) pa_nil))))))))))
      (pss_one (ps_ret (pv 2))))))), Da.go_up1 h ?_⟩
  intro pn a n Q _ h
  unfold dPlaces at h
  obtain ⟨rs, rfl, h0, hl, h⟩ := h
  have hn := sum_nn h0
  walk_at "w"
  refine i_sizeL rfl (by omega) ?_
  walk_at "w"
  generalize hS : (rs.map (·.1)).sum = S at hn h ⊢
  refine for_inv (fun i Γ s => ∃ (xs : List Int) (u4 u5 : Option D), Γ = [some (.tup (rs.map runD)), some (.int S), some (.lst (xs.map D.int)), some (.int ((rs.take i).map (·.1)).sum), u4, u5] ∧ s = st0 n pn ∧ (∀ x ∈ xs, 0 ≤ x ∧ x ≤ S) ∧ xs.length = 2 + 4 * i) ⟨[0, S], _, _, rfl, rfl, ?_, rfl⟩ ?_ ?_
  · intro x hx
    rcases List.mem_cons.mp hx with rfl | hx
    · omega
    · obtain rfl := List.mem_singleton.mp hx
      omega
  · rintro i d _ _ hi hd ⟨xs, u4, u5, rfl, rfl, hx, hlen⟩
    obtain ⟨r, hr, rfl⟩ := runs_at (seq_at hd)
    have hp := h0 r (List.mem_of_getElem? hr)
    have hi2 := (List.getElem?_eq_some_iff.mp hr).1
    have e1 := sum_take hr
    have e2 := sum_le h0 (i + 1)
    have e3 := sum_nn (rs := rs.take i) (fun x q => h0 x (List.mem_of_mem_take q))
    rw [hS] at e2
    rw [e1] at e2
    walk_at "w"
    refine ⟨le1000 (by rw [List.length_map, hlen]; show 2 + 4 * i + 4 ≤ 1000; omega), ?_⟩
    walk_at "w"
    refine ⟨xs ++ [((rs.take i).map (·.1)).sum + r.1, max 0 (((rs.take i).map (·.1)).sum + r.1 - 1), min S (((rs.take i).map (·.1)).sum + r.1 + 1), ((rs.take i).map (·.1)).sum + r.1 - r.1 / 2], some (.int r.1), some (.int r.2), ?_, rfl, ?_, by rw [List.length_append, hlen]; show 2 + 4 * i + 4 = _; omega⟩
    · rw [e1, List.map_append]
      rfl
    · intro x hx2
      rcases List.mem_append.mp hx2 with q | q
      · exact hx x q
      · simp only [List.mem_cons, List.not_mem_nil, or_false] at q
        omega
  · rintro _ _ ⟨xs, u4, u5, rfl, rfl, hx, hlen⟩
    walk_at "w"
    refine h xs hx (by omega) ?_
    rw [hlen, runs_n]
    exact Nat.le_refl _
theorem i_places {pn : Option (Addr × Addr)} {n : Nat} {Q : D → Nat → Prop} {X : XD} {rs : List Rn} (h0 : ∀ r ∈ rs, 0 ≤ r.1) (hl : rs.length ≤ 100) (h : ∀ xs : List Int, (∀ x ∈ xs, 0 ≤ x ∧ x ≤ (rs.map (·.1)).sum) → 0 < xs.length → xs.length ≤ 2 + 4 * rs.length → Q (.lst (xs.map D.int)) n) : dPlaces pn (.tup (rs.map runD)) n Q X := by
  unfold dPlaces
  exact ⟨rs, rfl, h0, hl, h⟩
theorem part_same {ps : List Rn} {st so : Nat} (h : ∀ p ∈ ps, 0 ≤ p.1 ∧ 0 ≤ p.2) : joinR (pcsP (st : Int) (so : Int) 0 (joinR ps)) = joinR (joinR (pcsP (st : Int) (so : Int) 0 ps)) := by
  have h1 : ∀ p ∈ ps, 0 ≤ p.1 := fun p q => (h p q).1
  have hj := Jn.join_ok h1
  have hj1 : ∀ p ∈ joinR ps, 0 ≤ p.1 := fun p q => by have := hj.1 p q; omega
  have p1 := pcsP_pos (a := (st : Int)) (b := (so : Int)) (be := 0) (rs := ps) (fun p q => (h p q).2)
  have p2 := pcsP_pos (a := (st : Int)) (b := (so : Int)) (be := 0) (rs := joinR ps) (join_cells h)
  have hk := Jn.join_ok (fun p q => (p1 p q).1)
  refine Jn.join_uniq (fun p q => (p2 p q).1) (fun p q => by have := hk.1 p q; omega) ?_
  rw [hk.2]
  have e1 := pcsP_ok (a := st) (b := so) (rs := ps) (be := 0) h1
  have e2 := pcsP_ok (a := st) (b := so) (rs := joinR ps) (be := 0) hj1
  refine e2.trans ?_
  rw [hj.2]
  exact e1.symm
@[irreducible] def dPartsFit (C : Addr) : R3 := fun pn a b c n Q _ => IsPen pn a ∧ ∃ ps : List Rn, b = rowG C (joinR ps) ∧ c = .lst (ps.map runD) ∧ (∀ p ∈ ps, 0 ≤ p.1 ∧ 0 ≤ p.2) ∧ ps.length ≤ 100 ∧ n < 549755810000 ∧ ∀ n', n' ≤ n + 20 → Q (.bl true) n'
theorem ok_law_parts_fit (T : Tx w K mg) : FnOk P w K mg base CX0 8 T.f_law_parts_fit T.d_law_parts_fit ["_law_pen", "_law_row", "_law_runs"] (Da.upSp K (sp3 (dPartsFit T.c_Row))) := by
  refine T.F_law_parts_fit.ok sc_law_parts_fit (fun vs H Q E h => Da.up_len3 h) (fun cdv A outer s H vs Q E hr h => ?_)
  refine ⟨_, (pss_cons (ps_set (i := 3) sc_law_parts_fit.nd rfl (Or.inl rfl) (pe_call (ok_law_places T) (hr.mono (by decide)) rfl T.m_law_places T.F_law_places.kp T.b_law_places .nil pass0 (pa_cons (pe_call (ok_law_merged T) (hr.mono (by decide)) rfl T.m_law_merged T.F_law_merged.kp T.b_law_merged .nil pass0 (pa_cons (pv 2) pa_nil)) pa_nil)))
      (pss_cons (ps_for PassesOwn.never rfl (pi_range1 (by rfl) T.z_range (pa_cons pe_int pa_nil)) (pg_name (i := 4) sc_law_parts_fit.nd rfl (Or.inl rfl))
        (pss_cons (ps_set (i := 5) sc_law_parts_fit.nd rfl (Or.inl rfl) (pe_call (ok_law_pick T) (hr.mono (by decide)) rfl T.m_law_pick T.F_law_pick.kp T.b_law_pick .nil pass0 (pa_cons (pv 0) (pa_cons (pv 3) pa_nil))))
        (pss_cons (ps_set (i := 6) sc_law_parts_fit.nd rfl (Or.inl rfl) (pe_call (ok_law_pick T) (hr.mono (by decide)) rfl T.m_law_pick T.F_law_pick.kp T.b_law_pick .nil pass0 (pa_cons (pv 0) (pa_cons (pv 3) pa_nil))))
        (pss_one (ps_if (pt_not (pt_val (pe_call (ok_law_fits T) (hr.mono (by decide)) rfl T.m_law_fits T.F_law_fits.kp T.b_law_fits .nil pass0 (pa_cons (pe_meth (pv 1) T.cl_Row T.h_Row_part (ok_Row_part T) (hr.mono (by decide)) T.b_Row_part .nil pass0 (pa_cons (pv 5) (pa_cons (pv 6) pa_nil))) (pa_cons (pe_call (ok_law_part T) (hr.mono (by decide)) rfl T.m_law_part T.F_law_part.kp T.b_law_part .nil pass0 (pa_cons (pv 2) (pa_cons (pv 5) (pa_cons (pv 6) pa_nil)))) pa_nil)))))
          (pss_one (ps_ret pe_bl))
          pss_nil)))))
      (pss_one (ps_ret pe_bl)))), Da.go_up3 h ?_⟩
  intro pn a b c n Q _ h
  unfold dPartsFit at h
  obtain ⟨⟨p, q, rfl, rfl⟩, ps, rfl, rfl, h0, hl, n1, h⟩ := h
  have jl := Jn.join_len ps
  have ho : RunsOk (joinR ps) := join_runs (fun r hr => (h0 r hr).1) (by omega)
  have hc := join_cells h0
  walk_at "w"
  refine i_merged (.inl rfl) (fun r hr => (h0 r hr).1) (by omega) ?_
  walk_at "w"
  refine i_places (fun r hr => by have := ho.pos r hr; omega) (by omega) (fun xs hx x0 xl => ?_)
  rw [Jn.size_of ho.pos] at hx
  walk_at "w"
  refine for_inv (fun i Γ s => ∃ (n' : Nat) (u4 u5 u6 : Option D), Γ = [some (.val (.ref p)), some (rowG T.c_Row (joinR ps)), some (.lst (ps.map runD)), some (.lst (xs.map D.int)), u4, u5, u6] ∧ s = st0 n' (some (p, q)) ∧ n' ≤ n + 2 * i) ⟨n, _, _, _, rfl, rfl, Nat.le_refl _⟩ ?_ ?_
  · rintro i d _ _ hi hd ⟨n2, u4, u5, u6, rfl, rfl, h2⟩
    obtain ⟨hi, rfl⟩ := rng_at hd
    have hi4 : i < 4 := hi
    walk_at "w"
    refine i_pickI ⟨by walk_at "n", x0, by omega⟩ (fun x hx1 => ?_)
    obtain ⟨x1, x2⟩ := hx x hx1
    walk_at "w"
    refine i_pickI ⟨by walk_at "n", x0, by omega⟩ (fun y hy1 => ?_)
    obtain ⟨y1, y2⟩ := hx y hy1
    obtain ⟨st, rfl⟩ : ∃ k : Nat, x = (k : Int) := ⟨x.toNat, by omega⟩
    obtain ⟨so, rfl⟩ : ∃ k : Nat, y = (k : Int) := ⟨y.toNat, by omega⟩
    walk_at "w"
    refine i_part (st := st) (so := so) rfl rfl ho hc (by omega) (by omega) ?_
    walk_at "w"
    refine i_partL rfl rfl rfl h0 (by omega) ?_
    walk_at "w"
    have p1 := pcsP_pos (a := (st : Int)) (b := (so : Int)) (be := 0) (rs := ps) (fun p q => (h0 p q).2)
    have hk := Jn.join_ok (fun p q => (p1 p q).1)
    have jl2 := Jn.join_len (pcsP (st : Int) (so : Int) 0 ps)
    rw [pcsP_len] at jl2
    refine i_fits rfl (part_same h0) (.inr rfl) (fun p q => ⟨by have := hk.1 p q; omega, join_cells p1 p q⟩) (by omega) ?_
    walk_at "w"
    exact ⟨_, _, _, _, rfl, rfl, by walk_at "n"⟩
  · rintro _ _ ⟨n2, u4, u5, u6, rfl, rfl, h2⟩
    walk_at "w"
    exact h n2 (by have h2 : n2 ≤ n + 2 * 4 := h2; omega)
theorem i_parts_fit {p q : Addr} {n : Nat} {Q : D → Nat → Prop} {X : XD} {C : Addr} {ps : List Rn} (h0 : ∀ p ∈ ps, 0 ≤ p.1 ∧ 0 ≤ p.2) (hl : ps.length ≤ 100) (h : n < 549755810000) (k : ∀ n', n' ≤ n + 20 → Q (.bl true) n') : dPartsFit C (some (p, q)) (.val (.ref p)) (rowG C (joinR ps)) (.lst (ps.map runD)) n Q X := by
  unfold dPartsFit
  exact ⟨⟨p, q, rfl, rfl⟩, ps, rfl, rfl, h0, hl, h, k⟩
end
end Lw

/-! Readings over data: one's own list lent within an expression, changed afterwards (own). -/
namespace Da
open PySem PySem.Spec PyProof.Rows L2 Evl Hd
/-- data without lists -/
inductive Nl : D → Prop
  | non : Nl .non
  | bl {b : Bool} : Nl (.bl b)
  | int {i : Int} : Nl (.int i)
  | str {x : Str} : Nl (.str x)
  | val {v : V} : Nl (.val v)
  | loc {a : Addr} {h : Nat} : Nl (.loc a h)
  | tup {ds : List D} : (∀ d ∈ ds, Nl d) → Nl (.tup ds)
  | obj {C : Addr} {fs : List (Str × D)} : (∀ f ∈ fs, Nl f.2) → Nl (.obj C fs)
inductive NlM : MO → Prop
  | lst {ds : List D} : (∀ d ∈ ds, Nl d) → NlM (.lst ds)
  | obj {C : Addr} {fs : List (Str × D)} : (∀ f ∈ fs, Nl f.2) → NlM (.obj C fs)
  | nk {P : Program} {w : World} {es : List (List NestedKey × NV)} : NlM (.nk P w es)
def mthaw : List Ent → Nat → List Ent
  | [], _ => []
  | e :: r, h => match Nat.beq e.h h with
    | true => ⟨e.h, e.a, e.o, false⟩ :: r
    | false => e :: mthaw r h
def S.thaw (s : S) (h : Nat) : S := { s with M := mthaw s.M h }
section
variable {K : PySem.W.Frag} {F : Fr} {s s' : S} {H H' Hv Hv' : Hp}
structure LessL (Hv Hv' : Hp) (p : Addr) : Prop where
  ne : ∀ a, a ≠ p → ∀ o, Hv a = some o → Hv' a = some o
  at_ : ∃ xs, ∀ o, Hv p = some o → o = .lst xs
theorem LessL.sqt {p a : Addr} {xs : List V} (l : LessL Hv Hv' p) (h : SqT K Hv a xs) : SqT K Hv' a xs := by
  obtain ⟨xs, q⟩ := l.at_
  rcases h with (h | ⟨o, h⟩) | h
  · exact .inl (.inl (l.ne a (fun e => by subst e; cases q _ h) _ h))
  · exact .inl (.inr ⟨o, l.ne a (fun e => by subst e; cases q _ h) _ h⟩)
  · exact .inr h
theorem LessL.ins {p a : Addr} {C dx : Addr} {fs : List (Str × V)} (l : LessL Hv Hv' p) (h : Hv a = some (.ins C dx fs)) : Hv' a = some (.ins C dx fs) := by
  obtain ⟨xs, q⟩ := l.at_
  exact l.ne a (fun e => by subst e; cases q _ h) _ h
theorem repF_map : ∀ {vs : List (Str × V)} {ds : List (Str × D)}, RepF K Hv vs ds → (∀ f ∈ ds, ∀ v, Rep K Hv v f.2 → Rep K Hv' v f.2) → RepF K Hv' vs ds
  | _, _, .nil, _ => .nil
  | _, _, .cons h r, q => .cons (q _ List.mem_cons_self _ h) (repF_map r fun d hd => q d (List.mem_cons_of_mem _ hd))
theorem Rep.nl {p : Addr} (l : LessL Hv Hv' p) {d : D} (q : Nl d) : ∀ v, Rep K Hv v d → Rep K Hv' v d := by
  induction q with
  | non => intro v h; cases h; exact .non
  | bl => intro v h; cases h; exact .bl
  | int => intro v h; cases h; exact .int
  | str => intro v h; cases h; exact .str
  | val => intro v h; cases h; exact .val
  | loc => intro v h; cases h; exact .loc
  | tup q ih =>
    intro v h
    cases h with
    | tup h r n => exact .tup (l.sqt h) (repL_map r ih) n
  | obj q ih =>
    intro v h
    cases h with
    | obj h r => exact .obj (l.ins h) (repF_map r ih)
theorem nvr_nl {p : Addr} (l : LessL Hv Hv' p) {v : V} {z : NV} (h : NVR K Hv v z) : NVR K Hv' v z := by
  cases h with
  | one => exact .one
  | two h => exact .two (l.sqt h)
  | tru => exact .tru
theorem mthaw_map : ∀ {M : List Ent} {h : Nat}, (mthaw M h).map (·.a) = M.map (·.a)
  | [], _ => rfl
  | x :: r, h => by
    unfold mthaw
    split
    · rfl
    · rw [List.map_cons, List.map_cons, mthaw_map]
theorem mthaw_mem : ∀ {M : List Ent} {h : Nat} {e0 : Ent}, (M.map (·.a)).Nodup → mget M h = some e0 → ∀ {e : Ent}, e ∈ mthaw M h → e = ⟨e0.h, e0.a, e0.o, false⟩ ∨ (e ∈ M ∧ e.a ≠ e0.a)
  | [], h, e0, nd, hg, e, he => by cases hg
  | x :: r, h, e0, nd, hg, e, he => by
    rw [List.map_cons, List.nodup_cons] at nd
    unfold mget at hg
    unfold mthaw at he
    cases hb : Nat.beq x.h h with
    | true =>
      rw [hb] at hg he
      cases hg
      rcases List.mem_cons.mp he with he | he
      · exact .inl he
      · exact .inr ⟨List.mem_cons_of_mem _ he, fun z => nd.1 (List.mem_map.mpr ⟨e, he, z⟩)⟩
    | false =>
      rw [hb] at hg he
      rcases List.mem_cons.mp he with he | he
      · rw [he]
        exact .inr ⟨List.mem_cons_self, fun z => nd.1 (List.mem_map.mpr ⟨e0, (mget_mem hg).1, z.symm⟩)⟩
      · rcases mthaw_mem nd.2 hg he with q | q
        · exact .inl q
        · exact .inr ⟨List.mem_cons_of_mem _ q.1, q.2⟩
theorem mthaw_any : ∀ {M : List Ent} {h : Nat} {e0 : Ent} {a : Addr}, mget M h = some e0 → a ≠ e0.a → ((mthaw M h).any fun e => !e.fz && e.a == a) = (M.any fun e => !e.fz && e.a == a)
  | [], _, _, _, hg, _ => rfl
  | x :: r, h, e0, a, hg, ha => by
    unfold mget at hg
    unfold mthaw
    cases hb : Nat.beq x.h h with
    | true =>
      rw [hb] at hg
      cases hg
      show ((⟨x.h, x.a, x.o, false⟩ :: r : List Ent).any fun e => !e.fz && e.a == a) = _
      rw [List.any_cons, List.any_cons, beq_eq_false_iff_ne.mpr (Ne.symm ha), Bool.and_false, Bool.and_false]
    | false =>
      rw [hb] at hg
      show ((x :: mthaw r h).any fun e => !e.fz && e.a == a) = _
      rw [List.any_cons, List.any_cons, mthaw_any hg ha]
/-- an object that was frozen may be changed again, where nothing leans on it -/
theorem OkS.thaw (ok : OkS K F s H) {k : Nat} {e : Ent} (hg : mget s.M k = some e) {ds : List D} (ho : e.o = .lst ds) (hn : ∀ x ∈ s.M, NlM x.o) : OkS K F (s.thaw k) H ∧ LessL (vis F s H) (vis F (s.thaw k) H) e.a := by
  obtain ⟨hm, _⟩ := mget_mem hg
  have hx := ok.ents e hm
  rw [ho] at hx
  obtain ⟨xs, u1, u2, u3⟩ := hx
  have less : LessL (vis F s H) (vis F (s.thaw k) H) e.a := by
    refine ⟨fun a ha o h => ?_, xs, fun o h => by rw [(vis_iff.mp h).2] at u1; exact Option.some.inj u1⟩
    obtain ⟨h1, h2⟩ := vis_iff.mp h
    refine vis_iff.mpr ⟨?_, h2⟩
    have e1 : (s.thaw k).hidM a = s.hidM a := mthaw_any hg ha
    unfold S.hid at h1 ⊢
    rw [e1]
    exact h1
  have rep : ∀ x ∈ s.M, RepO K (vis F (s.thaw k) H) H x.a x.o := fun x hx => by
    have h1 := ok.ents x hx
    have h2 := hn x hx
    cases ho2 : x.o with
    | lst ds2 =>
      rw [ho2] at h1 h2
      obtain ⟨ys, g1, g2, g3⟩ := h1
      cases h2 with
      | lst q => exact ⟨ys, g1, repL_map g2 fun d hd v r => Rep.nl less (q d hd) v r, g3⟩
    | obj C fs =>
      rw [ho2] at h1 h2
      obtain ⟨dx, ys, g1, g2⟩ := h1
      cases h2 with
      | obj q => exact ⟨dx, ys, g1, repF_map g2 fun f hf v r => Rep.nl less (q f hf) v r⟩
    | dct _ => rw [ho2] at h2; cases h2
    | nk P w es =>
      rw [ho2] at h1
      obtain ⟨ys, g1, g2, g3⟩ := h1
      refine ⟨ys, g1, ⟨?_, fun y hy => ?_, g2.nd, g2.len⟩, g3⟩
      · have gen : ∀ {xs : List Nk.Ent} {es : List (List NestedKey × NV)}, Paired (fun (x : Nk.Ent) (e : List NestedKey × NV) => x.1 = e.1 ∧ NVR K (vis F s H) x.2.2 e.2) xs es → Paired (fun (x : Nk.Ent) (e : List NestedKey × NV) => x.1 = e.1 ∧ NVR K (vis F (s.thaw k) H) x.2.2 e.2) xs es := by
          intro xs es p
          induction p with
          | nil => exact .nil
          | cons r t ih =>
            exact .cons ⟨r.1, nvr_nl less r.2⟩ ih
        exact gen g2.pair
      · obtain ⟨vs, k1, k2⟩ := g2.keys y hy
        exact ⟨vs, less.sqt k1, k2⟩
  refine ⟨⟨fun x hx => ?_, by show ((mthaw s.M k).map (·.a)).Nodup; rw [mthaw_map]; exact ok.nd, fun p q z => ⟨(ok.pen p q z).1, fun x hx => ?_⟩, ok.fr, fun x hx => ?_, ok.frP⟩, less⟩
  · rcases mthaw_mem ok.nd hg hx with q | q
    · rw [q]
      exact rep e hm
    · exact rep x q.1
  · rcases mthaw_mem ok.nd hg hx with y | y
    · rw [y]; exact (ok.pen p q z).2 e hm
    · exact (ok.pen p q z).2 x y.1
  · rcases mthaw_mem ok.nd hg hx with y | y
    · rw [y]; exact ok.frM e hm
    · exact ok.frM x y.1
/-- what lies between: lent, and back again -/
theorem lent_tr {k : Nat} {e e' : Ent} (ok : OkS K F s H) (hg : mget s.M k = some e) (hf : e.fz = false) (t : Tr F (s.frz k) H s' H') (hg' : mget s'.M k = some e') (ha : e'.a = e.a) : Tr F s H (s'.thaw k) H' := by
  obtain ⟨hm, _⟩ := mget_mem hg
  refine ⟨fun a o h => ?_, t.fr, t.pn⟩
  obtain ⟨h1, h2⟩ := vis_iff.mp h
  have hne : a ≠ e.a := fun z => by
    unfold S.hid at h1
    simp only [Bool.or_eq_false_iff] at h1
    have h3 := h1.1.2
    unfold S.hidM at h3
    rw [List.any_eq_false] at h3
    exact h3 e hm (by rw [hf, z]; simp)
  have h3 := t.ex _ _ ((ok.frz k).2.ex _ _ h)
  obtain ⟨h4, h5⟩ := vis_iff.mp h3
  refine vis_iff.mpr ⟨?_, h5⟩
  have e1 : (s'.thaw k).hidM a = s'.hidM a := mthaw_any hg' (by rw [ha]; exact hne)
  unfold S.hid at h4 ⊢
  rw [e1]
  exact h4
/-- what may be lent: a list of one's own at this handle -/
def lentP (s : S) (h : Nat) (k : Addr → Prop) : Prop := match mget s.M h with
  | some e => match e.fz, e.o with
    | false, .lst _ => k e.a
    | _, _ => False
  | none => False
theorem lentP_of {h : Nat} {k : Addr → Prop} (q : lentP s h k) : ∃ e, mget s.M h = some e ∧ e.fz = false ∧ k e.a := by
  unfold lentP at q
  cases hg : mget s.M h with
  | none => rw [hg] at q; exact q.elim
  | some e =>
    rw [hg] at q
    obtain ⟨eh, ea, eo, ef⟩ := e
    cases ef with
    | true => exact q.elim
    | false =>
      cases eo with
      | lst ds => exact ⟨_, rfl, rfl, q⟩
      | dct _ => exact q.elim
      | obj _ _ => exact q.elim
      | nk _ _ _ => exact q.elim
/-- it is still there -/
def backP (s : S) (h : Nat) (a : Addr) (k : Prop) : Prop := match mget s.M h with
  | some e => match e.o with
    | .lst _ => e.a = a ∧ k
    | _ => False
  | none => False
theorem backP_of {h : Nat} {a : Addr} {k : Prop} (q : backP s h a k) : ∃ e ds, mget s.M h = some e ∧ e.o = .lst ds ∧ e.a = a ∧ k := by
  unfold backP at q
  cases hg : mget s.M h with
  | none => rw [hg] at q; exact q.elim
  | some e =>
    rw [hg] at q
    obtain ⟨eh, ea, eo, ef⟩ := e
    cases eo with
    | lst ds => exact ⟨_, ds, rfl, rfl, q.1, q.2⟩
    | dct _ => exact q.elim
    | obj _ _ => exact q.elim
    | nk _ _ _ => exact q.elim
def tLend (h : Nat) (te : TE) : TE := te
theorem pe_lendE {X : Cx} {e : Expr} {te : TE} (h : Nat) (p : PE X e te) : PE X e (tLend h te) := p
def wLend (h : Nat) (w : WE) : WE := fun Γ s Q => lentP s h fun a => w Γ (s.frz h) fun d s' => backP s' h a ((Nl d ∧ ∀ x ∈ s'.M, NlM x.o) ∧ Q d (s'.thaw h))
instance {h : Nat} {te : TE} {w : WE} [l : LE K te w] : LE K (tLend h te) (wLend h w) := ⟨fun {F s H σ Γ Q Q0} a hh k => by
  obtain ⟨e, hg, hf, h1⟩ := lentP_of hh
  obtain ⟨okf, tf⟩ := a.ok.frz h
  refine l.go (a.to tf okf) h1 fun v H1 d s1 t1 ok1 r1 h2 => ?_
  obtain ⟨e', ds, hg', ho, ha, ⟨hn, hm⟩, h3⟩ := backP_of h2
  obtain ⟨ok2, less⟩ := ok1.thaw hg' ho hm
  exact k v H1 d _ (lent_tr a.ok hg hf t1 hg' ha) ok2 (Rep.nl less hn v r1) h3⟩
/-- of an expression that makes a new object -/
def tLendO (h : Nat) (te : TE) : TE := te
theorem pe_lendO {X : Cx} {e : Expr} {te : TE} (h : Nat) (p : PE X e te) : PE X e (tLendO h te) := p
def woLend (h : Nat) (wo : WM) : WM := fun Γ s Q => lentP s h fun a => wo Γ (s.frz h) fun m s' => backP s' h a ((NlM m ∧ ∀ x ∈ s'.M, NlM x.o) ∧ Q m (s'.thaw h))
theorem repo_nl {p a : Addr} {m : MO} (l : LessL Hv Hv' p) (q : NlM m) (r : RepO K Hv H a m) : RepO K Hv' H a m := by
  cases q with
  | lst q =>
    obtain ⟨ys, g1, g2, g3⟩ := r
    exact ⟨ys, g1, repL_map g2 fun d hd v r => Rep.nl l (q d hd) v r, g3⟩
  | obj q =>
    obtain ⟨dx, ys, g1, g2⟩ := r
    exact ⟨dx, ys, g1, repF_map g2 fun f hf v r => Rep.nl l (q f hf) v r⟩
  | nk =>
    obtain ⟨ys, g1, g2, g3⟩ := r
    refine ⟨ys, g1, ⟨?_, fun y hy => ?_, g2.nd, g2.len⟩, g3⟩
    · have gen : ∀ {xs : List Nk.Ent} {es : List (List NestedKey × NV)}, Paired (fun (x : Nk.Ent) (e : List NestedKey × NV) => x.1 = e.1 ∧ NVR K Hv x.2.2 e.2) xs es → Paired (fun (x : Nk.Ent) (e : List NestedKey × NV) => x.1 = e.1 ∧ NVR K Hv' x.2.2 e.2) xs es := by
        intro xs es p
        induction p with
        | nil => exact .nil
        | cons r t ih =>
          exact .cons ⟨r.1, nvr_nl l r.2⟩ ih
      exact gen g2.pair
    · obtain ⟨vs, k1, k2⟩ := g2.keys y hy
      exact ⟨vs, l.sqt k1, k2⟩
instance {h : Nat} {te : TE} {wo : WM} [l : LEo K te wo] : LEo K (tLendO h te) (woLend h wo) := ⟨fun {F s H σ Γ Q Q0} a hh k => by
  obtain ⟨e, hg, hf, h1⟩ := lentP_of hh
  obtain ⟨okf, tf⟩ := a.ok.frz h
  refine l.go (a.to tf okf) h1 fun p H' m s' hF ok ex fr pn r h2 => ?_
  obtain ⟨e', ds, hg', ho, ha, ⟨hn, hm⟩, h3⟩ := backP_of h2
  obtain ⟨ok2, less⟩ := ok.thaw hg' ho hm
  refine k p H' m _ hF ok2 (fun b o hb => ?_) fr pn (repo_nl less hn r) h3
  obtain ⟨g1, g2⟩ := vis_iff.mp hb
  have hne : b ≠ e.a := fun z => by
    unfold S.hid at g1
    simp only [Bool.or_eq_false_iff] at g1
    have g3 := g1.1.2
    unfold S.hidM at g3
    rw [List.any_eq_false] at g3
    exact g3 e (mget_mem hg).1 (by rw [hf, z]; simp)
  exact less.ne b (by rw [ha]; exact hne) o (ex _ _ (tf.ex _ _ hb))⟩
end
/-! a value that changes its name for itself: the new object is made first -/
def tAsgS (h : Nat) (te : TE) (g : TG) : TS := tAsg te g
theorem ps_ownS {X : Cx} {st : Stmt} {te : TE} {g : TG} (h : Nat) (p : PS X st (tAsg te g)) : PS X st (tAsgS h te g) := p
section
variable {K : PySem.W.Frag}
def wAsgS (h i : Nat) (wo : WM) : WS := fun e Γ s => wo Γ s fun m s1 => ∀ a, e.nx (setG Γ i (some (.loc a h))) ((s1.drop h).own h a m)
instance {h i : Nat} {te : TE} {wo : WM} [l : LEo K te wo] : LS K (tAsgS h te (gName i)) (wAsgS h i wo) := ⟨fun {F s H σ Γ e D0} a hh k => by
  refine l.go a hh fun p H' m s' hF ok ex fr pn r h1 => ?_
  obtain ⟨ok1, t1⟩ := ok.drop h
  obtain ⟨ok2, hv⟩ := ok1.adopt hF (r.mono t1.ex rfl) h
  have ex2 := ex.trans t1.ex
  have t2 : Tr F s H ((s'.drop h).own h p m) H' := ⟨by rw [hv]; exact ex2, fun b hb => fr b hb, pn⟩
  refine k.nx _ _ _ _ t2 ⟨?_, ok2⟩ (h1 p)
  rw [hv]
  exact (a.g.mono ex2).set .loc⟩
/-- a list behind another one, new -/
def woCat (wa wb : WE) : WM := fun Γ s Q => wa Γ s fun x s1 => wb Γ s1 fun y s2 => seeP s2 x fun x' => seeP s2 y fun y' => asL x' fun a => asL y' fun b => a.length + b.length ≤ sizeLine ∧ Q (.lst (a ++ b)) s2
instance {ta tb : TE} {wa wb : WE} [la : LE K ta wa] [lb : LE K tb wb] : LEo K (tOp (rAddA K) ta tb) (woCat wa wb) := ⟨fun {F s H σ Γ Q Q0} a h k =>
  la.go a h fun v1 H1 d1 s1 t1 ok1 r1 h1 => lb.go (a.to t1 ok1) h1 fun v2 H2 d2 s2 t2 ok2 r2 h2 => by
    obtain ⟨x', h3, q1⟩ := see ok2 (r1.mono t2.ex) h2
    obtain ⟨y', h4, q2⟩ := see ok2 r2 h3
    cases x' with
    | lst da =>
      cases y' with
      | lst db =>
        obtain ⟨hl, h5⟩ := (h4 : asL (D.lst da) fun a => asL (D.lst db) fun b => a.length + b.length ≤ sizeLine ∧ Q (.lst (a ++ b)) s2)
        obtain ⟨p1, xs, rfl, g1, g2, g3⟩ := q1
        obtain ⟨p2, ys, rfl, g4, g5, g6⟩ := q2
        refine .inr (.inr (.inl ⟨p1, p2, xs, ys, rfl, rfl, g1, g4, by rw [g2.len, g5.len]; exact hl, ?_⟩))
        exact new_mo (m := .lst (da ++ db)) ok2 (fun p Hv e => ⟨_, upd_same, (g2.mono e).app (g5.mono e), by rw [List.length_append]; exact hl⟩) h5 (k.to (t1.trans t2))
      | _ => exact h4.elim
    | _ => exact h4.elim⟩
end
end Da

namespace Lw
open PySem L2
open Evl Da Hd
local macro_rules
  | `(tactic| walk_at "f") => `(tactic| first | exact lookF_put | exact lookF_hit | exact (lookF_skip (by decide +kernel) lookF_hit) | exact (lookF_skip (by decide +kernel) (lookF_skip (by decide +kernel) lookF_hit)) | exact (lookF_skip (by decide +kernel) (lookF_skip (by decide +kernel) (lookF_skip (by decide +kernel) lookF_hit))) | exact (lookF_skip (by decide +kernel) (lookF_skip (by decide +kernel) (lookF_skip (by decide +kernel) (lookF_skip (by decide +kernel) lookF_hit)))) | exact (lookF_skip (by decide +kernel) (lookF_skip (by decide +kernel) (lookF_skip (by decide +kernel) (lookF_skip (by decide +kernel) (lookF_skip (by decide +kernel) lookF_hit))))) | exact (lookF_skip (by decide +kernel) (lookF_skip (by decide +kernel) (lookF_skip (by decide +kernel) (lookF_skip (by decide +kernel) (lookF_skip (by decide +kernel) (lookF_skip (by decide +kernel) lookF_hit)))))) | ((refine lookF_other (by decide +kernel) ?_); walk_at "f") | ((refine lookF_skip (by decide +kernel) ?_); walk_at "f"))
  | `(tactic| walk_at "fl") => `(tactic| first | exact Nat.zero_lt_succ _ | ((refine putFD_lt ?_); walk_at "fl"))
  | `(tactic| walk_at "a") => `(tactic| first | exact le1000 (Nat.le_of_ble_eq_true rfl) | exact rfl | decide +kernel | exact And.intro (by with_reducible assumption) (by with_reducible assumption) | exact And.intro (And.intro (by with_reducible assumption) (by with_reducible assumption)) (by walk_at "fl"))
  | `(tactic| walk_at "w") => `(tactic| ((conv => whnf); repeat ((first | ((with_reducible refine And.intro ?_ ?_); (focus (walk_at "a"))) | ((with_reducible refine Br.yes ?_ ?_); (focus (first | exact rfl | decide +kernel))) | ((with_reducible refine Br.no ?_ ?_); (focus (first | exact rfl | decide +kernel))) | ((with_reducible refine ex_fld ?_); (refine fld_w (by walk_at "f") ?_)) | ((with_reducible refine ex_at ?_); (refine at_w rfl ?_))); (conv => whnf))))
  | `(tactic| walk_at "n") => `(tactic| ((try dsimp only [st0, st1, S.at, S.drop, S.own, S.put, S.frz, Src.n] at *); omega))
  | `(tactic| walk_at "draw") => `(tactic| ((try walk_at "w"); (refine i_draw ⟨by walk_at "n", by walk_at "n", by walk_at "n"⟩ ?_)))
open Jn (Rn expand joinR)
def shortC (ps : List Rn) : List Int := ps.flatMap fun r => List.replicate (min r.1 9).toNat r.2
theorem shortC_snoc {ps : List Rn} {i : Nat} {r : Rn} (h : ps[i]? = some r) : shortC (ps.take (i + 1)) = shortC (ps.take i) ++ List.replicate (min r.1 9).toNat r.2 := by
  unfold shortC
  rw [take_more h, List.flatMap_append, List.flatMap_singleton]
theorem shortC_len : ∀ ps : List Rn, (shortC ps).length ≤ 9 * ps.length
  | [] => Nat.le_refl _
  | r :: l => by
    have e : shortC (r :: l) = List.replicate (min r.1 9).toNat r.2 ++ shortC l := rfl
    have := shortC_len l
    rw [e, List.length_append, List.length_replicate, List.length_cons]
    omega
theorem shortC_nn {ps : List Rn} (h : ∀ p ∈ ps, 0 ≤ p.1 ∧ 0 ≤ p.2) : ∀ z ∈ shortC ps, 0 ≤ z := fun z hz => by
  obtain ⟨r, hr, hz⟩ := List.mem_flatMap.mp hz
  rw [(List.mem_replicate.mp hz).2]
  exact (h r hr).2
theorem ints_app {a b : List Int} : intsD (a ++ b) = intsD a ++ intsD b := List.map_append
theorem rep_one {n : Nat} {z : Int} : intsD (List.replicate n z) = (List.replicate n [D.int z]).flatten := by
  unfold intsD
  rw [List.map_replicate]
  induction n with
  | zero => rfl
  | succ n ih => rw [List.replicate_succ, List.replicate_succ, List.flatten_cons, ih]; rfl
theorem nl_runs {rs : List Rn} : Nl (.tup (rs.map runD)) := .tup fun d hd => by
  obtain ⟨r, _, rfl⟩ := List.mem_map.mp hd
  refine .tup fun e he => ?_
  rcases List.mem_cons.mp he with rfl | he
  · exact .int
  · obtain rfl := List.mem_singleton.mp he
    exact .int
theorem nl_row {C : Addr} {rs : List Rn} : Nl (rowG C rs) := .obj fun f hf => by
  obtain rfl := List.mem_singleton.mp hf
  exact nl_runs
theorem nlm_ints {cs : List Int} : NlM (.lst (intsD cs)) := .lst fun d hd => by
  obtain ⟨z, _, rfl⟩ := List.mem_map.mp hd
  exact .int
theorem ints_pl2 {cs : List Int} : ∀ d ∈ intsD cs, Pl 0 d := fun d hd => by
  obtain ⟨r, _, rfl⟩ := List.mem_map.mp hd
  trivial
theorem nlm_ones {cs : List Int} : NlM (.lst (cs.map fun z => D.tup [.int 1, .int z])) := .lst fun d hd => by
  obtain ⟨z, _, rfl⟩ := List.mem_map.mp hd
  refine .tup fun e he => ?_
  rcases List.mem_cons.mp he with rfl | he
  · exact .int
  · obtain rfl := List.mem_singleton.mp he
    exact .int
theorem cut_init {ds : List D} {x : D} : cutD (ds ++ [x]) none (some (-1)) = ds := by
  have e : (ds ++ [x]).length = ds.length + 1 := by rw [List.length_append]; rfl
  unfold cutD
  rw [e]
  show ((ds ++ [x]).drop 0).take ((if (-1 : Int) < 0 then ((-1 : Int) + ((ds.length + 1 : Nat) : Int)).toNat else min (-1 : Int).toNat (ds.length + 1)) - 0) = ds
  rw [if_pos (by decide), show ((-1 : Int) + ((ds.length + 1 : Nat) : Int)).toNat - 0 = ds.length by omega, List.drop_zero, List.take_left']
  rfl
section
variable {P : Program} {w : World} {K : PySem.W.Frag} {mg : Str → Option Value} {base : Heap}
@[irreducible] def dShortFits (C : Addr) : R1 := fun _ a n Q _ => ∃ ps : List Rn, a = .lst (ps.map runD) ∧ (∀ p ∈ ps, 0 ≤ p.1 ∧ 0 ≤ p.2) ∧ ps.length ≤ 20 ∧ Q (.bl true) n
theorem ok_law_short_fits (T : Tx w K mg) : FnOk P w K mg base CX0 5 T.f_law_short_fits T.d_law_short_fits ["_law_runs"] (Da.upSp K (sp1 (dShortFits T.c_Row))) := by
  refine T.F_law_short_fits.ok sc_law_short_fits (fun vs H Q E h => Da.up_len1 h) (fun cdv A outer s H vs Q E hr h => ?_)
  refine ⟨_, (pss_cons (Da.ps_own 1 (ps_set (i := 1) sc_law_short_fits.nd rfl (Or.inl rfl) (pe_lst pa_nil)))
      (pss_cons (ps_for PassesOwn.never rfl (Da.seqK (K := K) rfl (pv 0)) (Da.gtupK (n := 2) (K := K) rfl (by rfl) (pgs_cons (pg_name (i := 2) sc_law_short_fits.nd rfl (Or.inl rfl)) (pgs_cons (pg_name (i := 3) sc_law_short_fits.nd rfl (Or.inl rfl)) pgs_nil)))
        (pss_one (Da.ps_ownS 1 (ps_set (i := 1) sc_law_short_fits.nd rfl (Or.inl rfl) (pe_op (Da.addK (K := K) rfl) (pv 1) (pe_op (Da.mulK (K := K) rfl) (pe_lst (pa_cons (pv 3) pa_nil)) (pe_callB (call_min2 rfl) (by rfl) T.z_min (by decide +kernel) (pa_cons (pv 2) (pa_cons pe_int pa_nil)))))))))
      (pss_cons (ps_set (i := 4) sc_law_short_fits.nd rfl (Or.inl rfl) (Da.pe_lendE 1 (pe_make T.mk_Row (ok_Row___init T) (hr.mono (by decide)) rfl T.m_Row T.b_Row___init .nil pass0 (pa_cons (pv 1) pa_nil))))
      (pss_cons (Da.ps_own 2 (ps_set (i := 5) sc_law_short_fits.nd rfl (Or.inl rfl) (pe_meth0 (pv 4) T.cl_Row T.h_Row_cells (ok_Row_cells T) (hr.mono (by decide)) T.b_Row_cells .nil pass0)))
      (pss_cons (ps_if (PW.pt (pw_or (pt_cmpR (Da.neK (K := K) rfl hr.units) (pv 5) (pv 1) (nomark _)) (pw_or (pt_not (pt_val (pe_callB (Da.isiK (K := K) rfl) (by rfl) T.z_isinstance (by decide +kernel) (pa_cons (pv 5) (pa_cons (pe_bltn (v := .ty "list") (by rfl) T.z_list (by decide +kernel) rfl) pa_nil))))) (pw_or1 (pt_not (pt_val (pe_call (ok_law_fits T) (hr.mono (by decide)) rfl T.m_law_fits T.F_law_fits.kp T.b_law_fits .nil pass0 (pa_cons (pv 4) (pa_cons (Da.pe_lendO 1 (pe_lc rfl sc_law_short_fits.nd (Da.seqK (K := K) rfl (pv 1)) (blkOk_by (own := [("_law_cell", 3)]) (N := ["_law_runs", "_law_cells", "_law_count", "_law_cell", "_law_short", "_law_told"]) (sc := defScope s_law_short_fits) (by decide +kernel)) (fun _ _ _ _ _ => (pg_name (i := 3) sc_law_short_fits.nd rfl (Or.inl rfl))) (fun _ _ _ _ _ => pts_nil) (fun _ _ _ _ _ => (pe_tup (pa_cons pe_int (pa_cons (pv 3) pa_nil)))))) pa_nil)))))))))
        (pss_one (ps_ret pe_bl))
        pss_nil)
      (pss_cons (ps_expr (Da.bmK (K := K) rfl PySem.F.plainAttrs_list PySem.F.slot_list_append PySem.F.type_list_append mt_append (pv 5) (pa_cons pe_int pa_nil)))
      (pss_cons (ps_expr (Da.bmK (K := K) rfl PySem.F.plainAttrs_list PySem.F.slot_list_append PySem.F.type_list_append mt_append (pv 1) (pa_cons pe_int pa_nil)))
      (pss_one (ps_ret (pe_and (pe_cmpR (Da.eqK (K := K) rfl hr.units) (pe_meth0 (pv 4) T.cl_Row T.h_Row_cells (ok_Row_cells T) (hr.mono (by decide)) T.b_Row_cells .nil pass0) (pe_slice (Da.slK (K := K) rfl) (pv 1) po_none (po_some (pe_un un_neg pe_int))) (nomark _)) (pe_and (pe_cmpR (Da.eqOwnA (K := K) rfl (ok_Row___eq T) T.hs_Row___eq T.hf_Row___eq T.b_Row___eq pass0 (hr.mono (by decide)) T.nt_Row) (pv 4) (pe_make T.mk_Row (ok_Row___init T) (hr.mono (by decide)) rfl T.m_Row T.b_Row___init .nil pass0 (pa_cons (pe_callTy (Da.tupleK (K := K) rfl) (by rfl) T.z_tuple (by decide +kernel) (pa_cons (pe_slice (Da.slK (K := K) rfl) (pv 1) po_none (po_some (pe_un un_neg pe_int))) pa_nil)) pa_nil)) (nomark _)) (pe_one (pe_call (ok_law_fits T) (hr.mono (by decide)) rfl T.m_law_fits T.F_law_fits.kp T.b_law_fits .nil pass0 (pa_cons (pe_make0 T.mk_Row (ok_Row___init T) (hr.mono (by decide)) rfl T.m_Row T.bd_Row___init T.vd_Row___init pass0) (pa_cons (pe_lst pa_nil) pa_nil))))))))))))))), Da.go_up1 h ?_⟩
  intro pn a n Q _ h
  unfold dShortFits at h
  obtain ⟨ps, rfl, h0, hl, h⟩ := h
  walk_at "w"
  intro l
  walk_at "w"
  refine for_inv (fun i Γ s => ∃ (l : Addr) (u2 u3 u4 u5 : Option D), Γ = [some (.lst (ps.map runD)), some (.loc l 1), u2, u3, u4, u5] ∧ s = ⟨[⟨1, l, .lst (intsD (shortC (ps.take i))), false⟩], n, pn⟩) ⟨l, _, _, _, _, rfl, rfl⟩ ?_ ?_
  · rintro i d _ _ hi hd ⟨l, u2, u3, u4, u5, rfl, rfl⟩
    obtain ⟨r, hr, rfl⟩ := runs_at (seq_at hd)
    have hp := h0 r (List.mem_of_getElem? hr)
    have hi2 := (List.getElem?_eq_some_iff.mp hr).1
    walk_at "w"
    refine ⟨⟨by omega, by omega, le1000 (by show 1 * _ ≤ 1000; omega)⟩, ?_⟩
    walk_at "w"
    have hx := shortC_len (ps.take i)
    rw [List.length_take] at hx
    refine ⟨le1000 ?_, fun l2 => ?_⟩
    · rw [rep_len2]
      unfold intsD
      rw [List.length_map]
      show _ + 1 * _ ≤ 1000
      omega
    · refine ⟨l2, _, _, _, _, rfl, ?_⟩
      rw [shortC_snoc hr, ints_app, rep_one]
      rfl
  · rintro _ _ ⟨l, u2, u3, u4, u5, rfl, rfl⟩
    rw [runs_n, List.take_length]
    have hcl := shortC_len ps
    have hcn := shortC_nn h0
    generalize shortC ps = cs at hcl hcn ⊢
    clear h0
    walk_at "w"
    refine i_rowI (cs := cs) (.inl rfl) hcn (by omega) ?_
    walk_at "w"
    refine ⟨⟨nl_row, fun x hx => ?_⟩, ?_⟩
    · obtain rfl := List.mem_singleton.mp hx
      exact nlm_ints
    walk_at "w"
    have er : expand (rowR cs) = cs := (rowR_ok cs).2
    have hro : RunsOk (rowR cs) := rowR_runs (by omega)
    refine i_cellsO hro (by rw [er]; omega) ?_
    rw [er]
    walk_at "w"
    intro l2
    walk_at "w"
    refine ⟨⟨1, 1, by decide, by decide, ints_pl2, ints_pl2⟩, ?_⟩
    walk_at "w"
    refine .nn rfl ?_
    walk_at "w"
    refine ⟨true, T.kit_list_list, ?_⟩
    walk_at "w"
    refine lc_inv (fun i acc s => acc = (cs.take i).map (fun z => D.tup [.int 1, .int z]) ∧ s = ⟨[⟨2, l2, .lst (intsD cs), false⟩, ⟨1, l, .lst (intsD cs), true⟩], n, pn⟩) (le1000 (by show (intsD cs).length ≤ 1000; unfold intsD; rw [List.length_map]; omega)) ?_ ?_ ?_
    · exact ⟨rfl, rfl⟩
    · rintro i d _ _ hi hd _ ⟨rfl, rfl⟩
      obtain ⟨c, hc1, rfl⟩ := ints_at (seq_at hd)
      walk_at "w"
      refine ⟨?_, rfl⟩
      rw [take_more hc1, List.map_append]
      rfl
    rintro _ _ _ ⟨rfl, rfl⟩
    rw [ints_len, List.take_length]
    walk_at "w"
    refine ⟨⟨nlm_ones, fun x hx => ?_⟩, ?_⟩
    · rcases List.mem_cons.mp hx with rfl | hx
      · exact nlm_ints
      · obtain rfl := List.mem_singleton.mp hx
        exact nlm_ints
    walk_at "w"
    refine i_fits (ps := cs.map fun c => ((1 : Int), c)) rfl rfl (.inl (by rw [List.map_map]; rfl)) (fun p hp => ?_) (by rw [List.length_map]; omega) ?_
    · obtain ⟨c, hc, rfl⟩ := List.mem_map.mp hp
      exact ⟨by show (0 : Int) ≤ 1; decide, hcn c hc⟩
    walk_at "w"
    have hcl2 : (intsD cs).length ≤ 180 := by unfold intsD; rw [List.length_map]; omega
    refine ⟨small1000 (by omega), ?_⟩
    walk_at "w"
    refine ⟨small1000 (by omega), ?_⟩
    walk_at "w"
    refine i_cellsO hro (by rw [er]; omega) ?_
    rw [er]
    walk_at "w"
    rw [cut_init]
    refine ⟨⟨1, 1, by decide, by decide, ints_pl2, ints_pl2⟩, ?_⟩
    walk_at "w"
    refine .yes (by rw [if_neg Bool.false_ne_true]; exact dec_t rfl) ?_
    walk_at "w"
    rw [cut_init]
    refine i_rowI (cs := cs) (.inr rfl) hcn (by omega) ?_
    walk_at "w"
    refine ⟨⟨rfl, rfl⟩, ?_⟩
    refine i_row_eq (fun k hk => ?_)
    obtain rfl : k = true := hk.mpr rfl
    walk_at "w"
    refine i_rowI (cs := []) (.inr rfl) (fun _ z => nomatch z) (by decide) ?_
    walk_at "w"
    refine i_fits (ps := []) rfl rfl (.inl rfl) (fun _ z => nomatch z) (by decide) ?_
    walk_at "w"
    exact h
theorem i_short_fits {pn : Option (Addr × Addr)} {n : Nat} {Q : D → Nat → Prop} {X : XD} {C : Addr} {ps : List Rn} (h0 : ∀ p ∈ ps, 0 ≤ p.1 ∧ 0 ≤ p.2) (hl : ps.length ≤ 20) (h : Q (.bl true) n) : dShortFits C pn (.lst (ps.map runD)) n Q X := by
  unfold dShortFits
  exact ⟨ps, rfl, h0, hl, h⟩
end
end Lw

namespace Lw
open PySem L2
open Evl Da Hd
open Jn (Rn expand joinR)
local macro_rules | `(tactic| walk_at "rd1") => `(tactic| first
  | (with_reducible refine Wh.i_seqM ?_) | (with_reducible refine Rd.i_seq ?_) | (with_reducible refine Rd.i_asg ?_) | (with_reducible refine Wh.i_nameS ?_) | (with_reducible refine Rd.i_name ?_) | (with_reducible refine Rd.i_nx ?_) | (with_reducible refine Rd.i_rt ?_) | (with_reducible refine Rd.i_next ?_) | (with_reducible refine Rd.i_ct ?_) | (with_reducible refine Rd.i_bk ?_)
  | (with_reducible refine Rd.i_ret ?_) | (with_reducible refine Rd.i_drop ?_) | (with_reducible refine Rd.i_ifS ?_) | (with_reducible refine Rd.i_sub ?_)
  | ((with_reducible refine Wh.g_var ?_); (with_reducible refine Rd.i_var (by with_unfolding_all exact rfl) ?_)) | (with_reducible refine Rd.i_c ?_) | (with_reducible refine Rd.i_op ?_) | (with_reducible refine Rd.i_un ?_)
  | (with_reducible refine Rd.i_rI0 ?_) | ((with_reducible refine Wh.g_rI ?_); (with_reducible refine Rd.i_rI (by with_unfolding_all first | omega | exact Rd.mulL (by omega) (by omega) | exact Rd.mulR (by omega) (by omega) | decide | (refine ⟨?_, ?_⟩ <;> omega) | (refine ⟨?_, ?_, ?_⟩ <;> omega)) ?_))
  | ((with_reducible refine Wh.g_rEq ?_); (with_reducible refine Rd.i_rEq (by with_unfolding_all exact rfl) ?_)) | ((with_reducible refine Wh.g_rNe ?_); (with_reducible refine Rd.i_rNe (by with_unfolding_all exact rfl) ?_))
  | (with_reducible refine Rd.i_test ?_) | (with_reducible refine Rd.i_tB ?_) | (with_reducible refine Rd.i_bl ?_) | (with_reducible refine Rd.i_and ?_) | (with_reducible refine Rd.i_or ?_) | (with_reducible refine Rd.i_not ?_) | (with_reducible refine Rd.i_notV ?_) | (with_reducible refine Rd.i_andV ?_) | (with_reducible refine Rd.i_orV ?_) | (with_reducible refine Rd.i_if ?_) | (with_reducible refine Rd.i_chain ?_)
  | (with_reducible refine Rd.i_call ?_) | (with_reducible refine Rd.i_nil ?_) | (with_reducible refine Rd.i_cons ?_) | (with_reducible refine Rd.i_cb ?_) | (with_reducible refine Rd.i_bm ?_) | (with_reducible refine Rd.i_bm0 ?_) | (with_reducible refine Rd.i_tup ?_) | (with_reducible refine Rd.i_lst ?_)
  | (with_reducible refine Rd.i_int1 ?_) | (with_reducible refine Rd.i_intb ?_) | (with_reducible refine Rd.i_max ?_)
  | ((with_reducible refine Wh.g_ixL ?_); (with_reducible refine Rd.i_ixL (SqL.of (by first | assumption | exact upd_same)) (by with_unfolding_all first | exact rfl | exact atI_nat rfl) ?_)) | ((with_reducible refine Wh.g_ixT ?_); (with_reducible refine Rd.i_ixT (SqT.of (by first | assumption | exact upd_same)) (by with_unfolding_all exact rfl) ?_))
  | ((with_reducible refine Wh.g_setL ?_); (with_reducible refine Rd.i_setL (by first | assumption | exact upd_same) (by with_unfolding_all exact rfl) ?_))
  | (with_reducible refine Xv.i_mkV ?_) | (with_reducible refine Xv.i_xat ?_)
  | (with_reducible refine Rd.i_yes ?_) | (with_reducible refine Rd.i_m1 ?_) | (with_reducible refine Rd.i_m0 ?_) | (with_reducible refine Rd.ite_T ?_) | (with_reducible refine Rd.ite_F ?_) | (with_reducible refine Rd.i_forR ?_) | (with_reducible refine Rd.i_forL ?_) | (with_reducible refine Rd.i_forT ?_)
  | (with_reducible refine Hd.i_rU ?_) | (with_reducible refine Hd.i_pcons ?_) | (with_reducible refine Hd.i_pnil ?_) | (with_reducible refine Hd.i_disp ?_) | (with_reducible refine Hd.i_dget ?_)
  | (with_reducible refine Hd.i_lstRg ?_) | (with_reducible refine Hd.i_rg1 ?_) | (with_reducible refine Hd.i_rg2 ?_) | (with_reducible refine Hd.i_ex1 ?_) | (with_reducible refine Hd.i_ex2 ?_)
  | ((with_reducible refine Wh.g_gtup ?_); (with_reducible refine Rd.i_gtup (SqT.of (by first | assumption | exact upd_same)) (by with_unfolding_all exact rfl) ?_)) | (with_reducible refine Rd.i_gcons ?_) | (with_reducible refine Rd.i_gnil ?_)
  | ((with_reducible refine Wh.g_len ?_); (with_reducible refine Rd.i_lenT (SqT.of (by first | assumption | exact upd_same)) ?_)) | ((with_reducible refine Wh.g_len ?_); (with_reducible refine Rd.i_len (SqL.of (by first | assumption | exact upd_same)) ?_))
  | ((with_reducible refine Wh.g_ite ?_); (with_reducible refine Nr.ite_eF (by first | decide +kernel | with_unfolding_all exact rfl) ?_)) | ((with_reducible refine Wh.g_ite ?_); (with_reducible refine Nr.ite_eT (by first | decide +kernel | with_unfolding_all exact rfl) ?_))
  | ((with_reducible refine Wh.g_tyL ?_); (with_reducible refine Nr.i_tyL (by first | assumption | exact upd_same) ?_))
  | ((with_reducible refine Wh.g_tup ?_); (with_reducible refine Nr.i_tupT (SqT.of (by first | assumption | exact upd_same)) ?_))
  | (with_reducible refine Nr.i_sl ?_) | (with_reducible refine Nr.i_part ?_) | (with_reducible refine Nr.i_nop ?_) | (with_reducible refine Nr.i_star ?_)
  | fail "stop")
local macro_rules | `(tactic| walk_at "rd") => `(tactic| repeat walk_at "rd1")
local macro_rules
  | `(tactic| walk_at "f") => `(tactic| first | exact lookF_put | exact lookF_hit | exact (lookF_skip (by decide +kernel) lookF_hit) | exact (lookF_skip (by decide +kernel) (lookF_skip (by decide +kernel) lookF_hit)) | exact (lookF_skip (by decide +kernel) (lookF_skip (by decide +kernel) (lookF_skip (by decide +kernel) lookF_hit))) | exact (lookF_skip (by decide +kernel) (lookF_skip (by decide +kernel) (lookF_skip (by decide +kernel) (lookF_skip (by decide +kernel) lookF_hit)))) | exact (lookF_skip (by decide +kernel) (lookF_skip (by decide +kernel) (lookF_skip (by decide +kernel) (lookF_skip (by decide +kernel) (lookF_skip (by decide +kernel) lookF_hit))))) | exact (lookF_skip (by decide +kernel) (lookF_skip (by decide +kernel) (lookF_skip (by decide +kernel) (lookF_skip (by decide +kernel) (lookF_skip (by decide +kernel) (lookF_skip (by decide +kernel) lookF_hit)))))) | ((refine lookF_other (by decide +kernel) ?_); walk_at "f") | ((refine lookF_skip (by decide +kernel) ?_); walk_at "f"))
  | `(tactic| walk_at "fl") => `(tactic| first | exact Nat.zero_lt_succ _ | ((refine putFD_lt ?_); walk_at "fl"))
  | `(tactic| walk_at "a") => `(tactic| first | exact le1000 (Nat.le_of_ble_eq_true rfl) | exact rfl | decide +kernel | exact And.intro (by with_reducible assumption) (by with_reducible assumption) | exact And.intro (And.intro (by with_reducible assumption) (by with_reducible assumption)) (by walk_at "fl"))
  | `(tactic| walk_at "w") => `(tactic| ((conv => whnf); repeat ((first | ((with_reducible refine And.intro ?_ ?_); (focus (walk_at "a"))) | ((with_reducible refine Br.yes ?_ ?_); (focus (first | exact rfl | decide +kernel))) | ((with_reducible refine Br.no ?_ ?_); (focus (first | exact rfl | decide +kernel))) | ((with_reducible refine ex_fld ?_); (refine fld_w (by walk_at "f") ?_)) | ((with_reducible refine ex_at ?_); (refine at_w rfl ?_))); (conv => whnf))))
  | `(tactic| walk_at "n") => `(tactic| ((try dsimp only [st0, st1, S.at, S.drop, S.own, S.put, S.frz, Src.n] at *); omega))
  | `(tactic| walk_at "draw") => `(tactic| ((try walk_at "w"); (refine i_draw ⟨by walk_at "n", by walk_at "n", by walk_at "n"⟩ ?_)))
theorem nlm_runs {rs : List Rn} : NlM (.lst (rs.map runD)) := .lst fun d hd => by
  obtain ⟨r, _, rfl⟩ := List.mem_map.mp hd
  refine .tup fun e he => ?_
  rcases List.mem_cons.mp he with rfl | he
  · exact .int
  · obtain rfl := List.mem_singleton.mp he
    exact .int
theorem exp_leS {B : Nat} : ∀ {rs : List Rn}, (∀ r ∈ rs, r.1 ≤ (B : Int)) → (expand rs).length ≤ rs.length * B
  | [], _ => Nat.zero_le _
  | r :: l, h => by
    have e : expand (r :: l) = List.replicate r.1.toNat r.2 ++ expand l := rfl
    have h1 := h r List.mem_cons_self
    have h2 := exp_leS (rs := l) (fun x hx => h x (List.mem_cons_of_mem _ hx))
    rw [e, List.length_append, List.length_replicate, List.length_cons, Nat.succ_mul]
    omega
theorem joined_small {rs : List Rn} (k : RkS rs) (h8 : rs.length ≤ 8) : ∀ r ∈ joinR rs, r.1 < 2 ^ 150 := fun r hr => by
  have h1 := exp_leS (B := 1000000000000000000000000001000) (rs := rs) (fun r hr => (k.pos r hr).2.1)
  have h2 := Nat.mul_le_mul_right 1000000000000000000000000001000 h8
  have hj := Jn.join_ok (fun p q => (k.pos p q).1)
  obtain ⟨i, hi⟩ := List.getElem?_of_mem hr
  have h3 := exp_few2 hi
  rw [hj.2] at h3
  have h4 : (2 : Int) ^ 150 = 1427247692705959881058285969449495136382746624 := by decide
  rw [h4]
  omega
theorem rep_all {n : Nat} {rs : List Rn} (h : ∀ p ∈ rs, 0 ≤ p.1 ∧ 0 ≤ p.2) : ∀ p ∈ (List.replicate n rs).flatten, 0 ≤ p.1 ∧ 0 ≤ p.2 := fun p hp => by
  obtain ⟨l, hl, hpl⟩ := List.mem_flatten.mp hp
  rw [(List.mem_replicate.mp hl).2] at hpl
  exact h p hpl
theorem lone_ok {o : Int} (h0 : 0 ≤ o) (h1 : o < 2) : ∃ ln : List Rn, (ln = [] ∨ ln = [(3, 4)]) ∧ (List.replicate o.toNat [D.tup [.int 3, .int 4]]).flatten = ln.map runD := by
  rcases (show o = 0 ∨ o = 1 by omega) with rfl | rfl
  · exact ⟨[], .inl rfl, rfl⟩
  · exact ⟨[(3, 4)], .inr rfl, rfl⟩
theorem lone_facts {ln : List Rn} (h : ln = [] ∨ ln = [(3, 4)]) (fn : Nat) : (∀ p ∈ ln, 0 ≤ p.1 ∧ 0 ≤ p.2) ∧ ((joinR ln).length ≤ 1 ∧ ln.length ≤ 1) ∧ RunsOk (joinR ln) ∧ (joinR (List.replicate fn (joinR ln)).flatten = joinR (ln.map fun r => (r.1 * (fn : Int), r.2)) ∧ ∀ r ∈ joinR ln, r.1 < 2 ^ 150) := by
  rcases h with rfl | rfl
  · refine ⟨fun _ z => (nomatch z), ⟨by decide, by decide⟩, ⟨fun _ z => (nomatch z), by decide⟩, ?_, fun _ z => (nomatch z)⟩
    show joinR (List.replicate fn []).flatten = _
    rw [List.flatten_replicate_nil]
    rfl
  · have e : joinR [((3 : Int), (4 : Int))] = [(3, 4)] := by decide
    have m : ∀ r ∈ [((3 : Int), (4 : Int))], r = (3, 4) := fun r hr => List.mem_singleton.mp hr
    refine ⟨fun p hp => by rw [m p hp]; decide, ⟨by decide, by decide⟩, ⟨fun r hr => ?_, by decide⟩, ?_, fun r hr => ?_⟩
    · rw [e] at hr
      rw [m r hr]
      decide
    · rw [e]
      refine Jn.join_uniq (fun p hp => ?_) (fun p hp => ?_) ?_
      · obtain ⟨l, hl, hpl⟩ := List.mem_flatten.mp hp
        rw [(List.mem_replicate.mp hl).2] at hpl
        rw [m p hpl]
        decide
      · obtain ⟨r, hr, rfl⟩ := List.mem_map.mp hp
        rw [m r hr]
        show (0 : Int) ≤ 3 * (fn : Int)
        omega
      · rw [rep_exp]
        exact (one_exp (r := (3, 4)) (by decide)).symm
    · rw [e] at hr
      rw [m r hr]
      decide
section
variable {P : Program} {w : World} {K : PySem.W.Frag} {mg : Str → Option Value} {base : Heap}
theorem ok_law (T : Tx w K mg) {f : Addr} {fd : FuncData} (F : Fun K "law" "law" s_law f fd) : FnOk P w K mg base CX0 9 f fd ["_law_script"] (Da.spLaw K) := by
  refine F.ok sc_law (fun vs H Q E h => ?_) (fun cdv A outer s H vs Q E hr h => ?_)
  · obtain ⟨a, ns, rfl, _⟩ := h
    rfl
  · obtain ⟨a, ks, rfl, ha, hn, k⟩ := h
    refine ⟨_, (Evl.pss_cut (ps_set (i := 1) sc_law.nd rfl (Or.inl rfl) (pe_lst (pa_cons (pe_orT (pe_callTy (Da.listK (K := K) rfl) (by rfl) T.z_list (by decide +kernel) (pa_cons (pv 0) pa_nil)) (pe_one (pe_lst (pa_cons pe_int pa_nil)))) (pa_cons pe_int pa_nil))))
      (pss_cons (ps_for PassesOwn.never rfl (pi_range1 (by rfl) T.z_range (pa_cons (pe_callB (call_max2 rfl) (by rfl) T.z_max (by decide +kernel) (pa_cons pe_int (pa_cons (pe_callB (call_min2 rfl) (by rfl) T.z_min (by decide +kernel) (pa_cons pe_int (pa_cons (pe_callB (Da.lenK (K := K) rfl) (by rfl) T.z_len (by decide +kernel) (pa_cons (pv 0) pa_nil)) pa_nil))) pa_nil))) pa_nil)) (pg_name (i := 2) sc_law.nd rfl (Or.inl rfl))
        (pss_cons (ps_set (i := 3) sc_law.nd rfl (Or.inl rfl) (pe_call (ok_law_some T) (hr.mono (by decide)) rfl T.m_law_some T.F_law_some.kp T.b_law_some .nil pass0 (pa_cons (pv 1) (pa_cons (pe_call (ok_law_draw T) (hr.mono (by decide)) rfl T.m_law_draw T.F_law_draw.kp T.b_law_draw .nil pass0 (pa_cons (pv 1) (pa_cons pe_int pa_nil))) pa_nil))))
        (pss_cons (ps_set (i := 4) sc_law.nd rfl (Or.inl rfl) (pe_call (ok_law_some T) (hr.mono (by decide)) rfl T.m_law_some T.F_law_some.kp T.b_law_some .nil pass0 (pa_cons (pv 1) (pa_cons (pe_call (ok_law_draw T) (hr.mono (by decide)) rfl T.m_law_draw T.F_law_draw.kp T.b_law_draw .nil pass0 (pa_cons (pv 1) (pa_cons pe_int pa_nil))) pa_nil))))
        (Evl.pss_cut (Da.ps_own 1 (ps_set (i := 5) sc_law.nd rfl (Or.inl rfl) (pe_callTy (Da.listK (K := K) rfl) (by rfl) T.z_list (by decide +kernel) (pa_cons (pv 3) pa_nil))))
        (pss_cons (ps_set (i := 6) sc_law.nd rfl (Or.inl rfl) (Da.pe_lendE 1 (Sm.pe_smeth (pe_glob (v := .ref T.c_Row) rfl T.m_Row rfl) T.h_Row_of_runs (ok_Row_of_runs T) (hr.mono (by decide)) T.b_Row_of_runs .nil pass0 (pa_cons (pv 5) pa_nil))))
        (pss_cons (ps_if (PW.pt (pw_or (pt_cmpR (Da.neK (K := K) rfl hr.units) (pv 5) (pv 3) (nomark _)) (pw_or1 (pt_not (pt_val (pe_call (ok_law_fits T) (hr.mono (by decide)) rfl T.m_law_fits T.F_law_fits.kp T.b_law_fits .nil pass0 (pa_cons (pv 6) (pa_cons (pv 3) pa_nil))))))))
          (pss_one (ps_ret pe_bl))
          pss_nil)
        (pss_cons (ps_expr (Da.bmK (K := K) rfl PySem.F.plainAttrs_list PySem.F.slot_list_append PySem.F.type_list_append mt_append (pv 5) (pa_cons (pe_tup (pa_cons pe_int (pa_cons pe_int pa_nil))) pa_nil)))
        (Evl.pss_cut (ps_set (i := 7) sc_law.nd rfl (Or.inl rfl) (Sm.pe_smeth (pe_glob (v := .ref T.c_Row) rfl T.m_Row rfl) T.h_Row_of_runs (ok_Row_of_runs T) (hr.mono (by decide)) T.b_Row_of_runs .nil pass0 (pa_cons (pe_callTy (Da.tupleK (K := K) rfl) (by rfl) T.z_tuple (by decide +kernel) (pa_cons (pv 4) pa_nil)) pa_nil)))
        (pss_cons (ps_if (PW.pt (pw_or (pt_not (pt_val (pe_call (ok_law_fits T) (hr.mono (by decide)) rfl T.m_law_fits T.F_law_fits.kp T.b_law_fits .nil pass0 (pa_cons (pe_op (Da.binOwn (by decide +kernel) (K := K) rfl (ok_Row___add T) T.hs_Row___add T.hf_Row___add T.b_Row___add pass0 (hr.mono (by decide)) T.sf_Row) (pv 6) (pv 7)) (pa_cons (pe_op (Da.addK (K := K) rfl) (pv 3) (pv 4)) pa_nil))))) (pw_or (pt_not (pt_val (pe_call (ok_law_fits T) (hr.mono (by decide)) rfl T.m_law_fits T.F_law_fits.kp T.b_law_fits .nil pass0 (pa_cons (pv 6) (pa_cons (pv 3) pa_nil))))) (pw_or1 (pt_not (pt_val (pe_call (ok_law_fits T) (hr.mono (by decide)) rfl T.m_law_fits T.F_law_fits.kp T.b_law_fits .nil pass0 (pa_cons (pv 7) (pa_cons (pv 4) pa_nil)))))))))
          (pss_one (ps_ret pe_bl))
          pss_nil)
        (Evl.pss_cut (ps_set (i := 8) sc_law.nd rfl (Or.inl rfl) (pe_call (ok_law_draw T) (hr.mono (by decide)) rfl T.m_law_draw T.F_law_draw.kp T.b_law_draw .nil pass0 (pa_cons (pv 1) (pa_cons pe_int pa_nil))))
        (pss_cons (ps_if (PW.pt (pw_or (pt_not (pt_val (pe_call (ok_law_fits T) (hr.mono (by decide)) rfl T.m_law_fits T.F_law_fits.kp T.b_law_fits .nil pass0 (pa_cons (pe_op (Da.mulOwn (by decide +kernel) (by decide +kernel) (K := K) rfl (ok_Row___mul T) T.hs_Row___mul T.rm_Row T.hf_Row___mul T.b_Row___mul pass0 (hr.mono (by decide)) T.sf_Row) (pv 6) (pv 8)) (pa_cons (pe_op (Da.mulK (K := K) rfl) (pv 3) (pv 8)) pa_nil))))) (pw_or1 (pt_not (pt_val (pe_call (ok_law_fits T) (hr.mono (by decide)) rfl T.m_law_fits T.F_law_fits.kp T.b_law_fits .nil pass0 (pa_cons (pe_op (Da.mulOwn (by decide +kernel) (by decide +kernel) (K := K) rfl (ok_Row___mul T) T.hs_Row___mul T.rm_Row T.hf_Row___mul T.b_Row___mul pass0 (hr.mono (by decide)) T.sf_Row) (pv 6) pe_int) (pa_cons (pe_lst pa_nil) pa_nil))))))))
          (pss_one (ps_ret pe_bl))
          pss_nil)
        (pss_cons (ps_set (i := 9) sc_law.nd rfl (Or.inl rfl) (pe_op (Da.mulK (K := K) rfl) (pe_lst (pa_cons (pe_tup (pa_cons pe_int (pa_cons pe_int pa_nil))) pa_nil)) (pe_call (ok_law_draw T) (hr.mono (by decide)) rfl T.m_law_draw T.F_law_draw.kp T.b_law_draw .nil pass0 (pa_cons (pv 1) (pa_cons pe_int pa_nil)))))
        (Evl.pss_cut (ps_set (i := 10) sc_law.nd rfl (Or.inr rfl) (pe_op (Da.addK (K := K) rfl) (pe_call (ok_law_ten T) (hr.mono (by decide)) rfl T.m_law_ten T.F_law_ten.kp T.b_law_ten .nil pass0 (pa_cons (pv 1) pa_nil)) (pv 8)))
        (Evl.pss_cut (ps_set (i := 11) sc_law.nd rfl (Or.inl rfl) (pe_op (Da.mulOwn (by decide +kernel) (by decide +kernel) (K := K) rfl (ok_Row___mul T) T.hs_Row___mul T.rm_Row T.hf_Row___mul T.b_Row___mul pass0 (hr.mono (by decide)) T.sf_Row) (Sm.pe_smeth (pe_glob (v := .ref T.c_Row) rfl T.m_Row rfl) T.h_Row_of_runs (ok_Row_of_runs T) (hr.mono (by decide)) T.b_Row_of_runs .nil pass0 (pa_cons (pv 9) pa_nil)) (pv 10)))
        (pss_cons (ps_if (pt_cmpR (Da.neK (K := K) rfl hr.units) (Da.fldK (K := K) rfl (pv 11) rfl) (pe_call (ok_law_merged T) (hr.mono (by decide)) rfl T.m_law_merged T.F_law_merged.kp T.b_law_merged .nil pass0 (pa_cons (pe_lc (g := gTup K 2 (gCons (gName 12) (gCons (gName 13) gNil))) rfl sc_law.nd (Da.seqK (K := K) rfl (pv 9)) (blkOk_by (own := [("_law_count", 12), ("_law_cell", 13)]) (N := ["_law_script", "_law_pen", "_law_turn", "_law_runs", "_law_other", "_law_handed", "_law_row", "_law_second", "_law_times", "_law_lone", "_law_far", "_law_product", "_law_count", "_law_cell"]) (sc := defScope s_law) (by decide +kernel)) (fun _ _ _ _ _ => (Da.gtupK (n := 2) (K := K) rfl (by rfl) (pgs_cons (pg_name (i := 12) sc_law.nd rfl (Or.inl rfl)) (pgs_cons (pg_name (i := 13) sc_law.nd rfl (Or.inl rfl)) pgs_nil)))) (fun _ _ _ _ _ => pts_nil) (fun _ _ _ _ _ => (pe_tup (pa_cons (pe_op (Da.mulK (K := K) rfl) (pv 12) (pv 10)) (pa_cons (pv 13) pa_nil))))) pa_nil)) (nomark _))
          (pss_one (ps_ret pe_bl))
          pss_nil)
        (pss_cons (ps_if (PW.pt (pw_or (pt_cmpR (Da.neK (K := K) rfl hr.units) (pe_cmpR (Da.eqOwnA (K := K) rfl (ok_Row___eq T) T.hs_Row___eq T.hf_Row___eq T.b_Row___eq pass0 (hr.mono (by decide)) T.nt_Row) (pv 6) (pv 7) (nomark _)) (pe_cmpR (Da.eqK (K := K) rfl hr.units) (pe_call (ok_law_merged T) (hr.mono (by decide)) rfl T.m_law_merged T.F_law_merged.kp T.b_law_merged .nil pass0 (pa_cons (pv 3) pa_nil)) (pe_call (ok_law_merged T) (hr.mono (by decide)) rfl T.m_law_merged T.F_law_merged.kp T.b_law_merged .nil pass0 (pa_cons (pv 4) pa_nil)) (nomark _)) (nomark _)) (pw_or1 (pt_cmpR (Da.eqOwnA (K := K) rfl (ok_Row___eq T) T.hs_Row___eq T.hf_Row___eq T.b_Row___eq pass0 (hr.mono (by decide)) T.nt_Row) (pv 6) (Da.fldK (K := K) rfl (pv 6) rfl) (nomark _)))))
          (pss_one (ps_ret pe_bl))
          pss_nil)
        (pss_one (ps_if (PW.pt (pw_or (pt_not (pt_val (pe_call (ok_law_parts_fit T) (hr.mono (by decide)) rfl T.m_law_parts_fit T.F_law_parts_fit.kp T.b_law_parts_fit .nil pass0 (pa_cons (pv 1) (pa_cons (pv 6) (pa_cons (pv 3) pa_nil)))))) (pw_or1 (pt_not (pt_val (pe_call (ok_law_short_fits T) (hr.mono (by decide)) rfl T.m_law_short_fits T.F_law_short_fits.kp T.b_law_short_fits .nil pass0 (pa_cons (pv 3) pa_nil)))))))
          (pss_one (ps_ret pe_bl))
          pss_nil))))))))))))))))))
      (pss_one (ps_ret pe_bl)))), ?_⟩
    refine Evl.q_cut (M := fun σ H' => ∃ p q, σ = Da.lawS a p 12 ∧ Pen H' p q 0 ∧ SqL K (hid [p, q] H') a (ks.map V.int)) ?_ (fun σ H1 hM => ?_)
    · walk_at "rd"
      refine i_orT ?_
      walk_at "rd"
      refine ⟨a, _, rfl, .inl ha, fun l nl => ?_⟩
      refine ⟨!((ks.map V.int)).isEmpty, .inl ⟨_, SqL.of upd_same, rfl⟩, ?_⟩
      cases ks with
      | nil =>
        refine Rd.ite_F ?_
        walk_at "rd"
        refine ⟨by show 1 ≤ sizeLine; decide, fun z nz => ?_⟩
        walk_at "rd"
        refine ⟨by show 2 ≤ sizeLine; decide, fun p np => ?_⟩
        walk_at "rd"
        obtain ⟨h1, h2⟩ := pen_nil nl nz np ha
        exact ⟨p, z, rfl, h1, h2⟩
      | cons x r =>
        refine Rd.ite_T ?_
        walk_at "rd"
        refine ⟨by show 2 ≤ sizeLine; decide, fun p np => ?_⟩
        walk_at "rd"
        obtain ⟨h1, h2⟩ := pen_cons (ns := x :: r) (fun z => nomatch z) (by omega) nl np ha
        exact ⟨p, l, rfl, h1, h2⟩
    · obtain ⟨p, q, rfl, hpen, hSq⟩ := hM
      refine law_rest hpen hSq ?_ k
      clear k hpen hSq ha
      walk_at "w"
      have hb : max (1 : Int) (min 4 (ks.length : Int)) ≤ 4 ∧ 1 ≤ max (1 : Int) (min 4 (ks.length : Int)) := by omega
      generalize max (1 : Int) (min 4 (ks.length : Int)) = tu at hb ⊢
      refine ⟨by omega, ?_⟩
      have c1 := T.cl_Row
      have c2 := T.n_Row_runs
      walk_at "w"
      refine for_inv (fun i Γ s => ∃ (u2 u3 u4 u5 u6 u7 u8 u9 u10 u11 u12 u13 : Option D) (M : List Ent) (n : Nat), Γ = [some (.lck ks), some (.val (.ref p)), u2, u3, u4, u5, u6, u7, u8, u9, u10, u11, u12, u13] ∧ s = ⟨M, n, some (p, q)⟩ ∧ n ≤ 1000 * i ∧ (M = [] ∨ ∃ l ds b, M = [⟨1, l, .lst ds, b⟩])) ⟨_, _, _, _, _, _, _, _, _, _, _, _, [], 0, rfl, rfl, Nat.zero_le _, .inl rfl⟩ ?_ ?_
      · rintro i d _ _ hi hd ⟨u2, u3, u4, u5, u6, u7, u8, u9, u10, u11, u12, u13, M, n, rfl, rfl, hn, hM⟩
        obtain ⟨hi, rfl⟩ := rng_at hd
        have hi4 : i < 4 := by omega
        have hn0 : n ≤ 3000 := by omega
        walk_at "draw"
        intro r r0 r1
        walk_at "w"
        refine i_some (by omega) (by omega) (by walk_at "n") (fun rs n2 kr lr h2 => ?_)
        have h2 : n2 ≤ n + 1 + 100 := h2
        walk_at "draw"
        intro r r0 r1
        walk_at "w"
        refine i_some (by omega) (by omega) (by walk_at "n") (fun os n3 ko lo h3 => ?_)
        have h3 : n3 ≤ n2 + 1 + 100 := h3
        have hr8 : rs.length ≤ 8 := by omega
        have ho8 : os.length ≤ 8 := by omega
        have h3 : n3 ≤ n + 202 := by omega
        clear h2 lr lo
        refine ⟨fun Γ s => ∃ (l : Addr) (u6 u7 u8 u9 u10 u11 u12 u13 : Option D), Γ = [some (.lck ks), some (.val (.ref p)), some (.int (0 + (i : Int))), some (.lst (rs.map runD)), some (.lst (os.map runD)), some (.loc l 1), u6, u7, u8, u9, u10, u11, u12, u13] ∧ s = ⟨[⟨1, l, .lst (rs.map runD), false⟩], n3, some (p, q)⟩, ?_, ?_⟩
        · rcases hM with rfl | ⟨l0, ds0, b0, rfl⟩
          all_goals
            walk_at "w"
            intro l
            exact ⟨l, _, _, _, _, _, _, _, _, rfl, rfl⟩
        rintro _ _ ⟨l, u6, u7, u8, u9, u10, u11, u12, u13, rfl, rfl⟩
        have pr : ∀ p ∈ rs, 0 ≤ p.1 ∧ 0 ≤ p.2 := fun r hr => ⟨(kr.pos r hr).1, (kr.pos r hr).2.2.1⟩
        have po : ∀ p ∈ os, 0 ≤ p.1 ∧ 0 ≤ p.2 := fun r hr => ⟨(ko.pos r hr).1, (ko.pos r hr).2.2.1⟩
        have jr := Jn.join_len rs
        have jo := Jn.join_len os
        have okr : RunsOk (joinR rs) := join_runs (fun r hr => (pr r hr).1) (by omega)
        have crr := join_cells pr
        walk_at "w"
        refine i_of_runs (ps := rs) rfl pr (by omega) (by omega) ?_
        walk_at "w"
        refine ⟨⟨nl_row, fun x hx => ?_⟩, ?_⟩
        · obtain rfl := List.mem_singleton.mp hx
          exact nlm_runs
        walk_at "w"
        refine ⟨⟨2, 2, by decide, by decide, runs_pl, runs_pl⟩, ?_⟩
        walk_at "w"
        refine .nn rfl ?_
        walk_at "w"
        refine i_fits rfl rfl (.inl rfl) pr (by omega) ?_
        walk_at "w"
        refine ⟨small1000 (by rw [List.length_map]; omega), ?_⟩
        walk_at "w"
        refine ⟨fun Γ s => ∃ (u8 u9 u10 u11 u12 u13 : Option D) (n' : Nat), Γ = [some (.lck ks), some (.val (.ref p)), some (.int (0 + (i : Int))), some (.lst (rs.map runD)), some (.lst (os.map runD)), some (.loc l 1), some (rowG T.c_Row (joinR rs)), some (rowG T.c_Row (joinR os)), u8, u9, u10, u11, u12, u13] ∧ s = ⟨[⟨1, l, .lst (rs.map runD ++ [.tup [.int 1, .int 5]]), false⟩], n', some (p, q)⟩ ∧ n' ≤ n3 + 0, ?_, ?_⟩
        · walk_at "w"
          refine i_of_runsT (ps := os) rfl po (by omega) (by omega) ?_
          walk_at "w"
          exact ⟨_, _, _, _, _, _, n3, rfl, rfl, Nat.le_refl _⟩
        rintro _ _ ⟨u8, u9, u10, u11, u12, u13, n4, rfl, rfl, h4⟩
        walk_at "w"
        refine ⟨⟨rfl, rfl⟩, ?_⟩
        have pro : ∀ p ∈ rs ++ os, 0 ≤ p.1 ∧ 0 ≤ p.2 := fun p hp => (List.mem_append.mp hp).elim (pr p) (po p)
        have jro : (joinR rs ++ joinR os).length ≤ 16 := by rw [List.length_append]; omega
        have pro2 : ∀ p ∈ joinR rs ++ joinR os, 0 ≤ p.1 ∧ 0 ≤ p.2 := fun p hp => by
          rcases List.mem_append.mp hp with hp | hp
          · exact ⟨by have := okr.pos p hp; omega, crr p hp⟩
          · exact ⟨by have := (Jn.join_ok (fun p q => (po p q).1)).1 p hp; omega, join_cells po p hp⟩
        refine i_add (rs1 := joinR rs) (rs2 := joinR os) pro2 (by omega) ?_
        have ea : joinR (joinR rs ++ joinR os) = joinR (rs ++ os) := Jn.join_uniq (fun p q => (pro2 p q).1) (fun p q => (pro p q).1) (by rw [Jn.expand_app, Jn.expand_app, (Jn.join_ok (fun p q => (pr p q).1)).2, (Jn.join_ok (fun p q => (po p q).1)).2])
        walk_at "w"
        refine ⟨le1000 (by rw [List.length_map, List.length_map]; omega), ?_⟩
        walk_at "w"
        refine i_fits rfl ea (.inl (by rw [List.map_append])) pro (by rw [List.length_append]; omega) ?_
        walk_at "w"
        refine i_fits rfl rfl (.inl rfl) pr (by omega) ?_
        walk_at "w"
        refine i_fits rfl rfl (.inl rfl) po (by omega) ?_
        walk_at "w"
        refine ⟨fun Γ s => ∃ (t : Int) (u9 u10 u11 u12 u13 : Option D) (n' : Nat), Γ = [some (.lck ks), some (.val (.ref p)), some (.int (0 + (i : Int))), some (.lst (rs.map runD)), some (.lst (os.map runD)), some (.loc l 1), some (rowG T.c_Row (joinR rs)), some (rowG T.c_Row (joinR os)), some (.int t), u9, u10, u11, u12, u13] ∧ s = ⟨[⟨1, l, .lst (rs.map runD ++ [.tup [.int 1, .int 5]]), false⟩], n', some (p, q)⟩ ∧ n' ≤ n3 + 1 ∧ 0 ≤ t ∧ t ≤ 5, ?_, ?_⟩
        · walk_at "draw"
          intro t t0 t1
          walk_at "w"
          exact ⟨t, _, _, _, _, _, _, rfl, rfl, by walk_at "n", t0, by omega⟩
        rintro _ _ ⟨t, u9, u10, u11, u12, u13, n5, rfl, rfl, h5, t0, t1⟩
        clear h4
        walk_at "w"
        obtain ⟨tn, rfl⟩ : ∃ k : Nat, t = (k : Int) := ⟨t.toNat, by omega⟩
        have tn5 : tn ≤ 5 := by omega
        have hq : (joinR rs).length * tn ≤ 8 * 5 := Nat.mul_le_mul (by omega) tn5
        have hq2 : rs.length * tn ≤ 8 * 5 := Nat.mul_le_mul (by omega) tn5
        have prt : ∀ p ∈ (List.replicate tn rs).flatten, 0 ≤ p.1 ∧ 0 ≤ p.2 := rep_all pr
        have et : joinR (List.replicate tn (joinR rs)).flatten = joinR (List.replicate tn rs).flatten := by
          refine Jn.join_uniq (fun p q => (rep_all (fun p q => ⟨Int.le_trans (by decide) (okr.pos p q), crr p q⟩) p q).1) (fun p q => (prt p q).1) ?_
          rw [rep_exp, rep_exp, (Jn.join_ok (fun p q => (pr p q).1)).2]
        refine i_mul (t := tn) rfl okr crr (fun _ => ⟨by omega, by omega⟩) (Nat.lt_of_le_of_lt tn5 (by decide)) (joined_small kr hr8) ?_
        walk_at "w"
        refine ⟨⟨by omega, by omega, le1000 (by rw [List.length_map]; show rs.length * tn ≤ 1000; omega)⟩, ?_⟩
        walk_at "w"
        refine i_fits rfl et (.inl (by rw [List.map_flatten, List.map_replicate]; rfl)) prt (by rw [rep_len2]; omega) ?_
        walk_at "w"
        refine i_mul (t := 0) rfl okr crr (fun _ => ⟨by decide, by omega⟩) (by decide) (joined_small kr hr8) ?_
        walk_at "w"
        refine i_fits rfl (ps := []) rfl (.inl rfl) (fun _ z => nomatch z) (by decide) ?_
        walk_at "draw"
        intro o o0 o1
        walk_at "w"
        refine ⟨⟨by omega, by omega, le1000 (by show 1 * _ ≤ 1000; omega)⟩, ?_⟩
        walk_at "w"
        obtain ⟨ln, hln, el⟩ := lone_ok o0 o1
        rw [el]
        refine ⟨fun Γ s => ∃ (fa : Int) (u11 u12 u13 : Option D) (n' : Nat), Γ = [some (.lck ks), some (.val (.ref p)), some (.int (0 + (i : Int))), some (.lst (rs.map runD)), some (.lst (os.map runD)), some (.loc l 1), some (rowG T.c_Row (joinR rs)), some (rowG T.c_Row (joinR os)), some (.int (tn : Int)), some (.lst (ln.map runD)), some (.int fa), u11, u12, u13] ∧ s = ⟨[⟨1, l, .lst (rs.map runD ++ [.tup [.int 1, .int 5]]), false⟩], n', some (p, q)⟩ ∧ n' ≤ n3 + 4 ∧ 1 ≤ fa ∧ fa ≤ 1000000000000000000000000000005, ?_, ?_⟩
        · walk_at "w"
          refine i_ten (by walk_at "n") (fun t0 n6 u0 u1 h6 => ?_)
          walk_at "w"
          exact ⟨_, _, _, _, n6, rfl, rfl, by walk_at "n", by omega, by omega⟩
        rintro _ _ ⟨fa, u11, u12, u13, n6, rfl, rfl, h6, f0, f1⟩
        clear h5
        refine ⟨fun Γ s => ∃ (u12 u13 : Option D) (n' : Nat), Γ = [some (.lck ks), some (.val (.ref p)), some (.int (0 + (i : Int))), some (.lst (rs.map runD)), some (.lst (os.map runD)), some (.loc l 1), some (rowG T.c_Row (joinR rs)), some (rowG T.c_Row (joinR os)), some (.int (tn : Int)), some (.lst (ln.map runD)), some (.int fa), some (rowG T.c_Row (joinR (ln.map fun r => (r.1 * fa, r.2)))), u12, u13] ∧ s = ⟨[⟨1, l, .lst (rs.map runD ++ [.tup [.int 1, .int 5]]), false⟩], n', some (p, q)⟩ ∧ n' ≤ n3 + 4, ?_, ?_⟩
        · obtain ⟨fn, rfl⟩ : ∃ k : Nat, fa = (k : Int) := ⟨fa.toNat, by omega⟩
          obtain ⟨l1, l2, l3, l4⟩ := lone_facts hln fn
          walk_at "w"
          refine i_of_runs (ps := ln) rfl l1 (by omega) (by omega) ?_
          walk_at "w"
          refine i_mul (t := fn) rfl l3 (join_cells l1) (fun z => absurd z (by omega)) (Nat.lt_of_le_of_lt (show fn ≤ 1000000000000000000000000000005 by omega) (by decide)) l4.2 ?_
          rw [l4.1]
          walk_at "w"
          exact ⟨_, _, n6, rfl, rfl, h6⟩
        rintro _ _ ⟨u12, u13, n7, rfl, rfl, h7⟩
        clear h6
        walk_at "w"
        have ln1 : ln.length ≤ 1 := by rcases hln with rfl | rfl <;> decide
        refine lc_inv (fun j acc s => acc = ((ln.take j).map fun r => (r.1 * fa, r.2)).map runD ∧ s = ⟨[⟨1, l, .lst (rs.map runD ++ [.tup [.int 1, .int 5]]), false⟩], n7, some (p, q)⟩) (le1000 (by rw [runs_n]; omega)) ⟨rfl, rfl⟩ ?_ ?_
        · rintro j d _ _ hj hd _ ⟨rfl, rfl⟩
          obtain ⟨r, hr1, rfl⟩ := runs_at (seq_at hd)
          obtain rfl : r = (3, 4) := by
            have hm := List.mem_of_getElem? hr1
            rcases hln with rfl | rfl
            · cases hm
            · exact List.mem_singleton.mp hm
          walk_at "w"
          refine ⟨mulB (by decide) (by have : (2 : Nat) ^ 200 = 1606938044258990275541962092341162602522202993782792835301376 := by decide
                                       omega), ?_⟩
          walk_at "w"
          refine ⟨?_, rfl⟩
          rw [take_more hr1, List.map_append, List.map_append]
          rfl
        rintro _ _ _ ⟨rfl, rfl⟩
        rw [runs_n, List.take_length]
        walk_at "w"
        refine i_merged (.inl rfl) (fun p hp => ?_) (by rw [List.length_map]; omega) ?_
        · obtain ⟨r, hr, rfl⟩ := List.mem_map.mp hp
          rcases hln with rfl | rfl
          · cases hr
          · obtain rfl := List.mem_singleton.mp hr
            show (0 : Int) ≤ 3 * fa
            omega
        walk_at "w"
        refine ⟨⟨2, 2, by decide, by decide, runs_pl, runs_pl⟩, ?_⟩
        walk_at "w"
        refine .nn rfl ?_
        walk_at "w"
        refine ⟨⟨rfl, rfl⟩, ?_⟩
        refine i_row_eq (fun k hk => ?_)
        walk_at "w"
        refine i_merged (.inl rfl) (fun p hp => (pr p hp).1) (by omega) ?_
        walk_at "w"
        refine i_merged (.inl rfl) (fun p hp => (po p hp).1) (by omega) ?_
        walk_at "w"
        refine ⟨⟨2, 2, by decide, by decide, runs_pl, runs_pl⟩, ?_⟩
        walk_at "w"
        refine Br.no (same_b (hk.trans ⟨fun e => by rw [e], fun e => run_inj (D.tup.inj e)⟩)) ?_
        walk_at "w"
        refine i_row_ne ?_
        walk_at "w"
        refine i_parts_fit pr (by omega) (by walk_at "n") (fun n8 h8 => ?_)
        have h8 : n8 ≤ n7 + 20 := h8
        walk_at "w"
        refine i_short_fits pr (by omega) ?_
        walk_at "w"
        exact ⟨_, _, _, _, _, _, _, _, _, _, _, _, _, n8, rfl, rfl, by omega, .inr ⟨_, _, _, rfl⟩⟩
      · rintro _ _ ⟨u2, u3, u4, u5, u6, u7, u8, u9, u10, u11, u12, u13, M, n, rfl, rfl, hn, hM⟩
        walk_at "w"
end
end Lw

namespace Lw
open PySem L2 Da
theorem all_mk {l : PySem.W.OpenLaw} {w : World} {K : PySem.W.Frag} {h : Heap} {mg : Str → Option Value} {fa : Addr} (X : K.In h) (G : h.Ns mainGlobals mg) (hfa : mg "law" = some (.ref fa)) {C_Row A_dRow___init A_eRow___init f_Row___init A_Row_of_runs f_Row_of_runs f_Row___eq A_Row_size f_Row_size f_Row_cell_at f_Row_part f_Row_cells f_Row___add f_Row___mul f_Row___contains f_joined f_law_draw f_law_pick f_law_ten f_law_some f_law_merged f_law_size f_law_part f_law_fits f_law_places f_law_parts_fit f_law_short_fits f_law : Addr} {od_Row___init an_Row___init od_Row_of_runs an_Row_of_runs od_Row___eq an_Row___eq od_Row_size an_Row_size od_Row_cell_at an_Row_cell_at od_Row_part an_Row_part od_Row_cells an_Row_cells od_Row___add an_Row___add od_Row___mul an_Row___mul od_Row___contains an_Row___contains od_joined an_joined od_law_draw an_law_draw od_law_pick an_law_pick od_law_ten an_law_ten od_law_some an_law_some od_law_merged an_law_merged od_law_size an_law_size od_law_part an_law_part od_law_fits an_law_fits od_law_places an_law_places od_law_parts_fit an_law_parts_fit od_law_short_fits an_law_short_fits od_law an_law : Option Addr} {oc_Row___init kV_Row___init dc_Row___init pm_Row___init cd_Row___init ct_Row___init oc_Row_of_runs kV_Row_of_runs dc_Row_of_runs pm_Row_of_runs cd_Row_of_runs ct_Row_of_runs oc_Row___eq kV_Row___eq dc_Row___eq pm_Row___eq cd_Row___eq ct_Row___eq oc_Row_size kV_Row_size dc_Row_size pm_Row_size cd_Row_size ct_Row_size oc_Row_cell_at kV_Row_cell_at dc_Row_cell_at pm_Row_cell_at cd_Row_cell_at ct_Row_cell_at oc_Row_part kV_Row_part dc_Row_part pm_Row_part cd_Row_part ct_Row_part oc_Row_cells kV_Row_cells dc_Row_cells pm_Row_cells cd_Row_cells ct_Row_cells oc_Row___add kV_Row___add dc_Row___add pm_Row___add cd_Row___add ct_Row___add oc_Row___mul kV_Row___mul dc_Row___mul pm_Row___mul cd_Row___mul ct_Row___mul oc_Row___contains kV_Row___contains dc_Row___contains pm_Row___contains cd_Row___contains ct_Row___contains oc_joined kV_joined dc_joined pm_joined cd_joined ct_joined oc_law_draw kV_law_draw dc_law_draw pm_law_draw cd_law_draw ct_law_draw oc_law_pick kV_law_pick dc_law_pick pm_law_pick cd_law_pick ct_law_pick oc_law_ten kV_law_ten dc_law_ten pm_law_ten cd_law_ten ct_law_ten oc_law_some kV_law_some dc_law_some pm_law_some cd_law_some ct_law_some oc_law_merged kV_law_merged dc_law_merged pm_law_merged cd_law_merged ct_law_merged oc_law_size kV_law_size dc_law_size pm_law_size cd_law_size ct_law_size oc_law_part kV_law_part dc_law_part pm_law_part cd_law_part ct_law_part oc_law_fits kV_law_fits dc_law_fits pm_law_fits cd_law_fits ct_law_fits oc_law_places kV_law_places dc_law_places pm_law_places cd_law_places ct_law_places oc_law_parts_fit kV_law_parts_fit dc_law_parts_fit pm_law_parts_fit cd_law_parts_fit ct_law_parts_fit oc_law_short_fits kV_law_short_fits dc_law_short_fits pm_law_short_fits cd_law_short_fits ct_law_short_fits oc_law kV_law dc_law pm_law cd_law ct_law : Value} {sl_Row___init sl_Row_of_runs sl_Row___eq sl_Row_size sl_Row_cell_at sl_Row_part sl_Row_cells sl_Row___add sl_Row___mul sl_Row___contains sl_joined sl_law_draw sl_law_pick sl_law_ten sl_law_some sl_law_merged sl_law_size sl_law_part sl_law_fits sl_law_places sl_law_parts_fit sl_law_short_fits sl_law : Array (Option Value)} {t_MOST_RUNS t_MOST_CELLS : Tok} {nt_dRow___init nu_dRow___init : Nat} {ot_dRow___init ou_dRow___init : Option Addr} {st_dRow___init su_dRow___init : Array (Option Value)} {ct_dRow___init : Value} {rest_Row_of_runs : List Value} {rest_Row_size : List Value}
    (sp : PySem.W.specialIn K (.builtin "object.__class__") "__get__" = some (some (.builtin "getset_descriptor.__get__")))
    (tk : PySem.W.takesIn K (.builtin "object.__class__") = some true)
    (g_Row : PySem.W.nsIn K mainGlobals "Row" = some (some (.ref C_Row)))
    (pg_Row : PySem.W.plainGet K C_Row Str.empty = true)
    (hd_Row : PySem.W.hasDictIn K C_Row = true)
    (po_Row : PySem.W.plainOver K C_Row = true)
    (sa_Row : PySem.W.findIn K (.ref C_Row) "__setattr__" = some (some (.builtin "object.__setattr__")))
    (mk_Row : PySem.W.makesIn K C_Row = true)
    (kc_Row : PySem.W.keepIn K (.ref C_Row) = true)
    (ca_Row : PySem.W.findIn K (.ref C_Row) "__class__" = some (some (.builtin "object.__class__")))
    (mo_Row : PySem.W.mroIn K C_Row (.type "object") = some true)
    (n_Row_runs : PySem.W.findIn K (.ref C_Row) "runs" = some none)
    (a_Row___init : PySem.W.findIn K (.ref C_Row) "__init__" = some (some (.ref f_Row___init)))
    (l_Row___init : K.lookup f_Row___init = some ⟨oc_Row___init, od_Row___init, .func (PySem.W.fnOf "__init__" "Row.__init__" (defArgs s_Row___init) (defBody s_Row___init) (defScope s_Row___init) (.ref A_dRow___init) kV_Row___init dc_Row___init pm_Row___init an_Row___init cd_Row___init ct_Row___init), sl_Row___init⟩)
    (c_Row___init : PySem.W.codeIn K cd_Row___init "Row.__init__" = true)
    (k_Row___init : PySem.W.keepIn K (.ref f_Row___init) = true)
    (i_Row___init : PySem.W.isFn K (.ref f_Row___init) = true)
    (u_dRow___init : K.lookup A_dRow___init = some ⟨ct_dRow___init, ot_dRow___init, .seq #[.ref A_eRow___init] nt_dRow___init, st_dRow___init⟩)
    (u_eRow___init : K.lookup A_eRow___init = some ⟨.type "tuple", ou_dRow___init, .seq #[] nu_dRow___init, su_dRow___init⟩)
    (sr_Row_of_runs : PySem.W.readsIn K C_Row (.type "type") = true)
    (sg_Row_of_runs : PySem.W.specialIn K (.ref C_Row) "__getattribute__" = some (some (.builtin "type.__getattribute__")))
    (sb_Row_of_runs : PySem.W.findCls K (.ref C_Row) (.type "type") "of_runs" = some (.get (.builtin "staticmethod.__get__") (.ref A_Row_of_runs) .none (.ref C_Row)))
    (sc_Row_of_runs : PySem.W.recIn K A_Row_of_runs "staticmethod" = some (.ref f_Row_of_runs :: rest_Row_of_runs))
    (l_Row_of_runs : K.lookup f_Row_of_runs = some ⟨oc_Row_of_runs, od_Row_of_runs, .func (PySem.W.fnOf "of_runs" "Row.of_runs" (defArgs s_Row_of_runs) (defBody s_Row_of_runs) (defScope s_Row_of_runs) .none kV_Row_of_runs dc_Row_of_runs pm_Row_of_runs an_Row_of_runs cd_Row_of_runs ct_Row_of_runs), sl_Row_of_runs⟩)
    (c_Row_of_runs : PySem.W.codeIn K cd_Row_of_runs "Row.of_runs" = true)
    (k_Row_of_runs : PySem.W.keepIn K (.ref f_Row_of_runs) = true)
    (a_Row___eq : PySem.W.findIn K (.ref C_Row) "__eq__" = some (some (.ref f_Row___eq)))
    (l_Row___eq : K.lookup f_Row___eq = some ⟨oc_Row___eq, od_Row___eq, .func (PySem.W.fnOf "__eq__" "Row.__eq__" (defArgs s_Row___eq) (defBody s_Row___eq) (defScope s_Row___eq) .none kV_Row___eq dc_Row___eq pm_Row___eq an_Row___eq cd_Row___eq ct_Row___eq), sl_Row___eq⟩)
    (c_Row___eq : PySem.W.codeIn K cd_Row___eq "Row.__eq__" = true)
    (k_Row___eq : PySem.W.keepIn K (.ref f_Row___eq) = true)
    (i_Row___eq : PySem.W.isFn K (.ref f_Row___eq) = true)
    (pa_Row_size : PySem.W.findIn K (.ref C_Row) "size" = some (some (.ref A_Row_size)))
    (pg_Row_size : PySem.W.specialIn K (.ref A_Row_size) "__get__" = some (some (.builtin "property.__get__")))
    (pt_Row_size : PySem.W.takesIn K (.ref A_Row_size) = some true)
    (pr_Row_size : PySem.W.recIn K A_Row_size "property" = some (.ref f_Row_size :: rest_Row_size))
    (l_Row_size : K.lookup f_Row_size = some ⟨oc_Row_size, od_Row_size, .func (PySem.W.fnOf "size" "Row.size" (defArgs s_Row_size) (defBody s_Row_size) (defScope s_Row_size) .none kV_Row_size dc_Row_size pm_Row_size an_Row_size cd_Row_size ct_Row_size), sl_Row_size⟩)
    (c_Row_size : PySem.W.codeIn K cd_Row_size "Row.size" = true)
    (k_Row_size : PySem.W.keepIn K (.ref f_Row_size) = true)
    (a_Row_cell_at : PySem.W.findIn K (.ref C_Row) "cell_at" = some (some (.ref f_Row_cell_at)))
    (l_Row_cell_at : K.lookup f_Row_cell_at = some ⟨oc_Row_cell_at, od_Row_cell_at, .func (PySem.W.fnOf "cell_at" "Row.cell_at" (defArgs s_Row_cell_at) (defBody s_Row_cell_at) (defScope s_Row_cell_at) .none kV_Row_cell_at dc_Row_cell_at pm_Row_cell_at an_Row_cell_at cd_Row_cell_at ct_Row_cell_at), sl_Row_cell_at⟩)
    (c_Row_cell_at : PySem.W.codeIn K cd_Row_cell_at "Row.cell_at" = true)
    (k_Row_cell_at : PySem.W.keepIn K (.ref f_Row_cell_at) = true)
    (i_Row_cell_at : PySem.W.isFn K (.ref f_Row_cell_at) = true)
    (a_Row_part : PySem.W.findIn K (.ref C_Row) "part" = some (some (.ref f_Row_part)))
    (l_Row_part : K.lookup f_Row_part = some ⟨oc_Row_part, od_Row_part, .func (PySem.W.fnOf "part" "Row.part" (defArgs s_Row_part) (defBody s_Row_part) (defScope s_Row_part) .none kV_Row_part dc_Row_part pm_Row_part an_Row_part cd_Row_part ct_Row_part), sl_Row_part⟩)
    (c_Row_part : PySem.W.codeIn K cd_Row_part "Row.part" = true)
    (k_Row_part : PySem.W.keepIn K (.ref f_Row_part) = true)
    (i_Row_part : PySem.W.isFn K (.ref f_Row_part) = true)
    (a_Row_cells : PySem.W.findIn K (.ref C_Row) "cells" = some (some (.ref f_Row_cells)))
    (l_Row_cells : K.lookup f_Row_cells = some ⟨oc_Row_cells, od_Row_cells, .func (PySem.W.fnOf "cells" "Row.cells" (defArgs s_Row_cells) (defBody s_Row_cells) (defScope s_Row_cells) .none kV_Row_cells dc_Row_cells pm_Row_cells an_Row_cells cd_Row_cells ct_Row_cells), sl_Row_cells⟩)
    (c_Row_cells : PySem.W.codeIn K cd_Row_cells "Row.cells" = true)
    (k_Row_cells : PySem.W.keepIn K (.ref f_Row_cells) = true)
    (i_Row_cells : PySem.W.isFn K (.ref f_Row_cells) = true)
    (a_Row___add : PySem.W.findIn K (.ref C_Row) "__add__" = some (some (.ref f_Row___add)))
    (l_Row___add : K.lookup f_Row___add = some ⟨oc_Row___add, od_Row___add, .func (PySem.W.fnOf "__add__" "Row.__add__" (defArgs s_Row___add) (defBody s_Row___add) (defScope s_Row___add) .none kV_Row___add dc_Row___add pm_Row___add an_Row___add cd_Row___add ct_Row___add), sl_Row___add⟩)
    (c_Row___add : PySem.W.codeIn K cd_Row___add "Row.__add__" = true)
    (k_Row___add : PySem.W.keepIn K (.ref f_Row___add) = true)
    (i_Row___add : PySem.W.isFn K (.ref f_Row___add) = true)
    (a_Row___mul : PySem.W.findIn K (.ref C_Row) "__mul__" = some (some (.ref f_Row___mul)))
    (l_Row___mul : K.lookup f_Row___mul = some ⟨oc_Row___mul, od_Row___mul, .func (PySem.W.fnOf "__mul__" "Row.__mul__" (defArgs s_Row___mul) (defBody s_Row___mul) (defScope s_Row___mul) .none kV_Row___mul dc_Row___mul pm_Row___mul an_Row___mul cd_Row___mul ct_Row___mul), sl_Row___mul⟩)
    (c_Row___mul : PySem.W.codeIn K cd_Row___mul "Row.__mul__" = true)
    (k_Row___mul : PySem.W.keepIn K (.ref f_Row___mul) = true)
    (i_Row___mul : PySem.W.isFn K (.ref f_Row___mul) = true)
    (a_Row___contains : PySem.W.findIn K (.ref C_Row) "__contains__" = some (some (.ref f_Row___contains)))
    (l_Row___contains : K.lookup f_Row___contains = some ⟨oc_Row___contains, od_Row___contains, .func (PySem.W.fnOf "__contains__" "Row.__contains__" (defArgs s_Row___contains) (defBody s_Row___contains) (defScope s_Row___contains) .none kV_Row___contains dc_Row___contains pm_Row___contains an_Row___contains cd_Row___contains ct_Row___contains), sl_Row___contains⟩)
    (c_Row___contains : PySem.W.codeIn K cd_Row___contains "Row.__contains__" = true)
    (k_Row___contains : PySem.W.keepIn K (.ref f_Row___contains) = true)
    (i_Row___contains : PySem.W.isFn K (.ref f_Row___contains) = true)
    (a_joined : PySem.W.nsIn K mainGlobals "_joined" = some (some (.ref f_joined)))
    (l_joined : K.lookup f_joined = some ⟨oc_joined, od_joined, .func (PySem.W.fnOf "_joined" "_joined" (defArgs s_joined) (defBody s_joined) (defScope s_joined) .none kV_joined dc_joined pm_joined an_joined cd_joined ct_joined), sl_joined⟩)
    (c_joined : PySem.W.codeIn K cd_joined "_joined" = true)
    (k_joined : PySem.W.keepIn K (.ref f_joined) = true)
    (a_law_draw : PySem.W.nsIn K mainGlobals "_law_draw" = some (some (.ref f_law_draw)))
    (l_law_draw : K.lookup f_law_draw = some ⟨oc_law_draw, od_law_draw, .func (PySem.W.fnOf "_law_draw" "_law_draw" (defArgs s_law_draw) (defBody s_law_draw) (defScope s_law_draw) .none kV_law_draw dc_law_draw pm_law_draw an_law_draw cd_law_draw ct_law_draw), sl_law_draw⟩)
    (c_law_draw : PySem.W.codeIn K cd_law_draw "_law_draw" = true)
    (k_law_draw : PySem.W.keepIn K (.ref f_law_draw) = true)
    (a_law_pick : PySem.W.nsIn K mainGlobals "_law_pick" = some (some (.ref f_law_pick)))
    (l_law_pick : K.lookup f_law_pick = some ⟨oc_law_pick, od_law_pick, .func (PySem.W.fnOf "_law_pick" "_law_pick" (defArgs s_law_pick) (defBody s_law_pick) (defScope s_law_pick) .none kV_law_pick dc_law_pick pm_law_pick an_law_pick cd_law_pick ct_law_pick), sl_law_pick⟩)
    (c_law_pick : PySem.W.codeIn K cd_law_pick "_law_pick" = true)
    (k_law_pick : PySem.W.keepIn K (.ref f_law_pick) = true)
    (a_law_ten : PySem.W.nsIn K mainGlobals "_law_ten" = some (some (.ref f_law_ten)))
    (l_law_ten : K.lookup f_law_ten = some ⟨oc_law_ten, od_law_ten, .func (PySem.W.fnOf "_law_ten" "_law_ten" (defArgs s_law_ten) (defBody s_law_ten) (defScope s_law_ten) .none kV_law_ten dc_law_ten pm_law_ten an_law_ten cd_law_ten ct_law_ten), sl_law_ten⟩)
    (c_law_ten : PySem.W.codeIn K cd_law_ten "_law_ten" = true)
    (k_law_ten : PySem.W.keepIn K (.ref f_law_ten) = true)
    (a_law_some : PySem.W.nsIn K mainGlobals "_law_some" = some (some (.ref f_law_some)))
    (l_law_some : K.lookup f_law_some = some ⟨oc_law_some, od_law_some, .func (PySem.W.fnOf "_law_some" "_law_some" (defArgs s_law_some) (defBody s_law_some) (defScope s_law_some) .none kV_law_some dc_law_some pm_law_some an_law_some cd_law_some ct_law_some), sl_law_some⟩)
    (c_law_some : PySem.W.codeIn K cd_law_some "_law_some" = true)
    (k_law_some : PySem.W.keepIn K (.ref f_law_some) = true)
    (a_law_merged : PySem.W.nsIn K mainGlobals "_law_merged" = some (some (.ref f_law_merged)))
    (l_law_merged : K.lookup f_law_merged = some ⟨oc_law_merged, od_law_merged, .func (PySem.W.fnOf "_law_merged" "_law_merged" (defArgs s_law_merged) (defBody s_law_merged) (defScope s_law_merged) .none kV_law_merged dc_law_merged pm_law_merged an_law_merged cd_law_merged ct_law_merged), sl_law_merged⟩)
    (c_law_merged : PySem.W.codeIn K cd_law_merged "_law_merged" = true)
    (k_law_merged : PySem.W.keepIn K (.ref f_law_merged) = true)
    (a_law_size : PySem.W.nsIn K mainGlobals "_law_size" = some (some (.ref f_law_size)))
    (l_law_size : K.lookup f_law_size = some ⟨oc_law_size, od_law_size, .func (PySem.W.fnOf "_law_size" "_law_size" (defArgs s_law_size) (defBody s_law_size) (defScope s_law_size) .none kV_law_size dc_law_size pm_law_size an_law_size cd_law_size ct_law_size), sl_law_size⟩)
    (c_law_size : PySem.W.codeIn K cd_law_size "_law_size" = true)
    (k_law_size : PySem.W.keepIn K (.ref f_law_size) = true)
    (a_law_part : PySem.W.nsIn K mainGlobals "_law_part" = some (some (.ref f_law_part)))
    (l_law_part : K.lookup f_law_part = some ⟨oc_law_part, od_law_part, .func (PySem.W.fnOf "_law_part" "_law_part" (defArgs s_law_part) (defBody s_law_part) (defScope s_law_part) .none kV_law_part dc_law_part pm_law_part an_law_part cd_law_part ct_law_part), sl_law_part⟩)
    (c_law_part : PySem.W.codeIn K cd_law_part "_law_part" = true)
    (k_law_part : PySem.W.keepIn K (.ref f_law_part) = true)
    (a_law_fits : PySem.W.nsIn K mainGlobals "_law_fits" = some (some (.ref f_law_fits)))
    (l_law_fits : K.lookup f_law_fits = some ⟨oc_law_fits, od_law_fits, .func (PySem.W.fnOf "_law_fits" "_law_fits" (defArgs s_law_fits) (defBody s_law_fits) (defScope s_law_fits) .none kV_law_fits dc_law_fits pm_law_fits an_law_fits cd_law_fits ct_law_fits), sl_law_fits⟩)
    (c_law_fits : PySem.W.codeIn K cd_law_fits "_law_fits" = true)
    (k_law_fits : PySem.W.keepIn K (.ref f_law_fits) = true)
    (a_law_places : PySem.W.nsIn K mainGlobals "_law_places" = some (some (.ref f_law_places)))
    (l_law_places : K.lookup f_law_places = some ⟨oc_law_places, od_law_places, .func (PySem.W.fnOf "_law_places" "_law_places" (defArgs s_law_places) (defBody s_law_places) (defScope s_law_places) .none kV_law_places dc_law_places pm_law_places an_law_places cd_law_places ct_law_places), sl_law_places⟩)
    (c_law_places : PySem.W.codeIn K cd_law_places "_law_places" = true)
    (k_law_places : PySem.W.keepIn K (.ref f_law_places) = true)
    (a_law_parts_fit : PySem.W.nsIn K mainGlobals "_law_parts_fit" = some (some (.ref f_law_parts_fit)))
    (l_law_parts_fit : K.lookup f_law_parts_fit = some ⟨oc_law_parts_fit, od_law_parts_fit, .func (PySem.W.fnOf "_law_parts_fit" "_law_parts_fit" (defArgs s_law_parts_fit) (defBody s_law_parts_fit) (defScope s_law_parts_fit) .none kV_law_parts_fit dc_law_parts_fit pm_law_parts_fit an_law_parts_fit cd_law_parts_fit ct_law_parts_fit), sl_law_parts_fit⟩)
    (c_law_parts_fit : PySem.W.codeIn K cd_law_parts_fit "_law_parts_fit" = true)
    (k_law_parts_fit : PySem.W.keepIn K (.ref f_law_parts_fit) = true)
    (a_law_short_fits : PySem.W.nsIn K mainGlobals "_law_short_fits" = some (some (.ref f_law_short_fits)))
    (l_law_short_fits : K.lookup f_law_short_fits = some ⟨oc_law_short_fits, od_law_short_fits, .func (PySem.W.fnOf "_law_short_fits" "_law_short_fits" (defArgs s_law_short_fits) (defBody s_law_short_fits) (defScope s_law_short_fits) .none kV_law_short_fits dc_law_short_fits pm_law_short_fits an_law_short_fits cd_law_short_fits ct_law_short_fits), sl_law_short_fits⟩)
    (c_law_short_fits : PySem.W.codeIn K cd_law_short_fits "_law_short_fits" = true)
    (k_law_short_fits : PySem.W.keepIn K (.ref f_law_short_fits) = true)
    (a_law : PySem.W.nsIn K mainGlobals "law" = some (some (.ref f_law)))
    (l_law : K.lookup f_law = some ⟨oc_law, od_law, .func (PySem.W.fnOf "law" "law" (defArgs s_law) (defBody s_law) (defScope s_law) .none kV_law dc_law pm_law an_law cd_law ct_law), sl_law⟩)
    (c_law : PySem.W.codeIn K cd_law "law" = true)
    (k_law : PySem.W.keepIn K (.ref f_law) = true)
    (z_int : PySem.W.nsIn K mainGlobals "int" = some none)
    (z_len : PySem.W.nsIn K mainGlobals "len" = some none)
    (z_max : PySem.W.nsIn K mainGlobals "max" = some none)
    (z_min : PySem.W.nsIn K mainGlobals "min" = some none)
    (z_range : PySem.W.nsIn K mainGlobals "range" = some none)
    (z_list : PySem.W.nsIn K mainGlobals "list" = some none)
    (z_tuple : PySem.W.nsIn K mainGlobals "tuple" = some none)
    (z_isinstance : PySem.W.nsIn K mainGlobals "isinstance" = some none)
    (z_sum : PySem.W.nsIn K mainGlobals "sum" = some none)
    (m_MOST_RUNS : PySem.W.nsIn K mainGlobals "MOST_RUNS" = some (some (.int 1000 t_MOST_RUNS)))
    (m_MOST_CELLS : PySem.W.nsIn K mainGlobals "MOST_CELLS" = some (some (.int 1000 t_MOST_CELLS)))
    (kit_int_int : PySem.W.kitOne K (.type "int") (.type "int") = some true)
    (kit_int_str : PySem.W.kitOne K (.type "int") (.type "str") = some false)
    (kit_NoneType_int : PySem.W.kitOne K (.type "NoneType") (.type "int") = some false)
    (kit_list_list : PySem.W.kitOne K (.type "list") (.type "list") = some true)
    (kit_Row_Row : PySem.W.kitOne K (.ref C_Row) (.ref C_Row) = some true)
    (kit_list_Row : PySem.W.kitOne K (.type "list") (.ref C_Row) = some false)
    (kit_tuple_Row : PySem.W.kitOne K (.type "tuple") (.ref C_Row) = some false)
    (kit_Told_Told : PySem.W.kitOne K (.type "Told") (.type "Told") = some true)
    (kit_tuple_Told : PySem.W.kitOne K (.type "tuple") (.type "Told") = some false)
    (kit_tuple_tuple : PySem.W.kitOne K (.type "tuple") (.type "tuple") = some true)
    (rm_Row : PySem.W.findIn K (.ref C_Row) "__rmul__" = some none)
    (sf_Row : PySem.W.selfFirst K C_Row = true)
    (nt_Row : PySem.W.notFirst K C_Row (.type "tuple") = true)
    : ∃ fd : FuncData, (∀ (s : Shared) (v : Value), BindsTo s fd ⟨[v], []⟩ [("_law_script", v)]) ∧ ∀ base : Heap, K.In base → base.Ns mainGlobals mg → FnOk l.prog w K mg base CX0 9 fa fd ["_law_script"] (spLaw K) := by
  have e := hfa.symm.trans (PySem.W.mg_of X G a_law)
  cases e
  have FR_Row___init : FunD K "__init__" "Row.__init__" (defArgs s_Row___init) (defBody s_Row___init) (defScope s_Row___init) [.ref A_eRow___init] [] f_Row___init _ := ⟨⟨_, _, _, _, _, _, _, _, _, _, rfl, l_Row___init, c_Row___init, .inr ⟨by simp, A_dRow___init, _, [.ref A_eRow___init], _, rfl, u_dRow___init, rfl, .cons rfl .nil⟩, .inl rfl⟩, k_Row___init⟩
  obtain ⟨ds0_Row___init, vR0_Row___init, bR0_Row___init⟩ := FR_Row___init.binds1 (ps := ["self", "cells"]) 2 1 (by simp) rfl (fun _ _ _ _ _ _ _ us its h1 h2 => match us, h1, its, h2 with | [_, _], _, [_], _ => ⟨_, rfl, rfl⟩)
  have e0_Row___init : ds0_Row___init = [] := by cases vR0_Row___init; rfl
  subst e0_Row___init
  obtain ⟨ds1_Row___init, vR1_Row___init, bR1_Row___init⟩ := FR_Row___init.binds1 (ps := ["self", "cells"]) 1 0 (by simp) rfl (fun _ _ _ _ _ _ _ us its h1 h2 => match us, h1, its, h2 with | [_], _, [_], _ => ⟨_, rfl, rfl⟩)
  obtain ⟨u1_Row___init, e1_Row___init, r1_Row___init⟩ := Da.vals_one vR1_Row___init
  subst e1_Row___init
  let T : Tx w K mg := {
    f_joined := f_joined,
    d_joined := _,
    F_joined := fun_mk (st := s_joined) l_joined c_joined k_joined,
    b_joined := (fun_mk (st := s_joined) l_joined c_joined k_joined).binds (ps := ["pairs"]) fun _ _ _ _ _ _ us hl => match us, hl with | [_], _ => rfl,
    m_joined := PySem.W.mg_of X G a_joined,
    f_law_draw := f_law_draw,
    d_law_draw := _,
    F_law_draw := fun_mk (st := s_law_draw) l_law_draw c_law_draw k_law_draw,
    b_law_draw := (fun_mk (st := s_law_draw) l_law_draw c_law_draw k_law_draw).binds (ps := ["_law_pen", "_law_many"]) fun _ _ _ _ _ _ us hl => match us, hl with | [_, _], _ => rfl,
    m_law_draw := PySem.W.mg_of X G a_law_draw,
    f_law_pick := f_law_pick,
    d_law_pick := _,
    F_law_pick := fun_mk (st := s_law_pick) l_law_pick c_law_pick k_law_pick,
    b_law_pick := (fun_mk (st := s_law_pick) l_law_pick c_law_pick k_law_pick).binds (ps := ["_law_pen", "_law_row"]) fun _ _ _ _ _ _ us hl => match us, hl with | [_, _], _ => rfl,
    m_law_pick := PySem.W.mg_of X G a_law_pick,
    f_law_ten := f_law_ten,
    d_law_ten := _,
    F_law_ten := fun_mk (st := s_law_ten) l_law_ten c_law_ten k_law_ten,
    b_law_ten := (fun_mk (st := s_law_ten) l_law_ten c_law_ten k_law_ten).binds (ps := ["_law_pen"]) fun _ _ _ _ _ _ us hl => match us, hl with | [_], _ => rfl,
    m_law_ten := PySem.W.mg_of X G a_law_ten,
    f_law_some := f_law_some,
    d_law_some := _,
    F_law_some := fun_mk (st := s_law_some) l_law_some c_law_some k_law_some,
    b_law_some := (fun_mk (st := s_law_some) l_law_some c_law_some k_law_some).binds (ps := ["_law_pen", "_law_many"]) fun _ _ _ _ _ _ us hl => match us, hl with | [_, _], _ => rfl,
    m_law_some := PySem.W.mg_of X G a_law_some,
    f_law_merged := f_law_merged,
    d_law_merged := _,
    F_law_merged := fun_mk (st := s_law_merged) l_law_merged c_law_merged k_law_merged,
    b_law_merged := (fun_mk (st := s_law_merged) l_law_merged c_law_merged k_law_merged).binds (ps := ["_law_runs"]) fun _ _ _ _ _ _ us hl => match us, hl with | [_], _ => rfl,
    m_law_merged := PySem.W.mg_of X G a_law_merged,
    f_law_size := f_law_size,
    d_law_size := _,
    F_law_size := fun_mk (st := s_law_size) l_law_size c_law_size k_law_size,
    b_law_size := (fun_mk (st := s_law_size) l_law_size c_law_size k_law_size).binds (ps := ["_law_runs"]) fun _ _ _ _ _ _ us hl => match us, hl with | [_], _ => rfl,
    m_law_size := PySem.W.mg_of X G a_law_size,
    f_law_part := f_law_part,
    d_law_part := _,
    F_law_part := fun_mk (st := s_law_part) l_law_part c_law_part k_law_part,
    b_law_part := (fun_mk (st := s_law_part) l_law_part c_law_part k_law_part).binds (ps := ["_law_runs", "_law_start", "_law_stop"]) fun _ _ _ _ _ _ us hl => match us, hl with | [_, _, _], _ => rfl,
    m_law_part := PySem.W.mg_of X G a_law_part,
    f_law_fits := f_law_fits,
    d_law_fits := _,
    F_law_fits := fun_mk (st := s_law_fits) l_law_fits c_law_fits k_law_fits,
    b_law_fits := (fun_mk (st := s_law_fits) l_law_fits c_law_fits k_law_fits).binds (ps := ["_law_row", "_law_runs"]) fun _ _ _ _ _ _ us hl => match us, hl with | [_, _], _ => rfl,
    m_law_fits := PySem.W.mg_of X G a_law_fits,
    f_law_places := f_law_places,
    d_law_places := _,
    F_law_places := fun_mk (st := s_law_places) l_law_places c_law_places k_law_places,
    b_law_places := (fun_mk (st := s_law_places) l_law_places c_law_places k_law_places).binds (ps := ["_law_runs"]) fun _ _ _ _ _ _ us hl => match us, hl with | [_], _ => rfl,
    m_law_places := PySem.W.mg_of X G a_law_places,
    f_law_parts_fit := f_law_parts_fit,
    d_law_parts_fit := _,
    F_law_parts_fit := fun_mk (st := s_law_parts_fit) l_law_parts_fit c_law_parts_fit k_law_parts_fit,
    b_law_parts_fit := (fun_mk (st := s_law_parts_fit) l_law_parts_fit c_law_parts_fit k_law_parts_fit).binds (ps := ["_law_pen", "_law_row", "_law_runs"]) fun _ _ _ _ _ _ us hl => match us, hl with | [_, _, _], _ => rfl,
    m_law_parts_fit := PySem.W.mg_of X G a_law_parts_fit,
    f_law_short_fits := f_law_short_fits,
    d_law_short_fits := _,
    F_law_short_fits := fun_mk (st := s_law_short_fits) l_law_short_fits c_law_short_fits k_law_short_fits,
    b_law_short_fits := (fun_mk (st := s_law_short_fits) l_law_short_fits c_law_short_fits k_law_short_fits).binds (ps := ["_law_runs"]) fun _ _ _ _ _ _ us hl => match us, hl with | [_], _ => rfl,
    m_law_short_fits := PySem.W.mg_of X G a_law_short_fits,
    z_int := PySem.W.mg_none_of X G z_int,
    z_len := PySem.W.mg_none_of X G z_len,
    z_max := PySem.W.mg_none_of X G z_max,
    z_min := PySem.W.mg_none_of X G z_min,
    z_range := PySem.W.mg_none_of X G z_range,
    z_list := PySem.W.mg_none_of X G z_list,
    z_tuple := PySem.W.mg_none_of X G z_tuple,
    z_isinstance := PySem.W.mg_none_of X G z_isinstance,
    z_sum := PySem.W.mg_none_of X G z_sum,
    t_MOST_RUNS := t_MOST_RUNS,
    m_MOST_RUNS := PySem.W.mg_of X G m_MOST_RUNS,
    t_MOST_CELLS := t_MOST_CELLS,
    m_MOST_CELLS := PySem.W.mg_of X G m_MOST_CELLS,
    c_Row := C_Row,
    m_Row := PySem.W.mg_of X G g_Row,
    cl_Row := ⟨pg_Row, hd_Row, po_Row, sa_Row⟩,
    ob_Row := ⟨fun h => .base (.ins h ⟨pg_Row, hd_Row, po_Row, sa_Row⟩ ca_Row sp tk mo_Row)⟩,
    n_Row_runs := n_Row_runs,
    f_Row___init := f_Row___init,
    d_Row___init := _,
    dd_Row___init := .ref A_eRow___init,
    F_Row___init := FR_Row___init,
    b_Row___init := bR0_Row___init,
    du_Row___init := u1_Row___init,
    bd_Row___init := bR1_Row___init,
    vd_Row___init := .cons r1_Row___init .nil,
    df_Row___init := fun H => .tup (.inr ⟨_, _, _, u_eRow___init, rfl, rfl, (by show 0 ≤ sizeLine; decide), .nil⟩) .nil (by show 0 ≤ sizeLine; decide),
    mk_Row := ⟨mk_Row, a_Row___init, i_Row___init, kc_Row⟩,
    f_Row_of_runs := f_Row_of_runs,
    d_Row_of_runs := _,
    F_Row_of_runs := fun_mk (st := s_Row_of_runs) l_Row_of_runs c_Row_of_runs k_Row_of_runs,
    b_Row_of_runs := (fun_mk (st := s_Row_of_runs) l_Row_of_runs c_Row_of_runs k_Row_of_runs).binds (ps := ["runs"]) fun _ _ _ _ _ _ us hl => match us, hl with | [_], _ => rfl,
    sc_Row_of_runs := .type "type",
    p_Row_of_runs := A_Row_of_runs,
    h_Row_of_runs := ⟨sr_Row_of_runs, sg_Row_of_runs, sb_Row_of_runs, ⟨_, sc_Row_of_runs⟩, k_Row_of_runs⟩,
    f_Row___eq := f_Row___eq,
    d_Row___eq := _,
    F_Row___eq := fun_mk (st := s_Row___eq) l_Row___eq c_Row___eq k_Row___eq,
    b_Row___eq := (fun_mk (st := s_Row___eq) l_Row___eq c_Row___eq k_Row___eq).binds (ps := ["self", "other"]) fun _ _ _ _ _ _ us hl => match us, hl with | [_, _], _ => rfl,
    hs_Row___eq := a_Row___eq,
    hf_Row___eq := i_Row___eq,
    f_Row_size := f_Row_size,
    d_Row_size := _,
    F_Row_size := fun_mk (st := s_Row_size) l_Row_size c_Row_size k_Row_size,
    b_Row_size := (fun_mk (st := s_Row_size) l_Row_size c_Row_size k_Row_size).binds (ps := ["self"]) fun _ _ _ _ _ _ us hl => match us, hl with | [_], _ => rfl,
    p_Row_size := A_Row_size,
    h_Row_size := ⟨pa_Row_size, pg_Row_size, pt_Row_size, ⟨_, pr_Row_size⟩⟩,
    f_Row_cell_at := f_Row_cell_at,
    d_Row_cell_at := _,
    F_Row_cell_at := fun_mk (st := s_Row_cell_at) l_Row_cell_at c_Row_cell_at k_Row_cell_at,
    b_Row_cell_at := (fun_mk (st := s_Row_cell_at) l_Row_cell_at c_Row_cell_at k_Row_cell_at).binds (ps := ["self", "place"]) fun _ _ _ _ _ _ us hl => match us, hl with | [_, _], _ => rfl,
    h_Row_cell_at := ⟨a_Row_cell_at, i_Row_cell_at, k_Row_cell_at⟩,
    f_Row_part := f_Row_part,
    d_Row_part := _,
    F_Row_part := fun_mk (st := s_Row_part) l_Row_part c_Row_part k_Row_part,
    b_Row_part := (fun_mk (st := s_Row_part) l_Row_part c_Row_part k_Row_part).binds (ps := ["self", "start", "stop"]) fun _ _ _ _ _ _ us hl => match us, hl with | [_, _, _], _ => rfl,
    h_Row_part := ⟨a_Row_part, i_Row_part, k_Row_part⟩,
    f_Row_cells := f_Row_cells,
    d_Row_cells := _,
    F_Row_cells := fun_mk (st := s_Row_cells) l_Row_cells c_Row_cells k_Row_cells,
    b_Row_cells := (fun_mk (st := s_Row_cells) l_Row_cells c_Row_cells k_Row_cells).binds (ps := ["self"]) fun _ _ _ _ _ _ us hl => match us, hl with | [_], _ => rfl,
    h_Row_cells := ⟨a_Row_cells, i_Row_cells, k_Row_cells⟩,
    f_Row___add := f_Row___add,
    d_Row___add := _,
    F_Row___add := fun_mk (st := s_Row___add) l_Row___add c_Row___add k_Row___add,
    b_Row___add := (fun_mk (st := s_Row___add) l_Row___add c_Row___add k_Row___add).binds (ps := ["self", "other"]) fun _ _ _ _ _ _ us hl => match us, hl with | [_, _], _ => rfl,
    hs_Row___add := a_Row___add,
    hf_Row___add := i_Row___add,
    f_Row___mul := f_Row___mul,
    d_Row___mul := _,
    F_Row___mul := fun_mk (st := s_Row___mul) l_Row___mul c_Row___mul k_Row___mul,
    b_Row___mul := (fun_mk (st := s_Row___mul) l_Row___mul c_Row___mul k_Row___mul).binds (ps := ["self", "times"]) fun _ _ _ _ _ _ us hl => match us, hl with | [_, _], _ => rfl,
    hs_Row___mul := a_Row___mul,
    hf_Row___mul := i_Row___mul,
    f_Row___contains := f_Row___contains,
    d_Row___contains := _,
    F_Row___contains := fun_mk (st := s_Row___contains) l_Row___contains c_Row___contains k_Row___contains,
    b_Row___contains := (fun_mk (st := s_Row___contains) l_Row___contains c_Row___contains k_Row___contains).binds (ps := ["self", "x"]) fun _ _ _ _ _ _ us hl => match us, hl with | [_, _], _ => rfl,
    hs_Row___contains := a_Row___contains,
    hf_Row___contains := i_Row___contains,
    kit_int_int := kit_int_int,
    kit_int_str := kit_int_str,
    kit_NoneType_int := kit_NoneType_int,
    kit_list_list := kit_list_list,
    kit_Row_Row := kit_Row_Row,
    kit_list_Row := kit_list_Row,
    kit_tuple_Row := kit_tuple_Row,
    kit_Told_Told := kit_Told_Told,
    kit_tuple_Told := kit_tuple_Told,
    kit_tuple_tuple := kit_tuple_tuple,
    rm_Row := rm_Row,
    sf_Row := sf_Row,
    nt_Row := nt_Row }
  exact ⟨PySem.W.fnOf "law" "law" (defArgs s_law) (defBody s_law) (defScope s_law) .none kV_law dc_law pm_law an_law cd_law ct_law, fun s v => .of_eq rfl, fun base _ _ => ok_law T (fun_mk (st := s_law) l_law c_law k_law)⟩
theorem walk {l : PySem.W.OpenLaw} {q : Program} {loose : List Str} {XP : (Str → Option Value) → Heap → Prop} {YP : World → Heap → Prop} {d : DefRec} {K : Params → PySem.W.Frag} (hn : l.most = some 63) (hdf : d.params.defaults = [])
    (hY : ∀ (w : World) (h : Heap), YP w h → (K w.params).In h)
    (F : ∀ (w : World) (mg : Str → Option Value) (fa : Addr) (h : Heap), (K w.params).In h → h.Ns mainGlobals mg → mg d.name = some (.ref fa) →
      ∃ fd : FuncData, (∀ (s : Shared) (u : Value), BindsTo s fd ⟨[u], []⟩ [("_law_script", u)]) ∧ ∀ base : Heap, (K w.params).In base → base.Ns mainGlobals mg → FnOk l.prog w (K w.params) mg base CX0 9 fa fd ["_law_script"] (spLaw (K w.params))) :
    PySem.W.WalkO q loose XP YP l.row.toRowW d [] (fun f vs => PySem.call f vs) :=
  L2.walk_of (n := 63) (k := 9) (x := "_law_script") (CX := fun _ => CX0) (sp := fun w => spLaw (K w.params)) hn (by decide) hdf ⟨rfl, by decide, by decide⟩ hY F (fun _ _ a ns hl _ hS => ⟨a, ns, rfl, hS, hl, fun _ => rfl⟩) fun _ _ _ _ _ z => z
end Lw

open PySem PySem.W PyProof.Rows in
set_option maxRecDepth 100000 in
set_option maxHeartbeats 0 in
theorem PySem.Challenge.cw_splitalike_k07_whole_rows_by_runs_holds : PySem.Challenge.rw_splitalike_k07_whole_rows_by_runs.Holds := by
  w_on; o_law; k_head; (case hw => w_witness2)
  k_fill
  refine Lw.walk (l := PySem.Challenge.rw_splitalike_k07_whole_rows_by_runs) rfl rfl (fun w h Y => PySem.W.kIn_of Y) ?F
  case F =>
    intro w mg fa h KX G hmg
    refine' Lw.all_mk KX G hmg ?sp ?tk ?g_Row ?pg_Row ?hd_Row ?po_Row ?sa_Row ?mk_Row ?kc_Row ?ca_Row ?mo_Row ?n_Row_runs ?a_Row___init ?l_Row___init ?c_Row___init ?k_Row___init ?i_Row___init ?u_dRow___init ?u_eRow___init ?sr_Row_of_runs ?sg_Row_of_runs ?sb_Row_of_runs ?sc_Row_of_runs ?l_Row_of_runs ?c_Row_of_runs ?k_Row_of_runs ?a_Row___eq ?l_Row___eq ?c_Row___eq ?k_Row___eq ?i_Row___eq ?pa_Row_size ?pg_Row_size ?pt_Row_size ?pr_Row_size ?l_Row_size ?c_Row_size ?k_Row_size ?a_Row_cell_at ?l_Row_cell_at ?c_Row_cell_at ?k_Row_cell_at ?i_Row_cell_at ?a_Row_part ?l_Row_part ?c_Row_part ?k_Row_part ?i_Row_part ?a_Row_cells ?l_Row_cells ?c_Row_cells ?k_Row_cells ?i_Row_cells ?a_Row___add ?l_Row___add ?c_Row___add ?k_Row___add ?i_Row___add ?a_Row___mul ?l_Row___mul ?c_Row___mul ?k_Row___mul ?i_Row___mul ?a_Row___contains ?l_Row___contains ?c_Row___contains ?k_Row___contains ?i_Row___contains ?a_joined ?l_joined ?c_joined ?k_joined ?a_law_draw ?l_law_draw ?c_law_draw ?k_law_draw ?a_law_pick ?l_law_pick ?c_law_pick ?k_law_pick ?a_law_ten ?l_law_ten ?c_law_ten ?k_law_ten ?a_law_some ?l_law_some ?c_law_some ?k_law_some ?a_law_merged ?l_law_merged ?c_law_merged ?k_law_merged ?a_law_size ?l_law_size ?c_law_size ?k_law_size ?a_law_part ?l_law_part ?c_law_part ?k_law_part ?a_law_fits ?l_law_fits ?c_law_fits ?k_law_fits ?a_law_places ?l_law_places ?c_law_places ?k_law_places ?a_law_parts_fit ?l_law_parts_fit ?c_law_parts_fit ?k_law_parts_fit ?a_law_short_fits ?l_law_short_fits ?c_law_short_fits ?k_law_short_fits ?a_law ?l_law ?c_law ?k_law ?z_int ?z_len ?z_max ?z_min ?z_range ?z_list ?z_tuple ?z_isinstance ?z_sum ?m_MOST_RUNS ?m_MOST_CELLS ?kit_int_int ?kit_int_str ?kit_NoneType_int ?kit_list_list ?kit_Row_Row ?kit_list_Row ?kit_tuple_Row ?kit_Told_Told ?kit_tuple_Told ?kit_tuple_tuple ?rm_Row ?sf_Row ?nt_Row
    (case sp => k_is)
    (case tk => k_is)
    (case g_Row => k_is)
    (case pg_Row => k_is)
    (case hd_Row => k_is)
    (case po_Row => k_is)
    (case sa_Row => k_is)
    (case mk_Row => k_is)
    (case kc_Row => k_is)
    (case ca_Row => k_is)
    (case mo_Row => k_is)
    (case n_Row_runs => k_is)
    (case a_Row___init => k_is)
    (case l_Row___init => k_is)
    (case c_Row___init => k_is)
    (case k_Row___init => k_is)
    (case i_Row___init => k_is)
    (case u_dRow___init => k_is)
    (case u_eRow___init => k_is)
    (case sr_Row_of_runs => k_is)
    (case sg_Row_of_runs => k_is)
    (case sb_Row_of_runs => k_is)
    (case sc_Row_of_runs => k_is)
    (case l_Row_of_runs => k_is)
    (case c_Row_of_runs => k_is)
    (case k_Row_of_runs => k_is)
    (case a_Row___eq => k_is)
    (case l_Row___eq => k_is)
    (case c_Row___eq => k_is)
    (case k_Row___eq => k_is)
    (case i_Row___eq => k_is)
    (case pa_Row_size => k_is)
    (case pg_Row_size => k_is)
    (case pt_Row_size => k_is)
    (case pr_Row_size => k_is)
    (case l_Row_size => k_is)
    (case c_Row_size => k_is)
    (case k_Row_size => k_is)
    (case a_Row_cell_at => k_is)
    (case l_Row_cell_at => k_is)
    (case c_Row_cell_at => k_is)
    (case k_Row_cell_at => k_is)
    (case i_Row_cell_at => k_is)
    (case a_Row_part => k_is)
    (case l_Row_part => k_is)
    (case c_Row_part => k_is)
    (case k_Row_part => k_is)
    (case i_Row_part => k_is)
    (case a_Row_cells => k_is)
    (case l_Row_cells => k_is)
    (case c_Row_cells => k_is)
    (case k_Row_cells => k_is)
    (case i_Row_cells => k_is)
    (case a_Row___add => k_is)
    (case l_Row___add => k_is)
    (case c_Row___add => k_is)
    (case k_Row___add => k_is)
    (case i_Row___add => k_is)
    (case a_Row___mul => k_is)
    (case l_Row___mul => k_is)
    (case c_Row___mul => k_is)
    (case k_Row___mul => k_is)
    (case i_Row___mul => k_is)
    (case a_Row___contains => k_is)
    (case l_Row___contains => k_is)
    (case c_Row___contains => k_is)
    (case k_Row___contains => k_is)
    (case i_Row___contains => k_is)
    (case a_joined => k_is)
    (case l_joined => k_is)
    (case c_joined => k_is)
    (case k_joined => k_is)
    (case a_law_draw => k_is)
    (case l_law_draw => k_is)
    (case c_law_draw => k_is)
    (case k_law_draw => k_is)
    (case a_law_pick => k_is)
    (case l_law_pick => k_is)
    (case c_law_pick => k_is)
    (case k_law_pick => k_is)
    (case a_law_ten => k_is)
    (case l_law_ten => k_is)
    (case c_law_ten => k_is)
    (case k_law_ten => k_is)
    (case a_law_some => k_is)
    (case l_law_some => k_is)
    (case c_law_some => k_is)
    (case k_law_some => k_is)
    (case a_law_merged => k_is)
    (case l_law_merged => k_is)
    (case c_law_merged => k_is)
    (case k_law_merged => k_is)
    (case a_law_size => k_is)
    (case l_law_size => k_is)
    (case c_law_size => k_is)
    (case k_law_size => k_is)
    (case a_law_part => k_is)
    (case l_law_part => k_is)
    (case c_law_part => k_is)
    (case k_law_part => k_is)
    (case a_law_fits => k_is)
    (case l_law_fits => k_is)
    (case c_law_fits => k_is)
    (case k_law_fits => k_is)
    (case a_law_places => k_is)
    (case l_law_places => k_is)
    (case c_law_places => k_is)
    (case k_law_places => k_is)
    (case a_law_parts_fit => k_is)
    (case l_law_parts_fit => k_is)
    (case c_law_parts_fit => k_is)
    (case k_law_parts_fit => k_is)
    (case a_law_short_fits => k_is)
    (case l_law_short_fits => k_is)
    (case c_law_short_fits => k_is)
    (case k_law_short_fits => k_is)
    (case a_law => k_is)
    (case l_law => k_is)
    (case c_law => k_is)
    (case k_law => k_is)
    (case z_int => k_is)
    (case z_len => k_is)
    (case z_max => k_is)
    (case z_min => k_is)
    (case z_range => k_is)
    (case z_list => k_is)
    (case z_tuple => k_is)
    (case z_isinstance => k_is)
    (case z_sum => k_is)
    (case m_MOST_RUNS => k_is)
    (case m_MOST_CELLS => k_is)
    (case kit_int_int => exact of_decide_eq_true (by kernel_rfl))
    (case kit_int_str => exact of_decide_eq_true (by kernel_rfl))
    (case kit_NoneType_int => exact of_decide_eq_true (by kernel_rfl))
    (case kit_list_list => exact of_decide_eq_true (by kernel_rfl))
    (case kit_Row_Row => exact of_decide_eq_true (by kernel_rfl))
    (case kit_list_Row => exact of_decide_eq_true (by kernel_rfl))
    (case kit_tuple_Row => exact of_decide_eq_true (by kernel_rfl))
    (case kit_Told_Told => exact of_decide_eq_true (by kernel_rfl))
    (case kit_tuple_Told => exact of_decide_eq_true (by kernel_rfl))
    (case kit_tuple_tuple => exact of_decide_eq_true (by kernel_rfl))
    (case rm_Row => exact of_decide_eq_true (by kernel_rfl))
    (case sf_Row => exact of_decide_eq_true (by kernel_rfl))
    (case nt_Row => exact of_decide_eq_true (by kernel_rfl))
#print axioms PySem.Challenge.cw_splitalike_k07_whole_rows_by_runs_holds

