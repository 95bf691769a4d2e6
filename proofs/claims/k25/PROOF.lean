import PyProof.Rows.All
import Wide.All
import OpenK.AllK
import Wide.FinOn
import HandS.ForMost
import HandS.Evl
import PyProof.StrOps2
import HandS.Conv
import HandS.More
import HandS.DictComp
import KE.KStar
import HandS.Small
import KE.KeyNested
import HandS.Walk
import HandS.Wide
import HandS.TupAny
import HandS.TupMul
import HandS.Deep
import HandS.IsInst
import HandS.Flow
import KE.GoesEnum
import HandS.Defaults
import HandS.Property
import HandS.ClsMeth
import HandS.Zip
import HandS.MapJoin
import HandS.OwnEq
import HandS.Exc
import HandS.ExcOwn
import HandS.ExcInit
import HandS.ExcField
import HandS.ExcValue
import HandS.ExcIs
import KE.KExcIs
import HandS.WordsExc
import HandS.HeadHook3
import PySem.Challenge.RW_splitalike_k25_whole_rows_rich_in_cuts
set_option Elab.async false
set_option linter.all false
set_option maxRecDepth 100000
/-! Readings, one step at a time: what a reading asks, by its head. -/
namespace Rd
open PySem L2
section
variable {K : PySem.W.Frag} {σ : L2.St} {H : Hp} {ta tb tc te : TE} {t u : TT} {x y z v : V} {r r' : R2} {D : Ends} {s s1 s2 : TS} {Q : VK} {QB : Bool → Hp → Prop} {QA : List V → Hp → Prop} {QS : L2.St → Hp → Prop} {g : TG} {A A' : TA}
theorem i_var {i : Nat} (h : σ[i]? = some (some v)) (q : Q v H) : tVar i σ H Q := ⟨v, h, q⟩
theorem i_c (q : Q v H) : tC v σ H Q := q
theorem i_op (q : ta σ H fun x H1 => tb σ H1 fun y H2 => r x y H2 Q) : tOp r ta tb σ H Q := q
theorem i_un {r : V → Hp → VK → Prop} (q : ta σ H fun x H1 => r x H1 Q) : tUn r ta σ H Q := q
theorem i_rI0 {g : Int → Int → V} {i j : Int} (q : Q (g i j) H) : rI0 g (.int i) (.int j) H Q := ⟨i, j, rfl, rfl, q⟩
theorem i_rI {C : Int → Int → Prop} {g : Int → Int → V} {i j : Int} (c : C i j) (q : Q (g i j) H) : rI C g (.int i) (.int j) H Q := ⟨i, j, rfl, rfl, c, q⟩
theorem i_rEq (s : scal x y = true) (q : Q (.bl (decide (x = y))) H) : rEq x y H Q := ⟨s, q⟩
theorem i_rNe (s : scal x y = true) (q : Q (.bl (!decide (x = y))) H) : rNe x y H Q := ⟨s, q⟩
theorem i_test (q : ta σ H fun x H' => ∃ k, x = .bl k ∧ QB k H') : tTest ta σ H QB := q
theorem i_tB (q : ta σ H fun x H' => ∃ k, x = .bl k ∧ QB k H') : tB ta σ H QB := q
theorem i_bl {b : Bool} {R : Bool → Prop} (q : R b) : ∃ k, V.bl b = V.bl k ∧ R k := ⟨b, rfl, q⟩
theorem i_and (q : t σ H fun c H1 => if c = true then u σ H1 QB else QB false H1) : tAnd t u σ H QB := q
theorem i_or (q : t σ H fun c H1 => if c = true then QB true H1 else u σ H1 QB) : tOr t u σ H QB := q
theorem i_not (q : t σ H fun c H1 => QB (!c) H1) : tNot t σ H QB := q
theorem i_notV (q : ta σ H fun x H1 => ∃ c, x = .bl c ∧ Q (.bl (!c)) H1) : tNotV ta σ H Q := q
theorem i_andV (q : ta σ H fun x H1 => ∃ c, x = .bl c ∧ if c = true then tb σ H1 Q else Q (.bl false) H1) : tAndV ta tb σ H Q := q
theorem i_orV (q : ta σ H fun x H1 => ∃ c, x = .bl c ∧ if c = true then Q (.bl true) H1 else tb σ H1 Q) : tOrV ta tb σ H Q := q
theorem i_if (q : t σ H fun c H1 => if c = true then ta σ H1 Q else tb σ H1 Q) : tIf t ta tb σ H Q := q
theorem i_chain (q : ta σ H fun x H1 => tb σ H1 fun y H2 => r x y H2 fun z H3 => ∃ k, z = .bl k ∧ (if k = true then tc σ H3 fun w' H4 => r' y w' H4 Q else Q (.bl false) H3)) : tChain r r' ta tb tc σ H Q := q
theorem i_call {sp : Sp} {dvs : List V} {E : XK} (q : A σ H fun vs H1 => sp (vs ++ dvs) H1 Q E) : tCall sp dvs E A σ H Q := q
theorem i_nil (q : QA [] H) : tNil σ H QA := q
theorem i_cons (q : ta σ H fun x H1 => A σ H1 fun xs H2 => QA (x :: xs) H2) : tCons ta A σ H QA := q
theorem i_cb {r : List V → Hp → VK → Prop} (q : A σ H fun vs H1 => r vs H1 Q) : tCB r A σ H Q := q
theorem i_bm {T : String} {r : V → List V → Hp → VK → Prop} (q : ta σ H fun x H1 => tyV K T x H1 ∧ A σ H1 fun xs H2 => r x xs H2 Q) : tBM K T r ta A σ H Q := q
theorem i_bm0 {T : String} {r : V → List V → Hp → VK → Prop} (q : ta σ H fun x H1 => tyV K T x H1 ∧ r x [] H1 Q) : tBM0 K T r ta σ H Q := q
theorem i_tup (q : A σ H fun xs H1 => xs.length ≤ sizeLine ∧ ∀ p, H1 p = none → Q (.ref p) (upd H1 p (.tup xs))) : tTup A σ H Q := q
theorem i_lst (q : A σ H fun xs H1 => xs.length ≤ sizeLine ∧ ∀ p, H1 p = none → Q (.ref p) (upd H1 p (.lst xs))) : tLst A σ H Q := q
theorem i_seq (q : s1 { D with nx := s2 D } σ H) : tSeq s1 s2 D σ H := q
theorem i_asg (q : te σ H fun x H1 => g x σ H1 D.nx) : tAsg te g D σ H := q
theorem i_name {i : Nat} (q : QS (σ.set i (some v)) H) : gName i v σ H QS := q
theorem i_sub {ts : TSet} (q : ta σ H fun o H1 => tb σ H1 fun i H2 => ts o i v H2 fun H3 => QS σ H3) : gSub ta tb ts v σ H QS := q
theorem i_ret (q : te σ H D.rt) : tRet te D σ H := q
theorem i_drop (q : te σ H fun _ H1 => D.nx σ H1) : tDrop te D σ H := q
theorem i_ifS (q : t σ H fun b H1 => if b = true then s1 D σ H1 else s2 D σ H1) : tIfS t s1 s2 D σ H := q
theorem i_next (q : D.nx σ H) : tNext D σ H := q
theorem i_nx {f b c : L2.St → Hp → Prop} {r : VK} (q : f σ H) : Ends.nx ⟨f, r, b, c⟩ σ H := q
theorem i_rt {f b c : L2.St → Hp → Prop} {r : VK} (q : r v H) : Ends.rt ⟨f, r, b, c⟩ v H := q
theorem i_bk {f b c : L2.St → Hp → Prop} {r : VK} (q : b σ H) : Ends.bk ⟨f, r, b, c⟩ σ H := q
theorem i_ct {f b c : L2.St → Hp → Prop} {r : VK} (q : c σ H) : Ends.ct ⟨f, r, b, c⟩ σ H := q
theorem i_ixL {p : Addr} {xs : List V} {i : Int} (h : SqL K H p xs) (e : atI xs i = some v) (q : Q v H) : rIxL K (.ref p) (.int i) H Q := ⟨p, xs, i, v, rfl, rfl, h, e, q⟩
theorem i_ixT {p : Addr} {xs : List V} {i : Int} (h : SqT K H p xs) (e : atI xs i = some v) (q : Q v H) : rIxT K (.ref p) (.int i) H Q := ⟨p, xs, i, v, rfl, rfl, h, e, q⟩
theorem i_ixS {z : Str} {i : Int} {c : Nat} (h : z.length ≤ sizeLine) (e : atI z.cps.toList i = some c) (q : Q (.str ⟨#[c]⟩) H) : rIxS (.str z) (.int i) H Q := ⟨z, i, c, rfl, rfl, h, e, q⟩
theorem i_setL {p : Addr} {xs : List V} {k : Int} {j : Nat} {QH : Hp → Prop} (h : H p = some (.lst xs)) (e : ixN xs.length k = some j) (q : QH (upd H p (.lst (xs.set j v)))) : rSetL (.ref p) (.int k) v H QH := ⟨p, xs, k, j, rfl, rfl, h, e, q⟩
theorem i_int1 {i : Int} {R : Int → Prop} {R2 : Prop} (q : R i) : (∃ j, [V.int i] = [V.int j] ∧ R j) ∨ R2 := .inl ⟨i, rfl, q⟩
theorem i_intb {b : Bool} {R : Bool → Prop} {R2 : Prop} (q : R b) : R2 ∨ ∃ k, [V.bl b] = [V.bl k] ∧ R k := .inr ⟨b, rfl, q⟩
theorem i_len {p : Addr} {xs : List V} {R : List V → Prop} (h : SqL K H p xs) (q : R xs) : ∃ p' ys, [V.ref p] = [V.ref p'] ∧ (SqL K H p' ys ∨ SqT K H p' ys) ∧ R ys := ⟨p, xs, rfl, .inl h, q⟩
theorem i_lenT {p : Addr} {xs : List V} {R : List V → Prop} (h : SqT K H p xs) (q : R xs) : ∃ p' ys, [V.ref p] = [V.ref p'] ∧ (SqL K H p' ys ∨ SqT K H p' ys) ∧ R ys := ⟨p, xs, rfl, .inr h, q⟩
theorem i_max {i j : Int} {R : Int → Int → Prop} (q : R i j) : ∃ i' j', [V.int i, V.int j] = [V.int i', V.int j'] ∧ R i' j' := ⟨i, j, rfl, q⟩

theorem i_append {p : Addr} {xs : List V} (h : H p = some (.lst xs)) (hz : xs.length < sizeLine) (q : Q .non (upd H p (.lst (xs ++ [v])))) : rAppend (.ref p) [v] H Q := ⟨p, xs, v, rfl, rfl, h, hz, q⟩
theorem i_catL {p b : Addr} {xs zs : List V} (h1 : H p = some (.lst xs)) (h2 : H b = some (.lst zs)) (hz : xs.length + zs.length ≤ sizeLine) (q : ∀ a, H a = none → Q (.ref a) (upd H a (.lst (xs ++ zs)))) : rCat (.ref p) (.ref b) H Q := ⟨p, b, xs, zs, rfl, rfl, h1, h2, hz, q⟩
theorem i_gtup {p : Addr} {xs : List V} {n : Nat} {tg : TGs} (h : SqT K H p xs) (e : xs.length = n) (q : tg xs σ H QS) : gTup K n tg (.ref p) σ H QS := ⟨p, xs, rfl, h, e, q⟩
theorem i_gcons {tg : TG} {ug : TGs} {vs : List V} (q : tg v σ H fun σ' H' => ug vs σ' H' QS) : gCons tg ug (v :: vs) σ H QS := ⟨v, vs, rfl, q⟩
theorem i_gnil (q : QS σ H) : gNil [] σ H QS := ⟨rfl, q⟩
theorem i_yes {QB : Bool → Hp → Prop} (q : QB true H) : tYes σ H QB := q
theorem i_m1 {r : V → List V → Hp → VK → Prop} (q : ta σ H fun x H1 => (∃ a, x = .str a) ∧ tb σ H1 fun y H2 => r x [y] H2 Q) : tM1 r ta tb σ H Q := q
theorem i_m0 {r : V → List V → Hp → VK → Prop} (q : ta σ H fun x H1 => (∃ a, x = .str a) ∧ r x [] H1 Q) : tM0 r ta σ H Q := q
/-- what a comprehension asks behind its source -/
def LcAsk (J : L2.It) (g : TG) (t : TT) (te : TE) (vs : List Nat) (σ : L2.St) (Q : VK) (H1 : Hp) : Prop := ∀ D, H1 D = none → ∃ W : Nat → Nat → Hp → Prop, (∃ m, W 0 m (upd H1 D (.lst []))) ∧ ∀ i m H, W i m H →
  (J.stop i H ∧ Q (.ref D) H) ∨ (J.go i H ∧ ∃ Nx : Hp → Prop, (∀ H', Nx H' → ∃ m', m' < m ∧ W (i + 1) m' H') ∧ ∀ x H', J.yld i H x H' → g x (wipe σ vs) H' fun σ2 H2 => wipe σ2 vs = wipe σ vs ∧ t σ2 H2 fun b H3 =>
    if b = true then te σ2 H3 fun y H4 => ∃ acc, H4 D = some (.lst acc) ∧ acc.length < sizeLine ∧ Nx (upd H4 D (.lst (acc ++ [y]))) else Nx H3)
theorem i_lcR {vs : List Nat} (q : A σ H fun ws H1 => ∃ j : Int, ws = [.int j] ∧ -(2 ^ 62) ≤ j ∧ j < 2 ^ 62 ∧ LcAsk (Itr 0 j.toNat) g t te vs σ Q H1) : tLc (iRng1 A) g t te vs σ H Q := q
theorem i_lcR2 {vs : List Nat} (q : A σ H fun ws H1 => ∃ i j : Int, ws = [.int i, .int j] ∧ (-(2 ^ 62) ≤ i ∧ i < 2 ^ 62 ∧ -(2 ^ 62) ≤ j ∧ j < 2 ^ 62) ∧ LcAsk (Itr i (j - i).toNat) g t te vs σ Q H1) : tLc (iRng2 A) g t te vs σ H Q := q
theorem i_lcL {vs : List Nat} (q : ta σ H fun x H1 => ∃ a, x = .ref a ∧ (∃ xs, SqL K H1 a xs) ∧ LcAsk (Itl K a) g t te vs σ Q H1) : tLc (iList K ta) g t te vs σ H Q := q
theorem i_lcT {vs : List Nat} (q : ta σ H fun x H1 => ∃ a, x = .ref a ∧ (∃ xs, SqT K H1 a xs) ∧ LcAsk (Itt K a) g t te vs σ Q H1) : tLc (iTup K ta) g t te vs σ H Q := q
theorem lcR {n : Int} {vs : List Nat} (h1 : -(2 ^ 62) ≤ n) (h2 : n < 2 ^ 62) (q : ∀ D, H D = none → ∃ Pv : Nat → Hp → Prop, Pv 0 (upd H D (.lst [])) ∧
    (∀ (i : Nat) H2, (i : Int) < n → Pv i H2 → g (.int (i : Int)) (wipe σ vs) H2 fun σ2 H2 => wipe σ2 vs = wipe σ vs ∧ t σ2 H2 fun b H3 =>
      if b = true then te σ2 H3 fun y H4 => ∃ acc, H4 D = some (.lst acc) ∧ acc.length < sizeLine ∧ Pv (i + 1) (upd H4 D (.lst (acc ++ [y]))) else Pv (i + 1) H3) ∧ ∀ H2, Pv n.toNat H2 → Q (.ref D) H2) :
    ∃ j : Int, [V.int n] = [.int j] ∧ -(2 ^ 62) ≤ j ∧ j < 2 ^ 62 ∧ LcAsk (Itr 0 j.toNat) g t te vs σ Q H := by
  refine ⟨n, rfl, h1, h2, fun D hD => ?_⟩
  obtain ⟨Pv, p0, ps, pd⟩ := q D hD
  exact lc_range (lo := 0) (n := n.toNat) Pv p0 (fun i H2 hi p => by rw [Int.zero_add]; exact ps i H2 (by omega) p) pd
theorem lcR2 {m n : Int} {vs : List Nat} (h0 : 0 ≤ m) (h1 : m < 2 ^ 62) (h2 : -(2 ^ 62) ≤ n) (h3 : n < 2 ^ 62) (q : ∀ D, H D = none → ∃ Pv : Nat → Hp → Prop, Pv 0 (upd H D (.lst [])) ∧
    (∀ (i : Nat) H2, m + (i : Int) < n → Pv i H2 → g (.int (m + (i : Int))) (wipe σ vs) H2 fun σ2 H2 => wipe σ2 vs = wipe σ vs ∧ t σ2 H2 fun b H3 =>
      if b = true then te σ2 H3 fun y H4 => ∃ acc, H4 D = some (.lst acc) ∧ acc.length < sizeLine ∧ Pv (i + 1) (upd H4 D (.lst (acc ++ [y]))) else Pv (i + 1) H3) ∧ ∀ H2, Pv (n - m).toNat H2 → Q (.ref D) H2) :
    ∃ i j : Int, [V.int m, V.int n] = [.int i, .int j] ∧ (-(2 ^ 62) ≤ i ∧ i < 2 ^ 62 ∧ -(2 ^ 62) ≤ j ∧ j < 2 ^ 62) ∧ LcAsk (Itr i (j - i).toNat) g t te vs σ Q H := by
  refine ⟨m, n, rfl, ⟨by omega, h1, h2, h3⟩, fun D hD => ?_⟩
  obtain ⟨Pv, p0, ps, pd⟩ := q D hD
  exact lc_range (lo := m) (n := (n - m).toNat) Pv p0 (fun i H2 hi p => ps i H2 (by omega) p) pd
theorem lcL {a : Addr} {xs : List V} {vs : List Nat} (h : SqL K H a xs) (q : ∀ D, H D = none → ∃ Pv : Nat → Hp → Prop, Pv 0 (upd H D (.lst [])) ∧ (∀ i H2, i ≤ xs.length → Pv i H2 → SqL K H2 a xs) ∧
    (∀ (i : Nat) x H2, xs[i]? = some x → Pv i H2 → g x (wipe σ vs) H2 fun σ2 H2 => wipe σ2 vs = wipe σ vs ∧ t σ2 H2 fun b H3 =>
      if b = true then te σ2 H3 fun y H4 => ∃ acc, H4 D = some (.lst acc) ∧ acc.length < sizeLine ∧ Pv (i + 1) (upd H4 D (.lst (acc ++ [y]))) else Pv (i + 1) H3) ∧ ∀ H2, Pv xs.length H2 → Q (.ref D) H2) :
    ∃ a', V.ref a = .ref a' ∧ (∃ ys, SqL K H a' ys) ∧ LcAsk (Itl K a') g t te vs σ Q H := by
  refine ⟨a, rfl, ⟨xs, h⟩, fun D hD => ?_⟩
  obtain ⟨Pv, p0, pl, ps, pd⟩ := q D hD
  exact lc_list (xs := xs) Pv p0 pl ps pd
theorem lcT {a : Addr} {xs : List V} {vs : List Nat} (h : SqT K H a xs) (q : ∀ D, H D = none → ∃ Pv : Nat → Hp → Prop, Pv 0 (upd H D (.lst [])) ∧ (∀ i H2, i ≤ xs.length → Pv i H2 → SqT K H2 a xs) ∧
    (∀ (i : Nat) x H2, xs[i]? = some x → Pv i H2 → g x (wipe σ vs) H2 fun σ2 H2 => wipe σ2 vs = wipe σ vs ∧ t σ2 H2 fun b H3 =>
      if b = true then te σ2 H3 fun y H4 => ∃ acc, H4 D = some (.lst acc) ∧ acc.length < sizeLine ∧ Pv (i + 1) (upd H4 D (.lst (acc ++ [y]))) else Pv (i + 1) H3) ∧ ∀ H2, Pv xs.length H2 → Q (.ref D) H2) :
    ∃ a', V.ref a = .ref a' ∧ (∃ ys, SqT K H a' ys) ∧ LcAsk (Itt K a') g t te vs σ Q H := by
  refine ⟨a, rfl, ⟨xs, h⟩, fun D hD => ?_⟩
  obtain ⟨Pv, p0, pl, ps, pd⟩ := q D hD
  exact lc_tup (xs := xs) Pv p0 pl ps pd
/-- what a for asks behind its source -/
def ForAsk (J : L2.It) (g : TG) (tb : TS) (D : Ends) (σ : L2.St) (H1 : Hp) : Prop := ∃ W : Nat → Nat → L2.St → Hp → Prop, (∃ m, W 0 m σ H1) ∧ ∀ i m σ H, W i m σ H →
  (J.stop i H ∧ D.nx σ H) ∨ (J.go i H ∧ ∃ N : L2.St → Hp → Prop, (∀ σ' H', N σ' H' → ∃ m', m' < m ∧ W (i + 1) m' σ' H') ∧ ∀ x H', J.yld i H x H' → g x σ H' fun σ2 H2 => tb { D with nx := N, ct := N, bk := D.nx } σ2 H2)
theorem i_forR (q : A σ H fun ws H1 => ∃ j : Int, ws = [.int j] ∧ -(2 ^ 62) ≤ j ∧ j < 2 ^ 62 ∧ ForAsk (Itr 0 j.toNat) g s D σ H1) : tFor (iRng1 A) g s D σ H := q
theorem i_forL (q : ta σ H fun x H1 => ∃ a, x = .ref a ∧ (∃ xs, SqL K H1 a xs) ∧ ForAsk (Itl K a) g s D σ H1) : tFor (iList K ta) g s D σ H := q
theorem i_forT (q : ta σ H fun x H1 => ∃ a, x = .ref a ∧ (∃ xs, SqT K H1 a xs) ∧ ForAsk (Itt K a) g s D σ H1) : tFor (iTup K ta) g s D σ H := q
theorem forR {n : Int} (h1 : -(2 ^ 62) ≤ n) (h2 : n < 2 ^ 62) (Pv : Nat → L2.St → Hp → Prop) (p0 : Pv 0 σ H)
    (ps : ∀ (i : Nat) σ H, (i : Int) < n → Pv i σ H → g (.int (i : Int)) σ H fun σ2 H2 => s { D with nx := Pv (i + 1), ct := Pv (i + 1), bk := D.nx } σ2 H2) (pd : ∀ σ H, Pv n.toNat σ H → D.nx σ H) :
    ∃ j : Int, [V.int n] = [.int j] ∧ -(2 ^ 62) ≤ j ∧ j < 2 ^ 62 ∧ ForAsk (Itr 0 j.toNat) g s D σ H :=
  ⟨n, rfl, h1, h2, for_range (lo := 0) (n := n.toNat) Pv p0 (fun i σ H hi p => by rw [Int.zero_add]; exact ps i σ H (by omega) p) pd⟩
theorem forL {a : Addr} {xs : List V} (h : SqL K H a xs) (Pv : Nat → L2.St → Hp → Prop) (p0 : Pv 0 σ H) (pl : ∀ i σ H, i ≤ xs.length → Pv i σ H → SqL K H a xs)
    (ps : ∀ i x σ H, xs[i]? = some x → Pv i σ H → g x σ H fun σ2 H2 => s { D with nx := Pv (i + 1), ct := Pv (i + 1), bk := D.nx } σ2 H2) (pd : ∀ σ H, Pv xs.length σ H → D.nx σ H) :
    ∃ a', V.ref a = .ref a' ∧ (∃ ys, SqL K H a' ys) ∧ ForAsk (Itl K a') g s D σ H := ⟨a, rfl, ⟨xs, h⟩, for_list (xs := xs) Pv p0 pl ps pd⟩
theorem forT {a : Addr} {xs : List V} (h : SqT K H a xs) (Pv : Nat → L2.St → Hp → Prop) (p0 : Pv 0 σ H) (pl : ∀ i σ H, i ≤ xs.length → Pv i σ H → SqT K H a xs)
    (ps : ∀ i x σ H, xs[i]? = some x → Pv i σ H → g x σ H fun σ2 H2 => s { D with nx := Pv (i + 1), ct := Pv (i + 1), bk := D.nx } σ2 H2) (pd : ∀ σ H, Pv xs.length σ H → D.nx σ H) :
    ∃ a', V.ref a = .ref a' ∧ (∃ ys, SqT K H a' ys) ∧ ForAsk (Itt K a') g s D σ H := ⟨a, rfl, ⟨xs, h⟩, for_tup (xs := xs) Pv p0 pl ps pd⟩
/-- ways -/
theorem ite_d {p : Prop} [Decidable p] {a b : Prop} (h1 : p → a) (h2 : ¬ p → b) : if decide p = true then a else b := by
  by_cases h : p
  · rw [if_pos (decide_eq_true h)]; exact h1 h
  · rw [if_neg (by rw [decide_eq_false h]; exact Bool.false_ne_true)]; exact h2 h
theorem ite_nd {p : Prop} [Decidable p] {a b : Prop} (h1 : p → b) (h2 : ¬ p → a) : if (!decide p) = true then a else b := by
  by_cases h : p
  · rw [decide_eq_true h, if_neg (by decide)]; exact h1 h
  · rw [decide_eq_false h, if_pos (by decide)]; exact h2 h
theorem ite_b {c : Bool} {a b : Prop} (h1 : c = true → a) (h2 : c = false → b) : if c = true then a else b := by
  cases c
  · rw [if_neg Bool.false_ne_true]; exact h2 rfl
  · rw [if_pos rfl]; exact h1 rfl
theorem ite_vi {i j : Int} {a b : Prop} (h1 : i = j → a) (h2 : i ≠ j → b) : if decide (V.int i = V.int j) = true then a else b := ite_d (fun e => h1 (V.int.inj e)) fun n => h2 fun e => n (by rw [e])
theorem ite_T {a b : Prop} (h : a) : if true = true then a else b := by rw [if_pos rfl]; exact h
theorem ite_F {a b : Prop} (h : b) : if false = true then a else b := by rw [if_neg Bool.false_ne_true]; exact h
theorem mulL {i j : Int} (h1 : -(2 ^ 64) < i) (h2 : i < 2 ^ 64) : CMul i j := .inl ⟨h1, h2⟩
theorem mulR {i j : Int} (h1 : -(2 ^ 64) < j) (h2 : j < 2 ^ 64) : CMul i j := .inr ⟨h1, h2⟩
/-- fields of new things -/
theorem up_ne {H : Hp} {a b : Addr} {o : HO} {u : HO} (hn : H a = none) (h : H b = some u) : upd H a o b = some u := by rw [upd_ne (ne_of_none h hn)]; exact h
end
end Rd

set_option maxHeartbeats 4000000
/-! The heap without some addresses (what may change), a pen of draws, texts times ints. -/
namespace Hd
open PySem PySem.Spec PyProof.Rows L2 Evl
/-- the heap without the addresses of S -/
def hid (S : List Addr) (H : Hp) : Hp := fun b => if b ∈ S then none else H b
theorem hid_iff {S : List Addr} {H : Hp} {b : Addr} {o : HO} : hid S H b = some o ↔ b ∉ S ∧ H b = some o := by
  unfold hid
  by_cases h : b ∈ S
  · rw [if_pos h]
    constructor
    · intro z; cases z
    · intro z; exact absurd h z.1
  · rw [if_neg h]
    exact ⟨fun z => ⟨h, z⟩, fun z => z.2⟩
theorem hid_get {S : List Addr} {H : Hp} {b : Addr} {o : HO} (h : hid S H b = some o) : H b = some o := (hid_iff.mp h).2
theorem hid_sub {S : List Addr} {H : Hp} : Ex (hid S H) H := fun _ _ h => hid_get h
/-- an extension of the whole is one of the rest -/
theorem hid_ex {S : List Addr} {H H' : Hp} (e : Ex H H') : Ex (hid S H) (hid S H') := fun b o h => by
  obtain ⟨h1, h2⟩ := hid_iff.mp h
  exact hid_iff.mpr ⟨h1, e _ _ h2⟩
/-- more is hidden -/
theorem hid_more {S S' : List Addr} {H H' : Hp} (e : Ex (hid S H) (hid S H')) (hs : ∀ a ∈ S, a ∈ S') : Ex (hid S' H) (hid S' H') := fun b o h => by
  obtain ⟨h1, h2⟩ := hid_iff.mp h
  exact hid_iff.mpr ⟨h1, hid_get (e b o (hid_iff.mpr ⟨fun z => h1 (hs _ z), h2⟩))⟩
theorem hid_upd {S : List Addr} {H : Hp} {a : Addr} {o : HO} (ha : a ∈ S) : hid S (upd H a o) = hid S H := by
  funext b
  unfold hid
  by_cases h : b ∈ S
  · rw [if_pos h, if_pos h]
  · rw [if_neg h, if_neg h, upd_ne (fun z => h (by rw [z]; exact ha))]
theorem hid_new {S : List Addr} {H : Hp} {a : Addr} {o : HO} (h : H a = none) : Ex (hid S H) (hid S (upd H a o)) := hid_ex (Ex.new h)
/-- a pen: the list at p holds the list at q and a number; the list at q holds ints -/
def Pen (H : Hp) (p q : Addr) (s : Int) : Prop := 0 ≤ s ∧ ∃ ns : List Int, H p = some (.lst [.ref q, .int s]) ∧ H q = some (.lst (ns.map V.int)) ∧ ns ≠ [] ∧ ns.length ≤ 100
theorem Pen.ne {H : Hp} {p q : Addr} {s : Int} (h : Pen H p q s) : p ≠ q := by
  obtain ⟨_, ns, h1, h2, _, _⟩ := h
  intro e
  rw [e, h2] at h1
  cases ns with
  | nil => cases h1
  | cons n r => cases h1
theorem Pen.at {H H' : Hp} {p q : Addr} {s : Int} (h : Pen H p q s) (h1 : ∀ o, H p = some o → H' p = some o) (h2 : ∀ o, H q = some o → H' q = some o) : Pen H' p q s := by
  obtain ⟨a, ns, b, c, d, e⟩ := h
  exact ⟨a, ns, h1 _ b, h2 _ c, d, e⟩
theorem Pen.ex {H H' : Hp} {p q : Addr} {s : Int} (h : Pen H p q s) (e : Ex H H') : Pen H' p q s := h.at (fun o z => e _ _ z) (fun o z => e _ _ z)
/-- what is new is not the pen -/
theorem Pen.new {H : Hp} {p q a : Addr} {s : Int} (h : Pen H p q s) (n : H a = none) : a ∉ [p, q] := by
  obtain ⟨_, ns, b, c, _, _⟩ := h
  intro z
  rcases List.mem_cons.mp z with rfl | z
  · rw [n] at b; cases b
  · rcases List.mem_cons.mp z with rfl | z
    · rw [n] at c; cases c
    · cases z
theorem hid_pen_new {H : Hp} {p q a : Addr} {s : Int} {o : HO} (h : Pen H p q s) (n : H a = none) : hid [p, q] (upd H a o) a = some o := hid_iff.mpr ⟨h.new n, upd_same⟩
/-- the rest stands, and nothing that was free of it is known -/
def But2 (p q : Addr) (H H' : Hp) : Prop := ∀ b, b ≠ p → b ≠ q → H' b = H b
theorem But2.ex {p q : Addr} {H H' : Hp} (h : But2 p q H H') : Ex (hid [p, q] H) (hid [p, q] H') := fun b o z => by
  obtain ⟨h1, h2⟩ := hid_iff.mp z
  refine hid_iff.mpr ⟨h1, ?_⟩
  rw [h b (fun e => h1 (by rw [e]; exact List.mem_cons_self)) (fun e => h1 (by rw [e]; exact List.mem_cons_of_mem _ List.mem_cons_self))]
  exact h2
/-- text times int -/
def strRep (x : Str) (n : Nat) : Str := ⟨(List.replicate n x.cps.toList).flatten.toArray⟩
theorem fold_flat {l : List (Array Nat)} : ∀ {a : Array Nat}, (l.foldl (· ++ ·) a).toList = a.toList ++ (l.map (·.toList)).flatten := by
  induction l with
  | nil => intro a; simp
  | cons x r ih => intro a; rw [List.foldl_cons, ih]; simp [List.append_assoc]
theorem short {a b : Nat} (h1 : a ≤ 100) (h2 : b ≤ 100) : Builtin.Str.tooLong (a * b) = false := by
  have h : a * b ≤ 100 * 100 := Nat.mul_le_mul h1 h2
  unfold Builtin.Str.tooLong
  simp only [decide_eq_false_iff_not]
  rw [sizeLine_eq]
  omega
theorem op_mulS {X : Cx} : OpR X (binaryOp .Mult) (fun x y H Q => ∃ z k, x = .str z ∧ y = .int k ∧ 1 ≤ k ∧ k ≤ 100 ∧ z.length ≤ 100 ∧ Q (.str (strRep z k.toNat)) H) := by
  intro pins s σ H x y v u Q I rx ry h
  obtain ⟨z, k, rfl, rfl, h1, h2, h3, q⟩ := h
  obtain ⟨t, rfl⟩ := rx
  obtain ⟨t', rfl⟩ := ry
  refine PySem.P.mul_str ?_ (fun _ _ => ?_) (fun _ _ => ?_) ?_
  · simp only [Bool.or_eq_false_iff, decide_eq_false_iff_not]
    constructor <;> omega
  · have : (2 ^ 63 - 1 : Int) / k ≥ 100 := by
      have h0 : (100 : Int) ≤ (2 ^ 63 - 1) / k ↔ 100 * k ≤ 2 ^ 63 - 1 := Int.le_ediv_iff_mul_le (by omega)
      exact h0.mpr (by omega)
    omega
  · have : z.length * k.toNat ≤ 100 * 100 := Nat.mul_le_mul h3 (by omega)
    exact short h3 (by omega)
  · rw [if_neg (by omega)]
    split
    · rename_i hz
      have e : strRep z k.toNat = z := by
        rw [Bool.or_eq_true] at hz
        rcases hz with hz | hz
        · have : k = 1 := by simpa using hz
          subst this
          unfold strRep
          simp
        · have z0 : z.length = 0 := by simpa using hz
          have zc : z.cps = #[] := Array.eq_empty_of_size_eq_zero z0
          unfold strRep
          obtain ⟨c⟩ := z
          simp only at zc
          subst zc
          simp
      rw [e] at q
      exact ⟨.str z, H, I, ⟨t, rfl⟩, q⟩
    · have e : (⟨(List.replicate k.toNat z.cps).foldl (· ++ ·) #[]⟩ : Str) = strRep z k.toNat := by
        unfold strRep
        congr 1
        apply Array.toList_inj.mp
        rw [fold_flat]
        simp
      refine ⟨PySem.fits_reps (short h3 (by omega)), ?_⟩
      rw [e]
      exact ⟨.str (strRep z k.toNat), H, I.tok _, ⟨_, rfl⟩, q⟩
end Hd
namespace Hd
open PySem PySem.Spec PyProof.Rows L2 Evl
/-- a fresh list is changed: the rest of the old heap stands -/
theorem hid_mut {S : List Addr} {H0 H : Hp} {D : Addr} {o : HO} (e : Ex (hid S H0) (hid S H)) (n : H0 D = none) : Ex (hid S H0) (hid S (upd H D o)) := fun b u h => by
  obtain ⟨h1, h2⟩ := hid_iff.mp h
  obtain ⟨h3, h4⟩ := hid_iff.mp (e b u h)
  exact hid_iff.mpr ⟨h1, by rw [upd_ne (ne_of_none h2 n)]; exact h4⟩
theorem Pen.mut {H : Hp} {p q D : Addr} {s : Int} {o : HO} (h : Pen H p q s) (hD : D ∉ [p, q]) : Pen (upd H D o) p q s :=
  h.at (fun u z => by rw [upd_ne (fun e => hD (by rw [← e]; exact List.mem_cons_self))]; exact z) (fun u z => by rw [upd_ne (fun e => hD (by rw [← e]; exact List.mem_cons_of_mem _ List.mem_cons_self))]; exact z)
theorem But2.at {p q b : Addr} {H H' : Hp} {o : HO} (h : But2 p q H H') (hb : b ∉ [p, q]) (e : H b = some o) : H' b = some o := by
  rw [h b (fun z => hb (by rw [z]; exact List.mem_cons_self)) (fun z => hb (by rw [z]; exact List.mem_cons_of_mem _ List.mem_cons_self))]
  exact e
theorem nin {S : List Addr} {H : Hp} {b : Addr} {o : HO} (h : hid S H b = some o) : b ∉ S := (hid_iff.mp h).1
theorem join_signs : ∀ cs : List Nat, Txt.join (Str.ofString "") (cs.map fun c => (⟨#[c]⟩ : Str)) = ⟨cs.toArray⟩ := by
  intro cs
  have h : TL.tl (Txt.join (Str.ofString "") (cs.map fun c => (⟨#[c]⟩ : Str))) = cs := by
    rw [TL.join_eq, TL.tl_join]
    rw [show TL.tl (Str.ofString "") = [] from by decide +kernel]
    rw [List.map_map]
    induction cs with
    | nil => rfl
    | cons c r ih =>
      cases r with
      | nil => rfl
      | cons d r =>
        show [c] ++ ([] ++ TL.joinL [] _) = _
        rw [List.nil_append]
        exact congrArg (c :: ·) ih
  generalize Txt.join (Str.ofString "") (cs.map fun c => (⟨#[c]⟩ : Str)) = x at h
  obtain ⟨a⟩ := x
  have h' : a.toList = cs := h
  subst h'
  rfl
end Hd
namespace Hd
open PySem PySem.Spec PyProof.Rows L2 Evl
theorem inV_str (a : Str) (ns : List Str) : inV (.str a) (ns.map V.str) = decide (a ∈ ns) := by
  unfold inV
  rw [List.any_map]
  apply Bool.eq_iff_iff.mpr
  rw [List.any_eq_true, decide_eq_true_iff]
  constructor
  · rintro ⟨x, hx, e⟩
    have : x = a := by simpa [eqV] using e
    rwa [← this]
  · intro h
    exact ⟨a, h, by simp [eqV]⟩
theorem flat_str (ns : List Str) : (ns.map V.str).all flatV = true := by
  rw [List.all_map]
  exact List.all_eq_true.mpr fun _ _ => rfl
theorem inV_int (a : Int) (ns : List Int) : inV (.int a) (ns.map V.int) = decide (a ∈ ns) := by
  unfold inV
  rw [List.any_map]
  apply Bool.eq_iff_iff.mpr
  rw [List.any_eq_true, decide_eq_true_iff]
  constructor
  · rintro ⟨x, hx, e⟩
    have : x = a := by simpa [eqV] using e
    rwa [← this]
  · intro h
    exact ⟨a, h, by simp [eqV]⟩
theorem flat_int (ns : List Int) : (ns.map V.int).all flatV = true := by
  rw [List.all_map]
  exact List.all_eq_true.mpr fun _ _ => rfl
section
variable {K : PySem.W.Frag} {σ : L2.St} {H : Hp} {p : Addr} {a : Str} {ns : List Str} {Q : VK} {t : TT} {te : TE}
theorem i_inS (h : SqL K H p (ns.map V.str) ∨ SqT K H p (ns.map V.str)) (q : Q (.bl (decide (a ∈ ns))) H) : rIn K false (.str a) (.ref p) H Q :=
  ⟨p, _, rfl, h, rfl, flat_str ns, by rw [inV_str]; exact q⟩
theorem i_ninS (h : SqL K H p (ns.map V.str) ∨ SqT K H p (ns.map V.str)) (q : Q (.bl (!decide (a ∈ ns))) H) : rIn K true (.str a) (.ref p) H Q :=
  ⟨p, _, rfl, h, rfl, flat_str ns, by rw [inV_str]; exact q⟩
theorem el_lcR2 {ta : TA} {j : Nat} {vs : List Nat} {m n : Int} (f : Nat → Bool) (v : Nat → V) (h : EvA ta σ H [.int m, .int n]) (hm : 0 ≤ m ∧ m ≤ 40000) (hn : 0 ≤ n ∧ n ≤ 40000) (hw : ∀ x, wipe ((wipe σ vs).set j (some x)) vs = wipe σ vs)
    (ht : ∀ (i : Nat) H1, Ex H H1 → m + (i : Int) < n → EvT t ((wipe σ vs).set j (some (.int (m + (i : Int))))) H1 (f i)) (he : ∀ (i : Nat) H1, Ex H H1 → m + (i : Int) < n → f i = true → Ev te ((wipe σ vs).set j (some (.int (m + (i : Int))))) H1 (v i)) :
    EvL (tLc (iRng2 ta) (gName j) t te vs) σ H (given (n - m).toNat f v) := fun H0 e Q q => h H0 e _ fun H1 e1 => ⟨m, n, rfl, ⟨by omega, by omega, by omega, by omega⟩, fun Dl hD =>
  lc_range (lo := m) (n := (n - m).toNat) (Cw H1 f v Dl) ⟨hD, Ex.new hD, upd_same⟩ (fun i H' hi p => ⟨hw _, cw_turn p (by omega) (ht i H1 (e.trans e1) (by omega)) (fun hf => he i H1 (e.trans e1) (by omega) hf)⟩) (fun H' p => q Dl H' (fresh_back e1 p.1) (e1.trans p.2.1) p.2.2)⟩
end
theorem nodup_len {α : Type} [DecidableEq α] : ∀ {l l' : List α}, l.Nodup → (∀ a ∈ l, a ∈ l') → l.length ≤ l'.length
  | [], _, _, _ => Nat.zero_le _
  | a :: r, l', nd, h => by
    obtain ⟨n1, n2⟩ := List.nodup_cons.mp nd
    have hm : a ∈ l' := h a List.mem_cons_self
    have ih := nodup_len (l := r) (l' := l'.erase a) n2 (fun b hb => by
      have hne : b ≠ a := fun e => n1 (by rw [← e]; exact hb)
      exact (List.mem_erase_of_ne hne).mpr (h b (List.mem_cons_of_mem _ hb)))
    rw [List.length_erase_of_mem hm] at ih
    have : 0 < l'.length := List.length_pos_of_mem hm
    rw [List.length_cons]
    omega
theorem given_mem {n : Nat} {f : Nat → Bool} {v : Nat → V} {i : Nat} (hi : i < n) (hf : f i = true) : ∃ j, j < n ∧ f j = true ∧ (given n f v)[0]? = some (v j) ∧ 0 < (given n f v).length := by
  have h1 : i ∈ (List.range n).filter f := List.mem_filter.mpr ⟨List.mem_range.mpr hi, hf⟩
  unfold given
  cases e : (List.range n).filter f with
  | nil => rw [e] at h1; cases h1
  | cons j r =>
    have h2 : j ∈ (List.range n).filter f := by rw [e]; exact List.mem_cons_self
    obtain ⟨h3, h4⟩ := List.mem_filter.mp h2
    exact ⟨j, List.mem_range.mp h3, h4, rfl, by rw [List.map_cons, List.length_cons]; omega⟩
end Hd
namespace Hd
open PySem PySem.Spec PyProof.Rows L2 Evl
theorem lay_ints : ∀ ns : List Int, PyData.canLayAll0 (ns.map PyData.int) = true
  | [] => rfl
  | n :: r => by
    show (PyData.canLay0 (.int n) && PyData.canLayAll0 (r.map PyData.int)) = true
    rw [lay_ints r]
    rfl
theorem depth_ints : ∀ ns : List Int, PyData.depthAll (ns.map PyData.int) = 0
  | [] => rfl
  | n :: r => by
    show max (PyData.depth (.int n)) (PyData.depthAll (r.map PyData.int)) = 0
    rw [depth_ints r]
    rfl
theorem shaped_ints (ns : List Int) : SeqAt.shaped (.list (ns.map PyData.int)) = true := by
  unfold SeqAt.shaped
  have h1 : (PyData.list (ns.map PyData.int)).canLay0 = true := lay_ints ns
  have h2 : (PyData.list (ns.map PyData.int)).depth = 1 := by
    show PyData.depthAll (ns.map PyData.int) + 1 = 1
    rw [depth_ints]
  rw [h1, h2]
  rfl
theorem eqv_nil (ns : List Int) : PyData.eqv (.list (ns.map PyData.int)) (.list []) = decide (ns = []) := by
  cases ns with
  | nil => rfl
  | cons n r => rfl
/-- all items are places below n with P -/
def AllG (n : Nat) (P : Nat → Prop) (xs : List V) : Prop := ∀ v ∈ xs, ∃ g : Nat, v = .int (g : Int) ∧ g < n ∧ P g
theorem allG_ints {n : Nat} {P : Nat → Prop} : ∀ {xs : List V}, AllG n P xs → ∃ ns : List Int, xs = ns.map V.int
  | [], _ => ⟨[], rfl⟩
  | x :: r, h => by
    obtain ⟨g, e, _⟩ := h x List.mem_cons_self
    obtain ⟨ns, e2⟩ := allG_ints (xs := r) fun v hv => h v (List.mem_cons_of_mem _ hv)
    exact ⟨(g : Int) :: ns, by rw [e, e2]; rfl⟩
theorem allG_given {n m a : Nat} {f : Nat → Bool} {P : Nat → Prop} (h : ∀ i, i < m → f i = true → a + i < n ∧ P (a + i)) : AllG n P (given m f fun i => .int ((a : Int) + (i : Int))) := by
  intro v hv
  unfold given at hv
  obtain ⟨i, hi, rfl⟩ := List.mem_map.mp hv
  obtain ⟨h1, h2⟩ := List.mem_filter.mp hi
  obtain ⟨h3, h4⟩ := h i (List.mem_range.mp h1) h2
  exact ⟨a + i, by show V.int ((a : Int) + (i : Int)) = V.int ((a + i : Nat) : Int); rw [Int.natCast_add], h3, h4⟩
theorem allG_given0 {n m : Nat} {f : Nat → Bool} {P : Nat → Prop} (h : ∀ i, i < m → f i = true → i < n ∧ P i) : AllG n P (given m f fun i => .int (i : Int)) := by
  intro v hv
  unfold given at hv
  obtain ⟨i, hi, rfl⟩ := List.mem_map.mp hv
  obtain ⟨h1, h2⟩ := List.mem_filter.mp hi
  obtain ⟨h3, h4⟩ := h i (List.mem_range.mp h1) h2
  exact ⟨i, rfl, h3, h4⟩
theorem AllG.app {n : Nat} {P : Nat → Prop} {xs ys : List V} (h1 : AllG n P xs) (h2 : AllG n P ys) : AllG n P (xs ++ ys) := fun v hv => (List.mem_append.mp hv).elim (h1 v) (h2 v)
theorem AllG.rep {n k : Nat} {P : Nat → Prop} {xs : List V} (h : AllG n P xs) : AllG n P (List.replicate k xs).flatten := fun v hv => by
  obtain ⟨l, hl, hv⟩ := List.mem_flatten.mp hv
  rw [(List.mem_replicate.mp hl).2] at hv
  exact h v hv
theorem AllG.mono {n : Nat} {P P' : Nat → Prop} {xs : List V} (h : AllG n P xs) (hp : ∀ g, P g → P' g) : AllG n P' xs := fun v hv => by
  obtain ⟨g, a, b, c⟩ := h v hv
  exact ⟨g, a, b, hp g c⟩
theorem allG_rg {n : Nat} {a b : Int} (ha : 0 ≤ a) (hb : b ≤ n) : AllG n (fun g => a ≤ g) (rgV a b) := fun v hv => by
  unfold rgV at hv
  obtain ⟨i, hi, rfl⟩ := List.mem_map.mp hv
  have := List.mem_range.mp hi
  exact ⟨(a + (i : Nat)).toNat, by congr 1; omega, by omega, by omega⟩
section
variable {K : PySem.W.Frag} {σ : L2.St} {H : Hp} {Q : VK} {p : Addr}
theorem dp_ints' {K : PySem.W.Frag} {H : Hp} : ∀ bs : List Int, DpAll K H (bs.map V.int) (bs.map PyData.int)
  | [] => .nil
  | b :: r => .cons (.int b) (dp_ints' r)
/-- xs != [], xs == [] where xs are ints -/
theorem i_neNil {q : Addr} {ns : List Int} (h : H p = some (.lst (ns.map V.int))) (h2 : H q = some (.lst [])) (k : Q (.bl (!decide (ns = []))) H) : rNeD K (.ref p) (.ref q) H Q :=
  ⟨.list (ns.map PyData.int), .list [], .lst (SqL.of h) (dp_ints' ns), .lst (SqL.of h2) .nil, shaped_ints ns, rfl, by rw [eqv_nil]; exact k⟩
theorem i_eqNil {q : Addr} {ns : List Int} (h : H p = some (.lst (ns.map V.int))) (h2 : H q = some (.lst [])) (k : Q (.bl (decide (ns = []))) H) : rEqD K (.ref p) (.ref q) H Q :=
  ⟨.list (ns.map PyData.int), .list [], .lst (SqL.of h) (dp_ints' ns), .lst (SqL.of h2) .nil, shaped_ints ns, rfl, by rw [eqv_nil]; exact k⟩
theorem i_rep {xs : List V} {k : Int} (h : H p = some (.lst xs)) (h0 : 0 ≤ k) (h1 : k ≤ 100) (h2 : xs.length ≤ 1000) (q : ∀ a, H a = none → Q (.ref a) (upd H a (.lst (List.replicate k.toNat xs).flatten))) : rRep (.ref p) (.int k) H Q := by
  refine ⟨p, k, xs, rfl, rfl, h, by omega, by omega, ?_, q⟩
  have : xs.length * k.toNat ≤ 1000 * 100 := Nat.mul_le_mul h2 (by omega)
  exact Nat.le_trans this (by decide)
theorem i_lstRg {te : L2.St → Hp → (Int → Int → Hp → Prop) → Prop} (q : te σ H fun a b H1 => RgOk a b ∧ ∀ r, H1 r = none → Q (.ref r) (upd H1 r (.lst (rgV a b)))) : tLstRg te σ H Q := q
theorem i_rg1 {ta : TE} {QR : Int → Int → Hp → Prop} (q : ta σ H fun x H1 => ∃ n, x = .int n ∧ QR 0 n H1) : tRg1 ta σ H QR := q
theorem i_rg2 {ta tb : TE} {QR : Int → Int → Hp → Prop} (q : ta σ H fun x H1 => tb σ H1 fun y H2 => ∃ i j, x = .int i ∧ y = .int j ∧ QR i j H2) : tRg2 ta tb σ H QR := q
theorem i_ex1 {n : Int} {R : Int → Prop} (q : R n) : ∃ m, V.int n = V.int m ∧ R m := ⟨n, rfl, q⟩
theorem i_ex2 {n m : Int} {R : Int → Int → Prop} (q : R n m) : ∃ i j, V.int n = V.int i ∧ V.int m = V.int j ∧ R i j := ⟨n, m, rfl, rfl, q⟩
end
end Hd
namespace Hd
open PySem PySem.Spec PyProof.Rows L2 Evl
theorem hid_less {S S' : List Addr} {H : Hp} (hs : ∀ a ∈ S, a ∈ S') : Ex (hid S' H) (hid S H) := fun b o h => by
  obtain ⟨h1, h2⟩ := hid_iff.mp h
  exact hid_iff.mpr ⟨fun z => h1 (hs _ z), h2⟩
theorem sub2 {p q d : Addr} : ∀ a ∈ [p, q], a ∈ [p, q, d] := fun a h => by
  rcases List.mem_cons.mp h with h | h
  · exact List.mem_cons.mpr (.inl h)
  · exact List.mem_cons.mpr (.inr (List.mem_cons.mpr (.inl (List.mem_singleton.mp h))))
theorem in3 {p q d : Addr} : d ∈ [p, q, d] := List.mem_cons_of_mem _ (List.mem_cons_of_mem _ List.mem_cons_self)
theorem nin3 {p q d a : Addr} (h : a ∉ [p, q]) (hd : a ≠ d) : a ∉ [p, q, d] := fun z => by
  rcases List.mem_cons.mp z with z | z
  · exact h (by rw [z]; exact List.mem_cons_self)
  · rcases List.mem_cons.mp z with z | z
    · exact h (by rw [z]; exact List.mem_cons_of_mem _ List.mem_cons_self)
    · exact hd (List.mem_singleton.mp z)
end Hd
namespace Hd
open PySem PySem.Spec PyProof.Rows L2 Evl
section
variable {K : PySem.W.Frag} {σ : L2.St} {H : Hp} {Q : VK} {tk tv td ty : TE} {r : List (TE × TE)}
theorem i_rU {g : Int → V} {i : Int} (q : Q (g i) H) : rU g (.int i) H Q := ⟨i, rfl, q⟩
theorem i_pcons {QP : List (V × V) → Hp → Prop} (q : tk σ H fun x H1 => tv σ H1 fun y H2 => tPairs r σ H2 fun ps H3 => QP ((x, y) :: ps) H3) : tPairs ((tk, tv) :: r) σ H QP := q
theorem i_pnil {QP : List (V × V) → Hp → Prop} (q : QP [] H) : tPairs [] σ H QP := q
theorem i_disp (q : ∀ p, H p = none → tPairs r σ (upd H p (.dK [])) fun ps H2 => H2 p = some (.dK []) ∧ ∃ kvs : List (Key × V), ps = kvs.map (fun kv => (kV kv.1, kv.2)) ∧ kvs.length ≤ 15 ∧ Q (.ref p) (upd H2 p (.dK (mergeK [] kvs)))) : tDisp r σ H Q := q
theorem i_dget (q : td σ H fun x H1 => ty σ H1 fun y H2 => ∃ a v, x = .ref a ∧ DGet H2 a y (some v) ∧ Q v H2) : tDGet td ty σ H Q := q
theorem i_dg {a : Addr} {w : Str} {kvs : List (Key × V)} {v : V} {R : V → Prop} (h : H a = some (.dK kvs)) (e : valV kvs (Sum.inr w) = some v) (q : R v) : ∃ a' v', V.ref a = .ref a' ∧ DGet H a' (.str w) (some v') ∧ R v' :=
  ⟨a, v, rfl, by have := DGet.k (k := Sum.inr w) h; rw [e] at this; exact this, q⟩
end
end Hd

/-! Rules that the layer lacks: a walk over a list or a tuple, a starred list in a display. -/
namespace Nr
open PySem PySem.Spec PyProof.Rows L2 Evl
/-! ### a walk over what is a list or a tuple -/
def iSeq (K : PySem.W.Frag) (tl : TE) : TI := fun σ H R => tl σ H fun x H1 => ∃ a, x = .ref a ∧ (((∃ xs, SqL K H1 a xs) ∧ R (Itl K a) H1) ∨ ((∃ xs, SqT K H1 a xs) ∧ R (Itt K a) H1))
theorem pi_seq {X : Cx} {tg l : Expr} {tl : TE} (hl : PE X l tl) : PI X tg l (iSeq X.K tl) := by
  refine ⟨fun pins s σ H R I h => ?_⟩
  refine thn (hl.run pins s σ H _ I h) fun v s1 ⟨x, H1, I1, r1, a, e, q1⟩ => ?_
  subst e
  obtain rfl : v = Value.ref a := r1
  have fpn : ∀ b ∈ [s1.heap.objs.size], FpOk X pins H1 b := fun b hb => by
    rw [List.mem_singleton.mp hb]
    exact I1.fpOk (Nat.le_refl _) (I1.hok.fresh (Nat.le_refl _))
  rcases q1 with ⟨⟨xs, hq⟩, q⟩ | ⟨⟨xs, hq⟩, q⟩
  · obtain ⟨its, rv, p, hz⟩ := I1.list hq
    exact wpAny_pyIter_list p.isList ⟨s1.heap.objs.size, [s1.heap.objs.size], _, _, H1, rfl, I1.kept (t' := s1.toks) fun b o e => Heap.get?_push_of_some _ e, turn_list a _, ⟨_, Heap.get?_push_size _ rfl, rfl, rfl⟩, fpn, q⟩
  · obtain ⟨its, rv, p, hz⟩ := I1.tuple hq
    exact wpAny_pyIter_tuple (show s1.heap.IsTuple a its.toArray from p) ⟨s1.heap.objs.size, [s1.heap.objs.size], _, _, H1, rfl, I1.kept (t' := s1.toks) fun b o e => Heap.get?_push_of_some _ e, turn_tuple a _, ⟨_, Heap.get?_push_size _ rfl, rfl, rfl⟩, fpn, q⟩
section
variable {K : PySem.W.Frag} {σ : L2.St} {H : Hp} {ta te : TE} {t : TT} {g : TG} {s : TS} {D : Ends} {Q : VK}
theorem i_lcS {vs : List Nat} (q : ta σ H fun x H1 => ∃ a, x = .ref a ∧ (((∃ xs, SqL K H1 a xs) ∧ Rd.LcAsk (Itl K a) g t te vs σ Q H1) ∨ ((∃ xs, SqT K H1 a xs) ∧ Rd.LcAsk (Itt K a) g t te vs σ Q H1))) : tLc (iSeq K ta) g t te vs σ H Q := q
theorem i_forS (q : ta σ H fun x H1 => ∃ a, x = .ref a ∧ (((∃ xs, SqL K H1 a xs) ∧ Rd.ForAsk (Itl K a) g s D σ H1) ∨ ((∃ xs, SqT K H1 a xs) ∧ Rd.ForAsk (Itt K a) g s D σ H1))) : tFor (iSeq K ta) g s D σ H := q
/-- a list or a tuple of these items -/
def Sq (K : PySem.W.Frag) (H : Hp) (a : Addr) (xs : List V) : Prop := SqL K H a xs ∨ SqT K H a xs
theorem Sq.mono {H H' : Hp} {a : Addr} {xs : List V} (e : Ex H H') (h : Sq K H a xs) : Sq K H' a xs := h.elim (fun h => .inl (ex_l e h)) (fun h => .inr (ex_t e h))
/-- nothing that the loop makes touches the source: the invariant says that what was known is known -/
theorem lcS {H0 : Hp} {a : Addr} {xs : List V} {vs : List Nat} (h : Sq K H0 a xs) (e0 : Ex H0 H) (q : ∀ D, H D = none → ∃ Pv : Nat → Hp → Prop, Pv 0 (upd H D (.lst [])) ∧ (∀ i H2, Pv i H2 → Ex H0 H2) ∧
    (∀ (i : Nat) x H2, xs[i]? = some x → Pv i H2 → g x (wipe σ vs) H2 fun σ2 H2 => wipe σ2 vs = wipe σ vs ∧ t σ2 H2 fun b H3 =>
      if b = true then te σ2 H3 fun y H4 => ∃ acc, H4 D = some (.lst acc) ∧ acc.length < sizeLine ∧ Pv (i + 1) (upd H4 D (.lst (acc ++ [y]))) else Pv (i + 1) H3) ∧ ∀ H2, Pv xs.length H2 → Q (.ref D) H2) :
    ∃ a', V.ref a = .ref a' ∧ (((∃ ys, SqL K H a' ys) ∧ Rd.LcAsk (Itl K a') g t te vs σ Q H) ∨ ((∃ ys, SqT K H a' ys) ∧ Rd.LcAsk (Itt K a') g t te vs σ Q H)) := by
  refine ⟨a, rfl, ?_⟩
  rcases h with h | h
  · refine .inl ⟨⟨xs, ex_l e0 h⟩, fun D hD => ?_⟩
    obtain ⟨Pv, p0, pl, ps, pd⟩ := q D hD
    exact lc_list (xs := xs) Pv p0 (fun i H2 _ p => ex_l (pl i H2 p) h) ps pd
  · refine .inr ⟨⟨xs, ex_t e0 h⟩, fun D hD => ?_⟩
    obtain ⟨Pv, p0, pl, ps, pd⟩ := q D hD
    exact lc_tup (xs := xs) Pv p0 (fun i H2 _ p => ex_t (pl i H2 p) h) ps pd
theorem forS {H0 : Hp} {a : Addr} {xs : List V} (h : Sq K H0 a xs) (Pv : Nat → L2.St → Hp → Prop) (p0 : Pv 0 σ H) (pl : ∀ i σ H2, Pv i σ H2 → Ex H0 H2)
    (ps : ∀ i x σ H, xs[i]? = some x → Pv i σ H → g x σ H fun σ2 H2 => s { D with nx := Pv (i + 1), ct := Pv (i + 1), bk := D.nx } σ2 H2) (pd : ∀ σ H, Pv xs.length σ H → D.nx σ H) :
    ∃ a', V.ref a = .ref a' ∧ (((∃ ys, SqL K H a' ys) ∧ Rd.ForAsk (Itl K a') g s D σ H) ∨ ((∃ ys, SqT K H a' ys) ∧ Rd.ForAsk (Itt K a') g s D σ H)) := by
  refine ⟨a, rfl, ?_⟩
  rcases h with h | h
  · exact .inl ⟨⟨xs, ex_l (pl 0 σ H p0) h⟩, for_list (xs := xs) Pv p0 (fun i σ H2 _ p => ex_l (pl i σ H2 p) h) ps pd⟩
  · exact .inr ⟨⟨xs, ex_t (pl 0 σ H p0) h⟩, for_tup (xs := xs) Pv p0 (fun i σ H2 _ p => ex_t (pl i σ H2 p) h) ps pd⟩
end
/-! ### [*xs, ..] -/
section
variable {X : Cx} {pins : List (Addr × Obj)} {σ : L2.St} {H : Hp} {s : Shared}
/-- the items that a starred list hands on -/
theorem star_list {a : Addr} {xs : List V} {E : Value → Shared → Prop} {Q : List Value → Shared → Prop} (I : Inv X pins σ H s) (h : SqL X.K H a xs) (hQ : ∀ us s', Inv X pins σ H s' → Vals xs us → Q us s') :
    PySem.W.StarOf (model X.prog X.w) X.A E (.ref a) Q s := by
  obtain ⟨its, r, ⟨o, n, ho, hc, hd1, hd⟩, hz⟩ := I.list h
  have hT : s.TypeIs (.ref a) "list" := ⟨o, ho, hc⟩
  have hlen := r.length
  have walk : wpAny (model X.prog X.w) X.A (collect (.ref a)) Q E s := by
    refine wpAny_collect_seq a (.inl rfl) ho hc hd (fun h' hk => ?_) (by rw [List.size_toArray]; omega)
    rw [List.toList_toArray]
    exact hQ its _ (I.kept (t' := s.toks) hk) r
  unfold PySem.W.StarOf notIterableAtAll
  exact wpAny_bind (wpAny_specialOf hT PySem.F.slot_list_iter.lookup (wpAny_pure ⟨rfl, walk⟩))
def tStar (K : PySem.W.Frag) (te : TE) (tr : TA) : TA := fun σ H Q => te σ H fun x H1 => ∃ a xs, x = .ref a ∧ SqL K H1 a xs ∧ tr σ H1 fun ys H2 => Q (xs ++ ys) H2
theorem pa_star {e : Expr} {es : List Expr} {te : TE} {t : TA} {p : Pos} (he : PE X e te) (hr : PA X es t) (hs : starEach (.Starred e p :: es) X.env = (true, eval e X.env) :: starEach es X.env := by rfl) : PA X (.Starred e p :: es) (tStar X.K te t) := by
  refine ⟨fun pos pins s σ H Q I h => ?_⟩
  refine PySem.W.items_star (thn (he.run pins s σ H _ I h) fun v s1 ⟨x, H1, I1, r1, a, xs, e, hx, q⟩ => ?_) hs
  subst e
  obtain rfl : v = Value.ref a := r1
  refine star_list I1 hx fun us s2 I2 rv => ?_
  exact thn (hr.run pos pins s2 σ H1 _ I2 q) fun ws s3 ⟨ys, H3, I3, r3, q3⟩ => ⟨xs ++ ys, H3, I3, rv.append r3, q3⟩
theorem i_star {K : PySem.W.Frag} {te : TE} {t : TA} {Q : List V → Hp → Prop} (q : te σ H fun x H1 => ∃ a xs, x = .ref a ∧ SqL K H1 a xs ∧ t σ H1 fun ys H2 => Q (xs ++ ys) H2) : tStar K te t σ H Q := q
def rTup (K : PySem.W.Frag) : List V → Hp → VK → Prop := fun vs H Q => ∃ a ys, vs = [V.ref a] ∧ ((SqL K H a ys ∧ ∀ b, H b = none → Q (.ref b) (upd H b (.tup ys))) ∨ (SqT K H a ys ∧ Q (.ref a) H))
theorem call_tupR {X : Cx} : CallR X (.type "tuple") (rTup X.K) := call_tuple_of
theorem i_tupL {K : PySem.W.Frag} {H : Hp} {Q : VK} {a : Addr} {ys : List V} (h : SqL K H a ys) (q : ∀ b, H b = none → Q (.ref b) (upd H b (.tup ys))) : rTup K [.ref a] H Q := ⟨a, ys, rfl, .inl ⟨h, q⟩⟩
theorem i_tupT {K : PySem.W.Frag} {H : Hp} {Q : VK} {a : Addr} {ys : List V} (h : SqT K H a ys) (q : Q (.ref a) H) : rTup K [.ref a] H Q := ⟨a, ys, rfl, .inr ⟨h, q⟩⟩
theorem i_sl {r : V → Option Int → Option Int → Hp → VK → Prop} {te : TE} {tl th : TO} {σ : L2.St} {H : Hp} {Q : VK} (q : te σ H fun x H1 => tl σ H1 fun l H2 => th σ H2 fun u H3 => r x l u H3 Q) : tSl r te tl th σ H Q := q
theorem i_part {t : TE} {σ : L2.St} {H : Hp} {QO : Option Int → Hp → Prop} (q : t σ H fun x H1 => ∃ i, x = .int i ∧ QO (some i) H1) : tPart t σ H QO := q
theorem i_nop {σ : L2.St} {H : Hp} {QO : Option Int → Hp → Prop} (q : QO none H) : tNoPart σ H QO := q
theorem i_slT {K : PySem.W.Frag} {a : Addr} {xs : List V} {lo hi : Option Int} {H : Hp} {Q : VK} (h : SqT K H a xs) (c : ¬ (HT.sIx xs.length 0 lo = 0 ∧ HT.sIx xs.length xs.length hi = xs.length)) (q : ∀ p, H p = none → Q (.ref p) (upd H p (.tup (cutV xs lo hi)))) : rSlT K (.ref a) lo hi H Q := ⟨a, xs, rfl, h, c, q⟩
theorem ite_eF {c : Bool} {a b : Prop} (e : c = false) (h : b) : if c = true then a else b := by rw [if_neg (by rw [e]; exact Bool.false_ne_true)]; exact h
theorem ite_eT {c : Bool} {a b : Prop} (e : c = true) (h : a) : if c = true then a else b := by rw [if_pos e]; exact h
theorem i_tyL {K : PySem.W.Frag} {p : Addr} {xs : List V} {R : Prop} (h : H p = some (.lst xs)) (q : R) : tyV K "list" (.ref p) H ∧ R := ⟨.inl ⟨rfl, _, SqL.of h⟩, q⟩
end
end Nr

/-! Dicts whose keys are tuples of ints, texts and None (own). -/
namespace Nk
open PySem PySem.Spec PyProof.Rows L2
/-- a plain thing as a piece of a key -/
inductive Sc : V → NestedKey → Prop
  | non : Sc .non .none
  | num (i : Int) : Sc (.int i) (.num i)
  | text (x : Str) : Sc (.str x) (.text x)
def KeyT (H : Hp) (ks : List NestedKey) (t : Addr) : Prop := ∃ vs, H t = some (.tup vs) ∧ Paired Sc vs ks
theorem KeyT.mono {H H' : Hp} {ks : List NestedKey} {t : Addr} (h : KeyT H ks t) (e : ∀ b xs, H b = some (.tup xs) → H' b = some (.tup xs)) : KeyT H' ks t := by
  obtain ⟨vs, h1, h2⟩ := h
  exact ⟨vs, e _ _ h1, h2⟩
theorem sc_is {h : Heap} : ∀ {vs : List V} {ks : List NestedKey} {us : List Value}, Paired Sc vs ks → Vals vs us → NestedAll h ks us
  | _, _, _, .nil, .nil => .nil
  | _, _, _, .cons a t, .cons r q => by
    refine .cons ?_ (sc_is t q)
    cases a with
    | non => cases r; exact .none
    | num i => obtain ⟨t, rfl⟩ := r; exact .int i t
    | text x => obtain ⟨t, rfl⟩ := r; exact .text x t
theorem sc_dep : ∀ {vs : List V} {ks : List NestedKey}, Paired Sc vs ks → NestedKey.depthAll ks = 0
  | _, _, .nil => rfl
  | _, _, .cons a t => by
    show max _ (NestedKey.depthAll _) = 0
    rw [sc_dep t]
    cases a <;> rfl
section
variable {P : Program} {w : World} {H : Hp} {h : Heap} {t a : Addr} {ks : List NestedKey}
theorem KeyT.is (ok : HOk P w H h) (k : KeyT H ks t) : (nestedKind P w).is h (.tup ks) t := by
  obtain ⟨vs, h1, h2⟩ := k
  obtain ⟨_, its, r, o, h3, h4, n, h5⟩ := (show ObjOk P w H h t (.tup vs) from ok t _ h1)
  refine ⟨.tup h3 h4 h5 (by simpa using sc_is h2 r), ?_⟩
  show NestedKey.depthAll ks + 1 ≤ 8
  rw [sc_dep h2]
  decide
/-- the entries -/
abbrev Ent := List NestedKey × Addr × V
def EV : List Ent → List (NestedKey × Addr × Value) → Prop := Paired fun p q => q.1 = .tup p.1 ∧ p.2.1 = q.2.1 ∧ RelV p.2.2 q.2.2
def nkO (P : Program) (w : World) (a : Addr) (es : List Ent) : HO := .ext fun h => ∃ xs, EV es xs ∧ ∃ o ds ep, h.get? a = some o ∧ o.ExactDict ∧ o.data = .dict ds ep ∧ ds.toList = xs.map (entryOfKey (nestedKind P w))
/-- at a: such a dict -/
structure NkD (P : Program) (w : World) (H : Hp) (a : Addr) (es : List Ent) : Prop where
  at_ : H a = some (nkO P w a es)
  keys : ∀ x ∈ es, KeyT H x.1 x.2.1
  nd : (es.map (·.1)).Nodup
  low : (a == sysModules) = false
  len : es.length ≤ 1000
theorem nk_obj {es : List Ent} {xs : List (NestedKey × Addr × Value)} {H' : Hp} (r : EV es xs) {o : Obj} {ds : Array DictEntry} {ep : Nat} (h1 : h.get? a = some o) (h2 : o.ExactDict) (h3 : o.data = .dict ds ep) (h4 : ds.toList = xs.map (entryOfKey (nestedKind P w))) :
    ObjOk P w H' h a (nkO P w a es) :=
  ⟨⟨xs, r, o, ds, ep, h1, h2, h3, h4⟩, ⟨o, h1⟩, fun _ _ ⟨xs, r, o, ds, ep, h1, h2, h3, h4⟩ st => ⟨xs, r, o, ds, ep, st _ h1, h2, h3, h4⟩⟩
theorem ev_keys : ∀ {es : List Ent} {xs : List (NestedKey × Addr × Value)}, EV es xs → xs.map (·.1) = (es.map (·.1)).map .tup
  | _, _, .nil => rfl
  | _, _, .cons r t => by
    rw [List.map_cons, List.map_cons, List.map_cons, ev_keys t, r.1]
theorem nodup_tup : ∀ {l : List (List NestedKey)}, l.Nodup → (l.map NestedKey.tup).Nodup
  | [], _ => List.nodup_nil
  | k :: l, h => by
    rw [List.map_cons, List.nodup_cons]
    obtain ⟨h1, h2⟩ := List.nodup_cons.mp h
    refine ⟨fun hm => ?_, nodup_tup h2⟩
    obtain ⟨k', hk, e⟩ := List.mem_map.mp hm
    cases e
    exact h1 hk
theorem NkD.of {es : List Ent} (ok : HOk P w H h) (d : NkD P w H a es) : ∃ xs, EV es xs ∧ h.DictOfH (nestedKind P w) a xs := by
  obtain ⟨⟨xs, r, o, ds, ep, h1, h2, h3, h4⟩, _, _⟩ := (show ObjOk P w H h a (nkO P w a es) from ok a _ d.at_)
  refine ⟨xs, r, o, ds, ep, h1, h2, h3, h4, fun x hx => ?_, by rw [ev_keys r]; exact nodup_tup d.nd⟩
  have gen : ∀ {es : List Ent} {xs : List (NestedKey × Addr × Value)}, EV es xs → (∀ x ∈ es, KeyT H x.1 x.2.1) → ∀ x ∈ xs, (nestedKind P w).is h x.1 x.2.1 := by
    intro es xs r
    induction r with
    | nil => intro _ x hx; exact nomatch hx
    | @cons p q ps qs hq t ih =>
      intro hk x hx
      rcases List.mem_cons.mp hx with e | hx
      · subst e
        rw [hq.1, ← hq.2.1]
        exact (hk p List.mem_cons_self).is ok
      · exact ih (fun x hx => hk x (List.mem_cons_of_mem _ hx)) x hx
  exact gen r d.keys x hx
theorem ev_at {ks : List NestedKey} : ∀ {es : List Ent} {xs : List (NestedKey × Addr × Value)}, EV es xs → (atKey xs (.tup ks)).isSome = decide (ks ∈ es.map (·.1))
  | _, _, .nil => rfl
  | _, _, .cons (a := p) (b := q) r t => by
    unfold atKey
    rw [List.find?_cons]
    by_cases e : p.1 = ks
    · rw [show decide (q.1 = NestedKey.tup ks) = true from decide_eq_true (by rw [r.1, e])]
      rw [decide_eq_true (by rw [List.map_cons, e]; exact List.mem_cons_self)]
      rfl
    · rw [show decide (q.1 = NestedKey.tup ks) = false from decide_eq_false (fun z => e (by rw [r.1] at z; cases z; rfl))]
      have := ev_at t (ks := ks)
      unfold atKey at this
      show (Option.map _ (List.find? _ _)).isSome = _
      rw [this]
      refine decide_eq_decide.mpr ?_
      rw [List.map_cons, List.mem_cons]
      exact ⟨.inr, fun h => h.elim (fun z => absurd z.symm e) id⟩
theorem ev_snoc : ∀ {es : List Ent} {xs : List (NestedKey × Addr × Value)}, EV es xs → ∀ {x : V} {u : Value}, RelV x u → EV (es ++ [(ks, t, x)]) (xs ++ [(.tup ks, t, u)])
  | _, _, .nil, _, _, r => .cons ⟨rfl, rfl, r⟩ .nil
  | _, _, .cons q t, _, _, r => .cons q (ev_snoc t r)
theorem NkD.ex {H' : Hp} {es : List Ent} (d : NkD P w H a es) (e : Evl.Ex H H') : NkD P w H' a es := ⟨e _ _ d.at_, fun x hx => (d.keys x hx).mono fun b xs h => e _ _ h, d.nd, d.low, d.len⟩
end
section
variable {X : Cx}
theorem in1_room {A : Around} (h : A.units + 64 < cLine) : A.in1.units + 8 < cLine := by
  show A.units + 1 + 8 < cLine
  omega
def rInN (P : Program) (w : World) : R2 := fun x y H Q => ∃ t a es ks, x = .ref t ∧ y = .ref a ∧ NkD P w H a es ∧ KeyT H ks t ∧ Q (.bl (decide (ks ∈ es.map (·.1)))) H
theorem op_inN (hu : X.A.units + 64 < cLine) : OpR X (compareOp .In) (rInN X.prog X.w) := by
  intro pins s σ H x y v u Q I rx ry h
  obtain ⟨t, a, es, ks, rfl, rfl, d, k, q⟩ := h
  cases rx
  cases ry
  obtain ⟨xs, r, dd⟩ := d.of I.hok
  refine wpAny_in_heap (knd := nestedKind X.prog X.w) (k := .tup ks) (in1_room hu) (k.is I.hok) d.low dd ?_
  rw [ev_at r]
  exact ⟨.bl _, H, I.tok _, rfl, q⟩
/-- d[key] = v, the key new -/
def rSetN (P : Program) (w : World) : TSet := fun o i v H Q => ∃ t a es ks, o = .ref a ∧ i = .ref t ∧ NkD P w H a es ∧ KeyT H ks t ∧ ks ∉ es.map (·.1) ∧ es.length < 1000 ∧ Q (upd H a (nkO P w a (es ++ [(ks, t, v)])))
theorem set_dictN (hu : X.A.units + 64 < cLine) : PSet X (rSetN X.prog X.w) := by
  intro pins s σ H o i v ov iv u Q I ro ri rv h
  obtain ⟨t, a, es, ks, rfl, rfl, d, k, hn, hz, q⟩ := h
  cases ro
  cases ri
  obtain ⟨xs, r, dd⟩ := d.of I.hok
  have hl : xs.length ≤ sizeLine := by
    rw [← Paired.length r]
    exact Nat.le_trans d.len (by decide)
  have hnone : atKey xs (.tup ks) = none := by
    have := ev_at r (ks := ks)
    rw [decide_eq_false hn] at this
    cases z : atKey xs (.tup ks) with
    | none => rfl
    | some p => rw [z] at this; cases this
  refine wpAny_setItem_heap (knd := nestedKind X.prog X.w) (k := .tup ks) (hsz := hl) (in1_room hu) (k.is I.hok) dd fun h' dd' hs => ⟨_, ?_, q⟩
  rw [storedH_new hnone] at dd'
  obtain ⟨ob, ds, ep, h1, h2, h3, h4, _, _⟩ := dd'
  exact d_write I (by rw [d.at_]; exact True.intro) hs ⟨ob, h1⟩ (nk_obj (ev_snoc r rv) h1 h2 h3 h4)
/-- {} -/
def tDNewN (P : Program) (w : World) : TE := fun _ H Q => ∀ p, H p = none → (p == sysModules) = false → Q (.ref p) (upd H p (nkO P w p []))
theorem pe_dnewN {pos : Pos} : PE X (.Dict [] [] pos) (tDNewN X.prog X.w) := ⟨fun pins s σ H Q I h =>
  wpAny_Dict_empty ⟨.ref s.heap.objs.size, _, I.laid (a := s.heap.objs.size) (o := nkO X.prog X.w s.heap.objs.size []) (t' := s.toks) (fun _ _ q => Heap.get?_push_of_some _ q) (Nat.le_refl _)
    (nk_obj (ds := #[]) (ep := 0) .nil (Heap.get?_push_size _ rfl) ⟨rfl, rfl, rfl⟩ rfl rfl), rfl, h _ (I.hok.fresh (Nat.le_refl _)) (beq_eq_false_iff_ne.mpr (Ne.symm (Nat.ne_of_lt I.big)))⟩⟩
theorem i_dnewN {P : Program} {w : World} {σ : L2.St} {H : Hp} {Q : VK} (q : ∀ p, H p = none → (p == sysModules) = false → Q (.ref p) (upd H p (nkO P w p []))) : tDNewN P w σ H Q := q
theorem i_inN {P : Program} {w : World} {t a : Addr} {es : List Ent} {ks : List NestedKey} {H : Hp} {Q : VK} (d : NkD P w H a es) (k : KeyT H ks t) (q : Q (.bl (decide (ks ∈ es.map (·.1)))) H) : rInN P w (.ref t) (.ref a) H Q := ⟨t, a, es, ks, rfl, rfl, d, k, q⟩
theorem i_setN {P : Program} {w : World} {t a : Addr} {es : List Ent} {ks : List NestedKey} {v : V} {H : Hp} {Q : Hp → Prop} (d : NkD P w H a es) (k : KeyT H ks t) (hn : ks ∉ es.map (·.1)) (hz : es.length < 1000) (q : Q (upd H a (nkO P w a (es ++ [(ks, t, v)])))) : rSetN P w (.ref a) (.ref t) v H Q := ⟨t, a, es, ks, rfl, rfl, d, k, hn, hz, q⟩
end
end Nk

/-! Readings over data: what a value stands for, without the heap (own). -/
namespace Da
open PySem PySem.Spec PyProof.Rows L2 Evl Hd
/-- a tuple that is a key -/
def KeyS (K : PySem.W.Frag) (H : Hp) (ks : List NestedKey) (t : Addr) : Prop := ∃ vs, SqT K H t vs ∧ Paired Nk.Sc vs ks
/-- the entries of a dict whose keys are tuples -/
structure NkR (K : PySem.W.Frag) (Hv : Hp) (xs : List Nk.Ent) (es : List (List NestedKey × Int)) : Prop where
  pair : Paired (fun (x : Nk.Ent) (e : List NestedKey × Int) => x.1 = e.1 ∧ x.2.2 = .int e.2) xs es
  keys : ∀ x ∈ xs, KeyS K Hv x.1 x.2.1
  nd : (es.map (·.1)).Nodup
  len : es.length ≤ 1000
theorem KeyS.mono {K : PySem.W.Frag} {H H' : Hp} {ks : List NestedKey} {t : Addr} (e : Ex H H') (h : KeyS K H ks t) : KeyS K H' ks t := let ⟨vs, h1, h2⟩ := h; ⟨vs, ex_t e h1, h2⟩
theorem NkR.mono {K : PySem.W.Frag} {H H' : Hp} {xs : List Nk.Ent} {es : List (List NestedKey × Int)} (e : Ex H H') (h : NkR K H xs es) : NkR K H' xs es := ⟨h.pair, fun x hx => (h.keys x hx).mono e, h.nd, h.len⟩
inductive D where
  | non
  | bl (b : Bool)
  | int (i : Int)
  | str (x : Str)
  | tup (ds : List D)
  | lst (ds : List D)
  | dct (kvs : List (Key × D))
  | obj (C : Addr) (fs : List (Str × D))
  | val (v : V)
  | loc (a : Addr) (h : Nat)
  | lck (ns : List Int)
  | nkd (P : Program) (w : World) (es : List (List NestedKey × Int))
mutual
inductive Rep (K : PySem.W.Frag) (H : Hp) : V → D → Prop
  | non : Rep K H .non .non
  | bl {b : Bool} : Rep K H (.bl b) (.bl b)
  | int {i : Int} : Rep K H (.int i) (.int i)
  | str {x : Str} : Rep K H (.str x) (.str x)
  | tup {a : Addr} {xs : List V} {ds : List D} : SqT K H a xs → RepL K H xs ds → ds.length ≤ sizeLine → Rep K H (.ref a) (.tup ds)
  | lst {a : Addr} {xs : List V} {ds : List D} : H a = some (.lst xs) → RepL K H xs ds → ds.length ≤ sizeLine → Rep K H (.ref a) (.lst ds)
  | dct {a : Addr} {ks : List (Key × V)} {kvs : List (Key × D)} : H a = some (.dK ks) → RepK K H ks kvs → kvs.length ≤ sizeLine → Rep K H (.ref a) (.dct kvs)
  | obj {a C dx : Addr} {fs : List (Str × V)} {gs : List (Str × D)} : H a = some (.ins C dx fs) → RepF K H fs gs → Rep K H (.ref a) (.obj C gs)
  | val {v : V} : Rep K H v (.val v)
  | loc {a : Addr} {h : Nat} : Rep K H (.ref a) (.loc a h)
  | lck {a : Addr} {ns : List Int} : SqL K H a (ns.map V.int) → Rep K H (.ref a) (.lck ns)
  | nkd {P : Program} {w : World} {a : Addr} {xs : List Nk.Ent} {es : List (List NestedKey × Int)} : H a = some (Nk.nkO P w a xs) → NkR K H xs es → (a == sysModules) = false → Rep K H (.ref a) (.nkd P w es)
inductive RepL (K : PySem.W.Frag) (H : Hp) : List V → List D → Prop
  | nil : RepL K H [] []
  | cons {v : V} {d : D} {vs : List V} {ds : List D} : Rep K H v d → RepL K H vs ds → RepL K H (v :: vs) (d :: ds)
inductive RepK (K : PySem.W.Frag) (H : Hp) : List (Key × V) → List (Key × D) → Prop
  | nil : RepK K H [] []
  | cons {k : Key} {v : V} {d : D} {vs : List (Key × V)} {ds : List (Key × D)} : Rep K H v d → RepK K H vs ds → RepK K H ((k, v) :: vs) ((k, d) :: ds)
inductive RepF (K : PySem.W.Frag) (H : Hp) : List (Str × V) → List (Str × D) → Prop
  | nil : RepF K H [] []
  | cons {k : Str} {v : V} {d : D} {vs : List (Str × V)} {ds : List (Str × D)} : Rep K H v d → RepF K H vs ds → RepF K H ((k, v) :: vs) ((k, d) :: ds)
end
def lookK : List (Key × D) → Key → Option D
  | [], _ => none
  | (k', d) :: r, k => if k' = k then some d else lookK r k
section
variable {K : PySem.W.Frag} {H H' : Hp}
mutual
theorem Rep.mono (e : Ex H H') : ∀ {v : V} {d : D}, Rep K H v d → Rep K H' v d
  | _, _, .non => .non
  | _, _, .bl => .bl
  | _, _, .int => .int
  | _, _, .str => .str
  | _, _, .tup h r n => .tup (ex_t e h) (RepL.mono e r) n
  | _, _, .lst h r n => .lst (e _ _ h) (RepL.mono e r) n
  | _, _, .dct h r n => .dct (e _ _ h) (RepK.mono e r) n
  | _, _, .obj h r => .obj (e _ _ h) (RepF.mono e r)
  | _, _, .val => .val
  | _, _, .loc => .loc
  | _, _, .lck h => .lck (ex_l e h)
  | _, _, .nkd h r l => .nkd (e _ _ h) (r.mono e) l
theorem RepL.mono (e : Ex H H') : ∀ {vs : List V} {ds : List D}, RepL K H vs ds → RepL K H' vs ds
  | _, _, .nil => .nil
  | _, _, .cons h r => .cons (Rep.mono e h) (RepL.mono e r)
theorem RepK.mono (e : Ex H H') : ∀ {vs : List (Key × V)} {ds : List (Key × D)}, RepK K H vs ds → RepK K H' vs ds
  | _, _, .nil => .nil
  | _, _, .cons h r => .cons (Rep.mono e h) (RepK.mono e r)
theorem RepF.mono (e : Ex H H') : ∀ {vs : List (Str × V)} {ds : List (Str × D)}, RepF K H vs ds → RepF K H' vs ds
  | _, _, .nil => .nil
  | _, _, .cons h r => .cons (Rep.mono e h) (RepF.mono e r)
end
theorem RepL.len : ∀ {vs : List V} {ds : List D}, RepL K H vs ds → vs.length = ds.length
  | _, _, .nil => rfl
  | _, _, .cons _ r => congrArg (· + 1) (RepL.len r)
theorem RepK.len : ∀ {vs : List (Key × V)} {ds : List (Key × D)}, RepK K H vs ds → vs.length = ds.length
  | _, _, .nil => rfl
  | _, _, .cons _ r => congrArg (· + 1) (RepK.len r)
theorem RepL.app : ∀ {vs ws : List V} {ds es : List D}, RepL K H vs ds → RepL K H ws es → RepL K H (vs ++ ws) (ds ++ es)
  | _, _, _, _, .nil, s => s
  | _, _, _, _, .cons h r, s => .cons h (RepL.app r s)
theorem RepL.get : ∀ {vs : List V} {ds : List D}, RepL K H vs ds → ∀ {i : Nat} {d : D}, ds[i]? = some d → ∃ v, vs[i]? = some v ∧ Rep K H v d
  | _, _, .nil, i, d, h => by simp at h
  | _, _, .cons h r, 0, d, e => by cases e; exact ⟨_, rfl, h⟩
  | _, _, .cons h r, i + 1, d, e => RepL.get r (i := i) (by simpa using e)
theorem RepL.get' : ∀ {vs : List V} {ds : List D}, RepL K H vs ds → ∀ {i : Nat} {v : V}, vs[i]? = some v → ∃ d, ds[i]? = some d ∧ Rep K H v d
  | _, _, .nil, i, d, h => by simp at h
  | _, _, .cons h r, 0, d, e => by cases e; exact ⟨_, rfl, h⟩
  | _, _, .cons h r, i + 1, d, e => RepL.get' r (i := i) (by simpa using e)
theorem RepL.set : ∀ {vs : List V} {ds : List D}, RepL K H vs ds → ∀ {i : Nat} {v : V} {d : D}, Rep K H v d → RepL K H (vs.set i v) (ds.set i d)
  | _, _, .nil, _, _, _, _ => .nil
  | _, _, .cons _ r, 0, _, _, q => .cons q r
  | _, _, .cons h r, _ + 1, _, _, q => .cons h (RepL.set r q)
theorem RepL.take : ∀ {vs : List V} {ds : List D} (n : Nat), RepL K H vs ds → RepL K H (vs.take n) (ds.take n)
  | _, _, 0, _ => by simp only [List.take_zero]; exact .nil
  | _, _, _ + 1, .nil => .nil
  | _, _, n + 1, .cons h r => .cons h (RepL.take n r)
theorem RepL.drop : ∀ {vs : List V} {ds : List D} (n : Nat), RepL K H vs ds → RepL K H (vs.drop n) (ds.drop n)
  | _, _, 0, r => r
  | _, _, _ + 1, .nil => .nil
  | _, _, n + 1, .cons _ r => RepL.drop n r
theorem RepL.rep {vs : List V} {ds : List D} (r : RepL K H vs ds) : ∀ k : Nat, RepL K H (List.replicate k vs).flatten (List.replicate k ds).flatten
  | 0 => .nil
  | k + 1 => by
    rw [List.replicate_succ, List.replicate_succ, List.flatten_cons, List.flatten_cons]
    exact r.app (RepL.rep r k)
theorem RepL.rev : ∀ {vs : List V} {ds : List D}, RepL K H vs ds → RepL K H vs.reverse ds.reverse
  | _, _, .nil => .nil
  | _, _, .cons h r => by
    rw [List.reverse_cons, List.reverse_cons]
    exact (RepL.rev r).app (.cons h .nil)
theorem RepL.dropLast : ∀ {vs : List V} {ds : List D}, RepL K H vs ds → RepL K H vs.dropLast ds.dropLast := fun {vs ds} r => by
  rw [List.dropLast_eq_take, List.dropLast_eq_take, r.len]
  exact r.take _
theorem RepL.ints : ∀ {ns : List Int}, RepL K H (ns.map V.int) (ns.map D.int)
  | [] => .nil
  | _ :: _ => .cons .int RepL.ints
theorem RepL.of_ints : ∀ {vs : List V} {ns : List Int}, RepL K H vs (ns.map D.int) → vs = ns.map V.int
  | _, [], .nil => rfl
  | _, _ :: _, .cons .int r => by rw [List.map_cons, RepL.of_ints r]
theorem RepL.of_strs : ∀ {vs : List V} {ns : List Str}, RepL K H vs (ns.map D.str) → vs = ns.map V.str
  | _, [], .nil => rfl
  | _, _ :: _, .cons .str r => by rw [List.map_cons, RepL.of_strs r]
theorem RepL.of_bls : ∀ {vs : List V} {ns : List Bool}, RepL K H vs (ns.map D.bl) → vs = ns.map V.bl
  | _, [], .nil => rfl
  | _, _ :: _, .cons .bl r => by rw [List.map_cons, RepL.of_bls r]
theorem RepK.val : ∀ {vs : List (Key × V)} {ds : List (Key × D)}, RepK K H vs ds → ∀ {k : Key} {d : D}, lookK ds k = some d → ∃ v, valV vs k = some v ∧ Rep K H v d := by
  intro vs ds r
  induction vs generalizing ds with
  | nil => intro k d h; cases r; cases h
  | cons x xs ih =>
    intro k d h
    cases r with
    | @cons k' v d' _ ds' h1 r =>
      unfold lookK at h
      by_cases e : k' = k
      · rw [if_pos e] at h
        cases h
        exact ⟨v, by unfold valV; simp [e], h1⟩
      · rw [if_neg e] at h
        obtain ⟨v', e1, e2⟩ := ih r h
        refine ⟨v', ?_, e2⟩
        rw [← e1]
        unfold valV
        rw [List.find?_cons]
        simp only [decide_eq_false e]
theorem RepK.val_none : ∀ {vs : List (Key × V)} {ds : List (Key × D)}, RepK K H vs ds → ∀ {k : Key}, lookK ds k = none → valV vs k = none := by
  intro vs ds r
  induction vs generalizing ds with
  | nil => intro k h; rfl
  | cons x xs ih =>
    intro k h
    cases r with
    | @cons k' v d' _ ds' h1 r =>
      unfold lookK at h
      by_cases e : k' = k
      · rw [if_pos e] at h
        cases h
      · rw [if_neg e] at h
        rw [← ih r h]
        unfold valV
        rw [List.find?_cons]
        simp only [decide_eq_false e]
theorem RepF.look : ∀ {vs : List (Str × V)} {ds : List (Str × D)}, RepF K H vs ds → ∀ {k : Str} {d : D}, ds.lookup k = some d → ∃ v, vs.lookup k = some v ∧ Rep K H v d := by
  intro vs ds r
  induction vs generalizing ds with
  | nil => intro k d h; cases r; cases h
  | cons x xs ih =>
    intro k d h
    cases r with
    | @cons k' v d' _ ds' h1 r =>
      rw [List.lookup_cons] at h ⊢
      cases e : (k == k') with
      | true =>
        rw [e] at h
        cases h
        exact ⟨v, rfl, h1⟩
      | false =>
        rw [e] at h
        exact ih r h
theorem RepF.look_none : ∀ {vs : List (Str × V)} {ds : List (Str × D)}, RepF K H vs ds → ∀ {k : Str}, ds.lookup k = none → vs.lookup k = none := by
  intro vs ds r
  induction vs generalizing ds with
  | nil => intro k h; rfl
  | cons x xs ih =>
    intro k h
    cases r with
    | @cons k' v d' _ ds' h1 r =>
      rw [List.lookup_cons] at h ⊢
      cases e : (k == k') with
      | true =>
        rw [e] at h
        cases h
      | false =>
        rw [e] at h
        exact ih r h
end
end Da

/-! The state: what a def itself may still change, what is hidden, how many draws were made (own). -/
namespace Da
open PySem PySem.Spec PyProof.Rows L2 Evl Hd
/-- what may be changed -/
inductive MO where
  | lst (ds : List D)
  | dct (kvs : List (Key × D))
  | obj (C : Addr) (fs : List (Str × D))
  | nk (P : Program) (w : World) (es : List (List NestedKey × Int))
structure Ent where
  h : Nat
  a : Addr
  o : MO
  fz : Bool
structure S where
  M : List Ent
  n : Nat
  pn : Option (Addr × Addr)
def mget : List Ent → Nat → Option Ent
  | [], _ => none
  | e :: r, h => match Nat.beq e.h h with
    | true => some e
    | false => mget r h
def mset : List Ent → Nat → MO → List Ent
  | [], _, _ => []
  | e :: r, h, o => match Nat.beq e.h h with
    | true => ⟨e.h, e.a, o, e.fz⟩ :: r
    | false => e :: mset r h o
def mfrz : List Ent → Nat → List Ent
  | [], _ => []
  | e :: r, h => match Nat.beq e.h h with
    | true => ⟨e.h, e.a, e.o, true⟩ :: r
    | false => e :: mfrz r h
def mdel : List Ent → Nat → List Ent
  | [], _ => []
  | e :: r, h => match Nat.beq e.h h with
    | true => r
    | false => e :: mdel r h
def S.hidM (s : S) (a : Addr) : Bool := s.M.any fun e => !e.fz && e.a == a
def S.hidP (s : S) (a : Addr) : Bool := match s.pn with
  | none => false
  | some (p, q) => a == p || a == q
abbrev Fr := Addr → Bool
def S.hid (s : S) (F : Fr) (a : Addr) : Bool := F a || s.hidM a || s.hidP a
def vis (F : Fr) (s : S) (H : Hp) : Hp := fun a => if s.hid F a = true then none else H a
theorem vis_iff {F : Fr} {s : S} {H : Hp} {a : Addr} {o : HO} : vis F s H a = some o ↔ s.hid F a = false ∧ H a = some o := by
  unfold vis
  cases s.hid F a
  · rw [if_neg Bool.false_ne_true]
    exact ⟨fun h => ⟨rfl, h⟩, fun h => h.2⟩
  · rw [if_pos rfl]
    exact ⟨fun h => (by cases h), fun h => (by cases h.1)⟩
theorem vis_ex {F : Fr} {s : S} {H : Hp} : Ex (vis F s H) H := fun _ _ h => (vis_iff.mp h).2
def RepO (K : PySem.W.Frag) (Hv H : Hp) (a : Addr) : MO → Prop
  | .lst ds => ∃ xs, H a = some (.lst xs) ∧ RepL K Hv xs ds ∧ ds.length ≤ sizeLine
  | .dct kvs => ∃ ks, H a = some (.dK ks) ∧ RepK K Hv ks kvs ∧ kvs.length ≤ sizeLine
  | .obj C fs => ∃ dx vs, H a = some (.ins C dx vs) ∧ RepF K Hv vs fs
  | .nk P w es => ∃ xs, H a = some (Nk.nkO P w a xs) ∧ NkR K Hv xs es ∧ (a == sysModules) = false
theorem RepO.mono {K : PySem.W.Frag} {Hv Hv' H H' : Hp} {a : Addr} (e : Ex Hv Hv') (h : H' a = H a) : ∀ {o : MO}, RepO K Hv H a o → RepO K Hv' H' a o
  | .lst _, ⟨xs, h1, h2, h3⟩ => ⟨xs, h.trans h1, h2.mono e, h3⟩
  | .dct _, ⟨xs, h1, h2, h3⟩ => ⟨xs, h.trans h1, h2.mono e, h3⟩
  | .obj _ _, ⟨dx, xs, h1, h2⟩ => ⟨dx, xs, h.trans h1, h2.mono e⟩
  | .nk _ _ _, ⟨xs, h1, h2, h3⟩ => ⟨xs, h.trans h1, h2.mono e, h3⟩
theorem RepO.some {K : PySem.W.Frag} {Hv H : Hp} {a : Addr} : ∀ {o : MO}, RepO K Hv H a o → H a ≠ none
  | .lst _, ⟨_, h, _⟩ => by rw [h]; exact fun z => nomatch z
  | .dct _, ⟨_, h, _⟩ => by rw [h]; exact fun z => nomatch z
  | .obj _ _, ⟨_, _, h, _⟩ => by rw [h]; exact fun z => nomatch z
  | .nk _ _ _, ⟨_, h, _⟩ => by rw [h]; exact fun z => nomatch z
structure OkS (K : PySem.W.Frag) (F : Fr) (s : S) (H : Hp) : Prop where
  ents : ∀ e ∈ s.M, RepO K (vis F s H) H e.a e.o
  nd : (s.M.map (·.a)).Nodup
  pen : ∀ p q, s.pn = some (p, q) → (∃ z, Pen H p q z ∧ z ≤ s.n) ∧ ∀ e ∈ s.M, e.a ≠ p ∧ e.a ≠ q
  fr : ∀ a, F a = true → H a ≠ none
  frM : ∀ e ∈ s.M, F e.a = false
  frP : ∀ p q, s.pn = some (p, q) → F p = false ∧ F q = false
/-- one state behind another: what was seen is seen, what belongs to the callers is as it was -/
structure Tr (F : Fr) (s : S) (H : Hp) (s' : S) (H' : Hp) : Prop where
  ex : Ex (vis F s H) (vis F s' H')
  fr : ∀ a, F a = true → H' a = H a
  pn : s'.pn = s.pn
theorem Tr.refl {F : Fr} {s : S} {H : Hp} : Tr F s H s H := ⟨Ex.refl _, fun _ _ => rfl, rfl⟩
theorem Tr.trans {F : Fr} {s s1 s2 : S} {H H1 H2 : Hp} (a : Tr F s H s1 H1) (b : Tr F s1 H1 s2 H2) : Tr F s H s2 H2 :=
  ⟨a.ex.trans b.ex, fun c h => (b.fr c h).trans (a.fr c h), b.pn.trans a.pn⟩
theorem mget_mem : ∀ {M : List Ent} {h : Nat} {e : Ent}, mget M h = some e → e ∈ M ∧ e.h = h
  | [], h, e, q => by cases q
  | x :: r, h, e, q => by
    unfold mget at q
    split at q
    · rename_i hb
      cases q
      exact ⟨List.mem_cons_self, Nat.eq_of_beq_eq_true hb⟩
    · obtain ⟨h1, h2⟩ := mget_mem (M := r) q
      exact ⟨List.mem_cons_of_mem _ h1, h2⟩
/-- nothing that is new is hidden -/
theorem OkS.new_hid {K : PySem.W.Frag} {F : Fr} {s : S} {H : Hp} (h : OkS K F s H) {p : Addr} (n : H p = none) : s.hid F p = false := by
  unfold S.hid
  have h1 : F p = false := by
    cases e : F p with
    | false => rfl
    | true => exact absurd n (h.fr p e)
  have h2 : s.hidM p = false := by
    unfold S.hidM
    rw [List.any_eq_false]
    intro e he
    have : e.a ≠ p := fun z => (h.ents e he).some (by rw [z]; exact n)
    simp [this]
  have h3 : s.hidP p = false := by
    unfold S.hidP
    cases e : s.pn with
    | none => rfl
    | some pq =>
      obtain ⟨a, b⟩ := pq
      obtain ⟨⟨z, ⟨_, ns, h4, h5, _⟩, _⟩, _⟩ := h.pen a b e
      have n1 : p ≠ a := fun z => by rw [z, h4] at n; cases n
      have n2 : p ≠ b := fun z => by rw [z, h5] at n; cases n
      simp [n1, n2]
  rw [h1, h2, h3]
  rfl
theorem OkS.pen_upd {K : PySem.W.Frag} {F : Fr} {s : S} {H : Hp} (h : OkS K F s H) {p q a : Addr} {z : Int} {o : HO} (hp : Pen H p q z) (n1 : a ≠ p) (n2 : a ≠ q) : Pen (upd H a o) p q z :=
  hp.at (fun u e => by rw [upd_ne (Ne.symm n1)]; exact e) (fun u e => by rw [upd_ne (Ne.symm n2)]; exact e)
/-- a new object that is never changed again -/
theorem OkS.new {K : PySem.W.Frag} {F : Fr} {s : S} {H : Hp} (h : OkS K F s H) {p : Addr} {o : HO} (n : H p = none) : OkS K F s (upd H p o) ∧ Tr F s H s (upd H p o) ∧ vis F s (upd H p o) p = some o := by
  have hh := h.new_hid n
  have ex : Ex (vis F s H) (vis F s (upd H p o)) := fun a u e => by
    obtain ⟨h1, h2⟩ := vis_iff.mp e
    exact vis_iff.mpr ⟨h1, Ex.new n _ _ h2⟩
  have ne : ∀ a, H a ≠ none → a ≠ p := fun a ha z => ha (by rw [z]; exact n)
  refine ⟨⟨fun e he => (h.ents e he).mono ex (upd_ne (ne _ (h.ents e he).some)), h.nd, fun a b e => ?_, fun a ha => by rw [upd_ne (ne _ (h.fr a ha))]; exact h.fr a ha, h.frM, h.frP⟩, ⟨ex, fun a ha => upd_ne (ne _ (h.fr a ha)), rfl⟩, vis_iff.mpr ⟨hh, upd_same⟩⟩
  obtain ⟨⟨z, hz, hzn⟩, hm⟩ := h.pen a b e
  have hz2 := hz
  obtain ⟨_, ns, h4, h5, _⟩ := hz2
  exact ⟨⟨z, h.pen_upd hz (Ne.symm (ne a (by rw [h4]; exact fun z => nomatch z))) (Ne.symm (ne b (by rw [h5]; exact fun z => nomatch z))), hzn⟩, hm⟩
theorem mdel_sub : ∀ {M : List Ent} {h : Nat} {e : Ent}, e ∈ mdel M h → e ∈ M
  | [], h, e, q => by cases q
  | x :: r, h, e, q => by
    unfold mdel at q
    split at q
    · exact List.mem_cons_of_mem _ q
    · rcases List.mem_cons.mp q with q | q
      · rw [q]; exact List.mem_cons_self
      · exact List.mem_cons_of_mem _ (mdel_sub q)
theorem mdel_nd : ∀ {M : List Ent} {h : Nat}, (M.map (·.a)).Nodup → ((mdel M h).map (·.a)).Nodup
  | [], _, _ => List.nodup_nil
  | x :: r, h, q => by
    rw [List.map_cons, List.nodup_cons] at q
    unfold mdel
    split
    · exact q.2
    · rw [List.map_cons, List.nodup_cons]
      refine ⟨fun z => ?_, mdel_nd q.2⟩
      obtain ⟨e, he, ee⟩ := List.mem_map.mp z
      exact q.1 (List.mem_map.mpr ⟨e, mdel_sub he, ee⟩)
/-- a handle is forgotten: its object is seen from now on -/
def S.drop (s : S) (h : Nat) : S := { s with M := mdel s.M h }
theorem hid_sub {F : Fr} {s s' : S} (hM : ∀ e ∈ s'.M, e.fz = false → ∃ e' ∈ s.M, e'.a = e.a ∧ e'.fz = false) (hP : s'.pn = s.pn) {a : Addr} (h : s.hid F a = false) : s'.hid F a = false := by
  unfold S.hid at h ⊢
  simp only [Bool.or_eq_false_iff] at h ⊢
  obtain ⟨⟨h1, h2⟩, h3⟩ := h
  refine ⟨⟨h1, ?_⟩, by unfold S.hidP at h3 ⊢; rw [hP]; exact h3⟩
  unfold S.hidM at h2 ⊢
  rw [List.any_eq_false] at h2 ⊢
  intro e he hx
  rw [Bool.and_eq_true, Bool.not_eq_true', beq_iff_eq] at hx
  obtain ⟨e', m', ea, ef⟩ := hM e he hx.1
  refine h2 e' m' ?_
  rw [Bool.and_eq_true, Bool.not_eq_true', beq_iff_eq]
  exact ⟨ef, by rw [ea]; exact hx.2⟩
theorem OkS.less {K : PySem.W.Frag} {F : Fr} {s s' : S} {H : Hp} (h : OkS K F s H) (hM : ∀ e ∈ s'.M, ∃ e' ∈ s.M, e'.a = e.a ∧ e'.o = e.o ∧ (e.fz = false → e'.fz = false)) (hnd : (s'.M.map (·.a)).Nodup) (hP : s'.pn = s.pn) (hn : s.n ≤ s'.n) : OkS K F s' H ∧ Tr F s H s' H := by
  have ex : Ex (vis F s H) (vis F s' H) := fun a u e => by
    obtain ⟨h1, h2⟩ := vis_iff.mp e
    exact vis_iff.mpr ⟨hid_sub (fun e he hf => let ⟨e', m, q1, _, q3⟩ := hM e he; ⟨e', m, q1, q3 hf⟩) hP h1, h2⟩
  refine ⟨⟨fun e he => ?_, hnd, fun p q e => ?_, h.fr, fun e he => ?_, fun p q e => h.frP p q (by rw [← hP]; exact e)⟩, ⟨ex, fun _ _ => rfl, hP⟩⟩
  · obtain ⟨e', m, q1, q2, _⟩ := hM e he
    have := h.ents e' m
    rw [q1, q2] at this
    exact this.mono ex rfl
  · obtain ⟨⟨z, h1, h2⟩, h3⟩ := h.pen p q (by rw [← hP]; exact e)
    refine ⟨⟨z, h1, Int.le_trans h2 (by exact_mod_cast hn)⟩, fun e he => ?_⟩
    obtain ⟨e', m, q1, _⟩ := hM e he
    rw [← q1]
    exact h3 e' m
  · obtain ⟨e', m, q1, _⟩ := hM e he
    rw [← q1]
    exact h.frM e' m
theorem OkS.drop {K : PySem.W.Frag} {F : Fr} {s : S} {H : Hp} (h : OkS K F s H) (k : Nat) : OkS K F (s.drop k) H ∧ Tr F s H (s.drop k) H :=
  h.less (fun e he => ⟨e, mdel_sub he, rfl, rfl, id⟩) (mdel_nd h.nd) rfl (Nat.le_refl _)
theorem mfrz_mem : ∀ {M : List Ent} {h : Nat} {e : Ent}, e ∈ mfrz M h → ∃ e' ∈ M, e'.a = e.a ∧ e'.o = e.o ∧ (e.fz = false → e'.fz = false)
  | [], h, e, q => by cases q
  | x :: r, h, e, q => by
    unfold mfrz at q
    split at q
    · rcases List.mem_cons.mp q with q | q
      · exact ⟨x, List.mem_cons_self, by rw [q], by rw [q], fun z => by rw [q] at z; cases z⟩
      · exact ⟨e, List.mem_cons_of_mem _ q, rfl, rfl, id⟩
    · rcases List.mem_cons.mp q with q | q
      · exact ⟨x, List.mem_cons_self, by rw [q], by rw [q], fun z => by rw [q] at z; exact z⟩
      · obtain ⟨e', m, q⟩ := mfrz_mem q
        exact ⟨e', List.mem_cons_of_mem _ m, q⟩
theorem mfrz_map : ∀ {M : List Ent} {h : Nat}, (mfrz M h).map (·.a) = M.map (·.a)
  | [], _ => rfl
  | x :: r, h => by
    unfold mfrz
    split
    · rfl
    · rw [List.map_cons, List.map_cons, mfrz_map]
def S.frz (s : S) (h : Nat) : S := { s with M := mfrz s.M h }
theorem OkS.frz {K : PySem.W.Frag} {F : Fr} {s : S} {H : Hp} (h : OkS K F s H) (k : Nat) : OkS K F (s.frz k) H ∧ Tr F s H (s.frz k) H :=
  h.less (fun e he => mfrz_mem he) (by show ((mfrz s.M k).map (·.a)).Nodup; rw [mfrz_map]; exact h.nd) rfl (Nat.le_refl _)
def S.at (s : S) (n : Nat) : S := { s with n := n }
theorem OkS.up {K : PySem.W.Frag} {F : Fr} {s : S} {H : Hp} (h : OkS K F s H) {n : Nat} (hn : s.n ≤ n) : OkS K F (s.at n) H ∧ Tr F s H (s.at n) H :=
  h.less (fun e he => ⟨e, he, rfl, rfl, id⟩) h.nd rfl hn
theorem any_frz {e : Ent} : ∀ {M : List Ent} {h : Nat}, (M.map (·.a)).Nodup → mget M h = some e → ((mfrz M h).any fun x => !x.fz && x.a == e.a) = false
  | [], h, nd, hg => by cases hg
  | x :: r, h, nd, hg => by
    rw [List.map_cons, List.nodup_cons] at nd
    unfold mget at hg
    unfold mfrz
    cases hb : Nat.beq x.h h with
    | true =>
      rw [hb] at hg
      cases hg
      show ((⟨e.h, e.a, e.o, true⟩ :: r).any fun x => !x.fz && x.a == e.a) = false
      rw [List.any_cons]
      show ((!true && e.a == e.a) || r.any fun x => !x.fz && x.a == e.a) = false
      rw [Bool.not_true, Bool.false_and, Bool.false_or, List.any_eq_false]
      intro e' he' hx
      rw [Bool.and_eq_true, beq_iff_eq] at hx
      exact nd.1 (List.mem_map.mpr ⟨e', he', hx.2⟩)
    | false =>
      rw [hb] at hg
      show ((x :: mfrz r h).any fun x => !x.fz && x.a == e.a) = false
      rw [List.any_cons]
      have hne : (x.a == e.a) = false := beq_eq_false_iff_ne.mpr fun z => nd.1 (List.mem_map.mpr ⟨e, (mget_mem hg).1, z.symm⟩)
      rw [hne, Bool.and_false, Bool.false_or]
      exact any_frz nd.2 hg
/-- frozen: it is seen -/
theorem OkS.frz_vis {K : PySem.W.Frag} {F : Fr} {s : S} {H : Hp} (h : OkS K F s H) {k : Nat} {e : Ent} (hg : mget s.M k = some e) {o : HO} (ho : H e.a = some o) : vis F (s.frz k) H e.a = some o := by
  obtain ⟨hm, _⟩ := mget_mem hg
  refine vis_iff.mpr ⟨?_, ho⟩
  unfold S.hid
  have h1 : F e.a = false := h.frM e hm
  have h2 : (s.frz k).hidM e.a = false := any_frz h.nd hg
  have h3 : (s.frz k).hidP e.a = false := by
    unfold S.hidP
    show (match s.pn with | none => false | some (p, q) => e.a == p || e.a == q) = false
    cases e2 : s.pn with
    | none => rfl
    | some pq =>
      obtain ⟨p, q⟩ := pq
      obtain ⟨h3, h4⟩ := (h.pen p q e2).2 e hm
      simp [h3, h4]
  rw [h1, h2, h3]
  rfl
/-- a new object that may be changed -/
def S.own (s : S) (h : Nat) (a : Addr) (o : MO) : S := { s with M := ⟨h, a, o, false⟩ :: s.M }
theorem OkS.own {K : PySem.W.Frag} {F : Fr} {s : S} {H : Hp} (h : OkS K F s H) {k : Nat} {p : Addr} {o : HO} {m : MO} (n : H p = none) (hr : ∀ Hv, Ex (vis F s H) Hv → RepO K Hv (upd H p o) p m) : OkS K F (s.own k p m) (upd H p o) ∧ Tr F s H (s.own k p m) (upd H p o) := by
  have hh := h.new_hid n
  have ne : ∀ a, H a ≠ none → a ≠ p := fun a ha z => ha (by rw [z]; exact n)
  have ex : Ex (vis F s H) (vis F (s.own k p m) (upd H p o)) := fun a u e => by
    obtain ⟨h1, h2⟩ := vis_iff.mp e
    refine vis_iff.mpr ⟨?_, Ex.new n _ _ h2⟩
    unfold S.hid at h1 ⊢
    simp only [Bool.or_eq_false_iff] at h1 ⊢
    refine ⟨⟨h1.1.1, ?_⟩, h1.2⟩
    show (List.any (⟨k, p, m, false⟩ :: s.M) fun e => !e.fz && e.a == a) = false
    rw [List.any_cons]
    have hpa : (p == a) = false := by
      rw [beq_eq_false_iff_ne]
      exact fun z => ne a (by rw [h2]; exact fun z => nomatch z) z.symm
    show (!false && (p == a) || s.M.any fun e => !e.fz && e.a == a) = false
    rw [hpa]
    exact h1.1.2
  refine ⟨⟨fun e he => ?_, ?_, fun a b e => ?_, fun a ha => by rw [upd_ne (ne _ (h.fr a ha))]; exact h.fr a ha, fun e he => ?_, h.frP⟩, ⟨ex, fun a ha => upd_ne (ne _ (h.fr a ha)), rfl⟩⟩
  · rcases List.mem_cons.mp he with he | he
    · rw [he]
      exact hr _ ex
    · exact (h.ents e he).mono ex (upd_ne (ne _ (h.ents e he).some))
  · show ((⟨k, p, m, false⟩ :: s.M : List Ent).map (·.a)).Nodup
    rw [List.map_cons, List.nodup_cons]
    refine ⟨fun z => ?_, h.nd⟩
    obtain ⟨e, he, ee⟩ := List.mem_map.mp z
    exact (h.ents e he).some (by rw [ee]; exact n)
  · obtain ⟨⟨z, hz, hzn⟩, hm⟩ := h.pen a b e
    have hz2 := hz
    obtain ⟨_, ns, h4, h5, _⟩ := hz2
    have np := ne a (by rw [h4]; exact fun z => nomatch z)
    have nq := ne b (by rw [h5]; exact fun z => nomatch z)
    refine ⟨⟨z, h.pen_upd hz (Ne.symm np) (Ne.symm nq), hzn⟩, fun e he => ?_⟩
    rcases List.mem_cons.mp he with he | he
    · rw [he]; exact ⟨Ne.symm np, Ne.symm nq⟩
    · exact hm e he
  · rcases List.mem_cons.mp he with he | he
    · rw [he]
      have hh2 := hh
      unfold S.hid at hh2
      simp only [Bool.or_eq_false_iff] at hh2
      exact hh2.1.1
    · exact h.frM e he
def S.put (s : S) (h : Nat) (o : MO) : S := { s with M := mset s.M h o }
theorem mset_map : ∀ {M : List Ent} {h : Nat} {o : MO}, (mset M h o).map (·.a) = M.map (·.a)
  | [], _, _ => rfl
  | x :: r, h, o => by
    unfold mset
    split
    · rfl
    · rw [List.map_cons, List.map_cons, mset_map]
theorem mset_any : ∀ {M : List Ent} {h : Nat} {o : MO} {a : Addr}, ((mset M h o).any fun e => !e.fz && e.a == a) = (M.any fun e => !e.fz && e.a == a)
  | [], _, _, _ => rfl
  | x :: r, h, o, a => by
    unfold mset
    split
    · rfl
    · rw [List.any_cons, List.any_cons, mset_any]
theorem mset_mem : ∀ {M : List Ent} {h : Nat} {o : MO} {e0 : Ent}, (M.map (·.a)).Nodup → mget M h = some e0 → ∀ {e : Ent}, e ∈ mset M h o → e = ⟨e0.h, e0.a, o, e0.fz⟩ ∨ (e ∈ M ∧ e.a ≠ e0.a)
  | [], h, o, e0, nd, hg, e, he => by cases hg
  | x :: r, h, o, e0, nd, hg, e, he => by
    rw [List.map_cons, List.nodup_cons] at nd
    unfold mget at hg
    unfold mset at he
    cases hb : Nat.beq x.h h with
    | true =>
      rw [hb] at hg he
      cases hg
      rcases List.mem_cons.mp he with he | he
      · exact .inl he
      · exact .inr ⟨List.mem_cons_of_mem _ he, fun z => nd.1 (List.mem_map.mpr ⟨e, he, z⟩)⟩
    | false =>
      rw [hb] at hg he
      rcases List.mem_cons.mp he with he | he
      · rw [he]
        exact .inr ⟨List.mem_cons_self, fun z => nd.1 (List.mem_map.mpr ⟨e0, (mget_mem hg).1, z.symm⟩)⟩
      · rcases mset_mem nd.2 hg he with q | q
        · exact .inl q
        · exact .inr ⟨List.mem_cons_of_mem _ q.1, q.2⟩
/-- one of one's own objects is changed -/
theorem OkS.put {K : PySem.W.Frag} {F : Fr} {s : S} {H : Hp} (h : OkS K F s H) {k : Nat} {e : Ent} {o : HO} {m : MO} (hg : mget s.M k = some e) (hf : e.fz = false) (hr : ∀ Hv, Ex (vis F s H) Hv → RepO K Hv (upd H e.a o) e.a m) : OkS K F (s.put k m) (upd H e.a o) ∧ Tr F s H (s.put k m) (upd H e.a o) := by
  obtain ⟨hm, _⟩ := mget_mem hg
  have hhid : ∀ a, (s.put k m).hid F a = s.hid F a := fun a => by
    unfold S.hid S.hidM
    show (F a || (mset s.M k m).any (fun e => !e.fz && e.a == a) || s.hidP a) = _
    rw [mset_any]
  have hea : s.hid F e.a = true := by
    unfold S.hid S.hidM
    have : (s.M.any fun x => !x.fz && x.a == e.a) = true := List.any_eq_true.mpr ⟨e, hm, by rw [hf]; simp⟩
    rw [this]
    simp
  have ex : Ex (vis F s H) (vis F (s.put k m) (upd H e.a o)) := fun a u q => by
    obtain ⟨h1, h2⟩ := vis_iff.mp q
    refine vis_iff.mpr ⟨by rw [hhid]; exact h1, ?_⟩
    rw [upd_ne fun z => by rw [z, hea] at h1; cases h1]
    exact h2
  refine ⟨⟨fun e' he' => ?_, by show ((mset s.M k m).map (·.a)).Nodup; rw [mset_map]; exact h.nd, fun a b q => ?_, fun a ha => ?_, fun e' he' => ?_, h.frP⟩, ⟨ex, fun a ha => upd_ne fun z => ?_, rfl⟩⟩
  · rcases mset_mem h.nd hg he' with q | q
    · rw [q]
      exact hr _ ex
    · exact (h.ents e' q.1).mono ex (upd_ne q.2)
  · obtain ⟨⟨z, hz, hzn⟩, hx⟩ := h.pen a b q
    refine ⟨⟨z, h.pen_upd hz (hx e hm).1 (hx e hm).2, hzn⟩, fun e' he' => ?_⟩
    rcases mset_mem h.nd hg he' with q | q
    · rw [q]; exact hx e hm
    · exact hx e' q.1
  · by_cases z : a = e.a
    · rw [z, upd_same]; exact fun z => nomatch z
    · rw [upd_ne z]; exact h.fr a ha
  · rcases mset_mem h.nd hg he' with q | q
    · rw [q]; exact h.frM e hm
    · exact h.frM e' q.1
  · rw [z, h.frM e hm] at ha
    cases ha
end Da

/-! Readings over data: the judgements, names, statements (own). -/
namespace Da
open PySem PySem.Spec PyProof.Rows L2 Evl Hd
abbrev Ga := List (Option D)
abbrev QD := D → S → Prop
abbrev WE := Ga → S → QD → Prop
abbrev WT := Ga → S → (Bool → S → Prop) → Prop
abbrev WA := Ga → S → (List D → S → Prop) → Prop
abbrev WO := Ga → S → (Option Int → S → Prop) → Prop
abbrev WG := D → Ga → S → (Ga → S → Prop) → Prop
abbrev WGs := List D → Ga → S → (Ga → S → Prop) → Prop
structure DE where
  nx : Ga → S → Prop
  rt : QD
  bk : Ga → S → Prop
  ct : Ga → S → Prop
abbrev WS := DE → Ga → S → Prop
def look : Ga → Nat → Option D
  | [], _ => none
  | x :: _, 0 => x
  | _ :: r, n + 1 => look r n
def setG : Ga → Nat → Option D → Ga
  | [], _, _ => []
  | _ :: r, 0, d => d :: r
  | x :: r, n + 1, d => x :: setG r n d
def wipeG (Γ : Ga) : List Nat → Ga
  | [] => Γ
  | v :: vs => setG (wipeG Γ vs) v none
theorem setG_len : ∀ {Γ : Ga} {i : Nat} {d : Option D}, (setG Γ i d).length = Γ.length
  | [], _, _ => rfl
  | _ :: _, 0, _ => rfl
  | _ :: r, n + 1, d => congrArg (· + 1) (setG_len (Γ := r) (i := n) (d := d))
theorem look_set : ∀ {Γ : Ga} {i j : Nat} {d : Option D} {e : D}, look (setG Γ i d) j = some e → (j = i ∧ d = some e) ∨ (j ≠ i ∧ look Γ j = some e)
  | [], _, _, _, _, h => by cases h
  | _ :: _, 0, 0, _, _, h => .inl ⟨rfl, h⟩
  | _ :: _, 0, _ + 1, _, _, h => .inr ⟨by omega, h⟩
  | _ :: _, _ + 1, 0, _, _, h => .inr ⟨by omega, h⟩
  | _ :: r, i + 1, j + 1, d, e, h => by
    rcases look_set (Γ := r) (i := i) (j := j) (d := d) (e := e) h with ⟨h1, h2⟩ | ⟨h1, h2⟩
    · exact .inl ⟨by omega, h2⟩
    · exact .inr ⟨by omega, h2⟩
theorem look_lt : ∀ {Γ : Ga} {i : Nat} {d : D}, look Γ i = some d → i < Γ.length
  | [], _, _, h => by cases h
  | _ :: _, 0, _, _ => Nat.succ_pos _
  | _ :: r, i + 1, d, h => Nat.succ_lt_succ (look_lt (Γ := r) h)
structure RepG (K : PySem.W.Frag) (Hv : Hp) (σ : L2.St) (Γ : Ga) : Prop where
  len : σ.length = Γ.length
  at_ : ∀ i d, look Γ i = some d → ∃ v, σ[i]? = some (some v) ∧ Rep K Hv v d
section
variable {K : PySem.W.Frag} {F : Fr} {s s' : S} {H H' Hv Hv' : Hp} {σ : L2.St} {Γ : Ga}
theorem RepG.mono (e : Ex Hv Hv') (g : RepG K Hv σ Γ) : RepG K Hv' σ Γ := ⟨g.len, fun i d h => let ⟨v, h1, h2⟩ := g.at_ i d h; ⟨v, h1, h2.mono e⟩⟩
theorem RepG.set {i : Nat} {v : V} {d : D} (g : RepG K Hv σ Γ) (r : Rep K Hv v d) : RepG K Hv (σ.set i (some v)) (setG Γ i (some d)) := by
  refine ⟨by rw [List.length_set, setG_len]; exact g.len, fun j e h => ?_⟩
  have hj := look_lt h
  rw [setG_len] at hj
  rcases look_set h with ⟨h1, h2⟩ | ⟨h1, h2⟩
  · cases h2
    exact ⟨v, by rw [h1, List.getElem?_set_self (by rw [g.len]; rw [h1] at hj; exact hj)], r⟩
  · obtain ⟨u, h3, h4⟩ := g.at_ j e h2
    exact ⟨u, by rw [List.getElem?_set_ne (Ne.symm h1)]; exact h3, h4⟩
theorem RepG.forget {i : Nat} (g : RepG K Hv σ Γ) : RepG K Hv σ (setG Γ i none) := by
  refine ⟨by rw [setG_len]; exact g.len, fun j e h => ?_⟩
  rcases look_set h with ⟨_, h2⟩ | ⟨_, h2⟩
  · cases h2
  · exact g.at_ j e h2
theorem RepG.none {i : Nat} {x : Option V} (g : RepG K Hv σ Γ) : RepG K Hv (σ.set i x) (setG Γ i none) := by
  refine ⟨by rw [List.length_set, setG_len]; exact g.len, fun j e h => ?_⟩
  rcases look_set h with ⟨_, h2⟩ | ⟨h1, h2⟩
  · cases h2
  · obtain ⟨u, h3, h4⟩ := g.at_ j e h2
    exact ⟨u, by rw [List.getElem?_set_ne (Ne.symm h1)]; exact h3, h4⟩
theorem RepG.wipe (g : RepG K Hv σ Γ) : ∀ {vs : List Nat}, RepG K Hv (L2.wipe σ vs) (wipeG Γ vs)
  | [] => g
  | _ :: _ => RepG.none (RepG.wipe g)
/-- all that holds at a point: the slots, the state -/
structure At (K : PySem.W.Frag) (F : Fr) (s : S) (H : Hp) (σ : L2.St) (Γ : Ga) : Prop where
  g : RepG K (vis F s H) σ Γ
  ok : OkS K F s H
theorem At.to (a : At K F s H σ Γ) (t : Tr F s H s' H') (ok : OkS K F s' H') : At K F s' H' σ Γ := ⟨a.g.mono t.ex, ok⟩
end
/-- the two ways of a test -/
structure Br (c : Bool) (A B : Prop) : Prop where
  t : c = true → A
  f : c = false → B
theorem Br.ite {c : Bool} {A B A' B' : Prop} (h : Br c A B) (ha : c = true → A → A') (hb : c = false → B → B') : if c = true then A' else B' := by
  cases c
  · rw [if_neg Bool.false_ne_true]; exact hb rfl (h.f rfl)
  · rw [if_pos rfl]; exact ha rfl (h.t rfl)
/-- what a thing at hand shows -/
def viewM : MO → D
  | .lst ds => .lst ds
  | .dct kvs => .dct kvs
  | .obj C fs => .obj C fs
  | .nk P w es => .nkd P w es
def seeP (s : S) (d : D) (k : D → Prop) : Prop := match d with
  | .loc a h => match mget s.M h with
    | some e => e.a = a ∧ k (viewM e.o)
    | none => False
  | .non => k .non
  | .bl b => k (.bl b)
  | .int i => k (.int i)
  | .str x => k (.str x)
  | .tup ds => k (.tup ds)
  | .lst ds => k (.lst ds)
  | .dct kvs => k (.dct kvs)
  | .obj C fs => k (.obj C fs)
  | .val v => k (.val v)
  | .lck ns => k (.lck ns)
  | .nkd P w es => k (.nkd P w es)
/-- handed on: from now on it is not changed -/
def escP (s : S) (d : D) (k : D → S → Prop) : Prop := match d with
  | .loc a h => match mget s.M h with
    | some e => e.a = a ∧ k (viewM e.o) (s.frz h)
    | none => False
  | .non => k .non s
  | .bl b => k (.bl b) s
  | .int i => k (.int i) s
  | .str x => k (.str x) s
  | .tup ds => k (.tup ds) s
  | .lst ds => k (.lst ds) s
  | .dct kvs => k (.dct kvs) s
  | .obj C fs => k (.obj C fs) s
  | .val v => k (.val v) s
  | .lck ns => k (.lck ns) s
  | .nkd P w es => k (.nkd P w es) s
def escA (s : S) : List D → (List D → S → Prop) → Prop
  | [], k => k [] s
  | d :: r, k => escP s d fun d' s1 => escA s1 r fun r' s2 => k (d' :: r') s2
def RepW (K : PySem.W.Frag) (Hv H : Hp) (v : V) : D → Prop
  | .lst ds => ∃ a xs, v = .ref a ∧ H a = some (.lst xs) ∧ RepL K Hv xs ds ∧ ds.length ≤ sizeLine
  | .tup ds => Rep K Hv v (.tup ds)
  | .dct kvs => ∃ a ks, v = .ref a ∧ H a = some (.dK ks) ∧ RepK K Hv ks kvs ∧ kvs.length ≤ sizeLine
  | .obj C gs => ∃ a dx fs, v = .ref a ∧ H a = some (.ins C dx fs) ∧ RepF K Hv fs gs
  | .non => v = .non
  | .bl b => v = .bl b
  | .int i => v = .int i
  | .str x => v = .str x
  | .val x => v = x
  | .loc a _ => v = .ref a
  | .lck ns => Rep K Hv v (.lck ns)
  | .nkd P w es => ∃ a xs, v = .ref a ∧ H a = some (Nk.nkO P w a xs) ∧ NkR K Hv xs es ∧ (a == sysModules) = false
section
variable {K : PySem.W.Frag} {F : Fr} {s s' : S} {H H' Hv Hv' : Hp} {σ : L2.St} {Γ : Ga} {v : V} {d : D}
theorem Rep.w (e : Ex Hv H) (r : Rep K Hv v d) : RepW K Hv H v d := by
  cases r with
  | non => rfl
  | bl => rfl
  | int => rfl
  | str => rfl
  | tup h r n => exact .tup h r n
  | lst h r n => exact ⟨_, _, rfl, e _ _ h, r, n⟩
  | dct h r n => exact ⟨_, _, rfl, e _ _ h, r, n⟩
  | obj h r => exact ⟨_, _, _, rfl, e _ _ h, r⟩
  | val => rfl
  | loc => rfl
  | lck h => exact .lck h
  | nkd h r l => exact ⟨_, _, rfl, e _ _ h, r, l⟩
theorem RepW.tup {Hv H : Hp} {v : V} {ds : List D} (e : Ex Hv H) (r : RepW K Hv H v (.tup ds)) : ∃ a xs, v = .ref a ∧ SqT K H a xs ∧ RepL K Hv xs ds ∧ ds.length ≤ sizeLine := by
  cases r with
  | tup h1 h2 h3 => exact ⟨_, _, rfl, ex_t e h1, h2, h3⟩
theorem RepO.w {a : Addr} : ∀ {o : MO}, RepO K Hv H a o → RepW K Hv H (.ref a) (viewM o)
  | .lst _, ⟨xs, h1, h2, h3⟩ => ⟨a, xs, rfl, h1, h2, h3⟩
  | .dct _, ⟨xs, h1, h2, h3⟩ => ⟨a, xs, rfl, h1, h2, h3⟩
  | .obj _ _, ⟨dx, xs, h1, h2⟩ => ⟨a, dx, xs, rfl, h1, h2⟩
  | .nk _ _ _, ⟨xs, h1, h2, h3⟩ => ⟨a, xs, rfl, h1, h2, h3⟩
theorem RepO.r {a : Addr} (hv : Hv a = H a) : ∀ {o : MO}, RepO K Hv H a o → Rep K Hv (.ref a) (viewM o)
  | .lst _, ⟨xs, h1, h2, h3⟩ => .lst (hv.trans h1) h2 h3
  | .dct _, ⟨xs, h1, h2, h3⟩ => .dct (hv.trans h1) h2 h3
  | .obj _ _, ⟨dx, xs, h1, h2⟩ => .obj (hv.trans h1) h2
  | .nk _ _ _, ⟨xs, h1, h2, h3⟩ => .nkd (hv.trans h1) h2 h3
theorem see (ok : OkS K F s H) (r : Rep K (vis F s H) v d) {k : D → Prop} (h : seeP s d k) : ∃ d', k d' ∧ RepW K (vis F s H) H v d' := by
  cases d with
  | loc a n =>
    cases r
    unfold seeP at h
    simp only at h
    cases e : mget s.M n with
    | none => rw [e] at h; exact h.elim
    | some x =>
      rw [e] at h
      obtain ⟨h1, h2⟩ := h
      subst h1
      exact ⟨_, h2, (ok.ents x (mget_mem e).1).w⟩
  | non => exact ⟨_, h, r.w vis_ex⟩
  | bl b => exact ⟨_, h, r.w vis_ex⟩
  | int i => exact ⟨_, h, r.w vis_ex⟩
  | str x => exact ⟨_, h, r.w vis_ex⟩
  | tup ds => exact ⟨_, h, r.w vis_ex⟩
  | lst ds => exact ⟨_, h, r.w vis_ex⟩
  | dct kvs => exact ⟨_, h, r.w vis_ex⟩
  | obj C fs => exact ⟨_, h, r.w vis_ex⟩
  | val x => exact ⟨_, h, r.w vis_ex⟩
  | lck x => exact ⟨_, h, r.w vis_ex⟩
  | nkd _ _ _ => exact ⟨_, h, r.w vis_ex⟩
theorem esc (ok : OkS K F s H) (r : Rep K (vis F s H) v d) {k : D → S → Prop} (h : escP s d k) : ∃ d' s', k d' s' ∧ OkS K F s' H ∧ Tr F s H s' H ∧ Rep K (vis F s' H) v d' := by
  cases d with
  | loc a n =>
    cases r
    unfold escP at h
    simp only at h
    cases e : mget s.M n with
    | none => rw [e] at h; exact h.elim
    | some x =>
      rw [e] at h
      obtain ⟨h1, h2⟩ := h
      subst h1
      obtain ⟨q1, q2⟩ := ok.frz n
      have hx := ok.ents x (mget_mem e).1
      refine ⟨_, _, h2, q1, q2, (hx.mono q2.ex rfl).r ?_⟩
      cases ho : H x.a with
      | none => exact absurd ho hx.some
      | some o => exact ok.frz_vis e ho
  | non => exact ⟨_, _, h, ok, Tr.refl, r⟩
  | bl b => exact ⟨_, _, h, ok, Tr.refl, r⟩
  | int i => exact ⟨_, _, h, ok, Tr.refl, r⟩
  | str x => exact ⟨_, _, h, ok, Tr.refl, r⟩
  | tup ds => exact ⟨_, _, h, ok, Tr.refl, r⟩
  | lst ds => exact ⟨_, _, h, ok, Tr.refl, r⟩
  | dct kvs => exact ⟨_, _, h, ok, Tr.refl, r⟩
  | obj C fs => exact ⟨_, _, h, ok, Tr.refl, r⟩
  | val x => exact ⟨_, _, h, ok, Tr.refl, r⟩
  | lck x => exact ⟨_, _, h, ok, Tr.refl, r⟩
  | nkd _ _ _ => exact ⟨_, _, h, ok, Tr.refl, r⟩
theorem escs : ∀ {vs : List V} {ds : List D} {s : S} (ok : OkS K F s H) (r : RepL K (vis F s H) vs ds) {k : List D → S → Prop} (h : escA s ds k), ∃ ds' s', k ds' s' ∧ OkS K F s' H ∧ Tr F s H s' H ∧ RepL K (vis F s' H) vs ds'
  | _, _, s, ok, .nil, k, h => ⟨_, _, h, ok, Tr.refl, .nil⟩
  | _, _, s, ok, .cons q r, k, h => by
    obtain ⟨d', s1, h1, ok1, t1, q1⟩ := esc ok q h
    obtain ⟨ds', s2, h2, ok2, t2, r2⟩ := escs ok1 (r.mono t1.ex) h1
    exact ⟨_, _, h2, ok2, t1.trans t2, .cons (q1.mono t2.ex) r2⟩
end
/-! ### the judgements -/
/-- what comes behind an expression -/
abbrev KE (K : PySem.W.Frag) (F : Fr) (s : S) (H : Hp) (Q : QD) (Q0 : VK) : Prop := ∀ v H' d s', Tr F s H s' H' → OkS K F s' H' → Rep K (vis F s' H') v d → Q d s' → Q0 v H'
class LE (K : PySem.W.Frag) (te : TE) (w : outParam WE) : Prop where
  go : ∀ {F : Fr} {s : S} {H : Hp} {σ : L2.St} {Γ : Ga} {Q : QD} {Q0 : VK}, At K F s H σ Γ → w Γ s Q → KE K F s H Q Q0 → te σ H Q0
class LT (K : PySem.W.Frag) (te : TT) (w : outParam WT) : Prop where
  go : ∀ {F : Fr} {s : S} {H : Hp} {σ : L2.St} {Γ : Ga} {Q : Bool → S → Prop} {Q0 : Bool → Hp → Prop}, At K F s H σ Γ → w Γ s Q → (∀ b H' s', Tr F s H s' H' → OkS K F s' H' → Q b s' → Q0 b H') → te σ H Q0
class LA (K : PySem.W.Frag) (te : TA) (w : outParam WA) : Prop where
  go : ∀ {F : Fr} {s : S} {H : Hp} {σ : L2.St} {Γ : Ga} {Q : List D → S → Prop} {Q0 : List V → Hp → Prop}, At K F s H σ Γ → w Γ s Q → (∀ vs H' ds s', Tr F s H s' H' → OkS K F s' H' → RepL K (vis F s' H') vs ds → Q ds s' → Q0 vs H') → te σ H Q0
class LO (K : PySem.W.Frag) (te : TO) (w : outParam WO) : Prop where
  go : ∀ {F : Fr} {s : S} {H : Hp} {σ : L2.St} {Γ : Ga} {Q : Option Int → S → Prop} {Q0 : Option Int → Hp → Prop}, At K F s H σ Γ → w Γ s Q → (∀ o H' s', Tr F s H s' H' → OkS K F s' H' → Q o s' → Q0 o H') → te σ H Q0
/-- what comes behind a statement -/
structure KS (K : PySem.W.Frag) (F : Fr) (s : S) (H : Hp) (e : DE) (D0 : Ends) : Prop where
  nx : ∀ σ' H' Γ' s', Tr F s H s' H' → At K F s' H' σ' Γ' → e.nx Γ' s' → D0.nx σ' H'
  rt : ∀ v H' d s', Tr F s H s' H' → OkS K F s' H' → Rep K (vis F s' H') v d → e.rt d s' → D0.rt v H'
  bk : ∀ σ' H' Γ' s', Tr F s H s' H' → At K F s' H' σ' Γ' → e.bk Γ' s' → D0.bk σ' H'
  ct : ∀ σ' H' Γ' s', Tr F s H s' H' → At K F s' H' σ' Γ' → e.ct Γ' s' → D0.ct σ' H'
theorem KS.to {K : PySem.W.Frag} {F : Fr} {s s' : S} {H H' : Hp} {e : DE} {D0 : Ends} (k : KS K F s H e D0) (t : Tr F s H s' H') : KS K F s' H' e D0 :=
  ⟨fun _ _ _ _ t2 => k.nx _ _ _ _ (t.trans t2), fun _ _ _ _ t2 => k.rt _ _ _ _ (t.trans t2), fun _ _ _ _ t2 => k.bk _ _ _ _ (t.trans t2), fun _ _ _ _ t2 => k.ct _ _ _ _ (t.trans t2)⟩
class LS (K : PySem.W.Frag) (ts : TS) (w : outParam WS) : Prop where
  go : ∀ {F : Fr} {s : S} {H : Hp} {σ : L2.St} {Γ : Ga} {e : DE} {D0 : Ends}, At K F s H σ Γ → w e Γ s → KS K F s H e D0 → ts D0 σ H
class LG (K : PySem.W.Frag) (g : TG) (w : outParam WG) : Prop where
  go : ∀ {F : Fr} {s : S} {H : Hp} {σ : L2.St} {Γ : Ga} {v : V} {d : D} {Q : Ga → S → Prop} {Q0 : L2.St → Hp → Prop}, At K F s H σ Γ → Rep K (vis F s H) v d → w d Γ s Q → (∀ σ' H' Γ' s', Tr F s H s' H' → At K F s' H' σ' Γ' → Q Γ' s' → Q0 σ' H') → g v σ H Q0
class LGs (K : PySem.W.Frag) (g : TGs) (w : outParam WGs) : Prop where
  go : ∀ {F : Fr} {s : S} {H : Hp} {σ : L2.St} {Γ : Ga} {vs : List V} {ds : List D} {Q : Ga → S → Prop} {Q0 : L2.St → Hp → Prop}, At K F s H σ Γ → RepL K (vis F s H) vs ds → w ds Γ s Q → (∀ σ' H' Γ' s', Tr F s H s' H' → At K F s' H' σ' Γ' → Q Γ' s' → Q0 σ' H') → g vs σ H Q0
section
variable {K : PySem.W.Frag}
/-! ### names, constants -/
def wVar (i : Nat) : WE := fun Γ s Q => match look Γ i with
  | some d => Q d s
  | none => False
instance {i : Nat} : LE K (tVar i) (wVar i) := ⟨fun {F s H σ Γ Q Q0} a h k => by
  unfold wVar at h
  cases e : look Γ i with
  | none => rw [e] at h; exact h.elim
  | some d =>
    rw [e] at h
    obtain ⟨v, h1, h2⟩ := a.g.at_ i d e
    exact ⟨v, h1, k v H d s Tr.refl a.ok h2 h⟩⟩
def ofV : V → D
  | .non => .non
  | .bl b => .bl b
  | .int i => .int i
  | .str x => .str x
  | .byt b => .val (.byt b)
  | .flt b => .val (.flt b)
  | .ref a => .val (.ref a)
  | .ty n => .val (.ty n)
theorem rep_ofV {Hv : Hp} : ∀ {v : V}, Rep K Hv v (ofV v)
  | .non => .non
  | .bl _ => .bl
  | .int _ => .int
  | .str _ => .str
  | .byt _ => .val
  | .flt _ => .val
  | .ref _ => .val
  | .ty _ => .val
def wC (d : D) : WE := fun _ s Q => Q d s
instance {v : V} : LE K (tC v) (wC (ofV v)) := ⟨fun {F s H σ Γ Q Q0} a h k => k v H _ s Tr.refl a.ok rep_ofV h⟩
/-! ### arguments -/
def wNil : WA := fun _ s Q => Q [] s
instance : LA K tNil wNil := ⟨fun {F s H σ Γ Q Q0} a h k => k [] H [] s Tr.refl a.ok .nil h⟩
def wCons (wa : WE) (wr : WA) : WA := fun Γ s Q => wa Γ s fun d s1 => wr Γ s1 fun ds s2 => Q (d :: ds) s2
instance {ta : TE} {tr : TA} {wa : WE} {wr : WA} [la : LE K ta wa] [lr : LA K tr wr] : LA K (tCons ta tr) (wCons wa wr) := ⟨fun {F s H σ Γ Q Q0} a h k =>
  la.go a h fun v H1 d s1 t1 ok1 r1 h1 => lr.go (a.to t1 ok1) h1 fun vs H2 ds s2 t2 ok2 r2 h2 => k _ H2 _ s2 (t1.trans t2) ok2 (.cons (r1.mono t2.ex) r2) h2⟩
/-! ### tests -/
def asB (d : D) (k : Bool → Prop) : Prop := match d with
  | .bl b => k b
  | _ => False
theorem asB_of {Hv : Hp} {v : V} {d : D} {k : Bool → Prop} (h : asB d k) (r : Rep K Hv v d) : ∃ b, v = .bl b ∧ k b := by
  cases d with
  | bl b => cases r; exact ⟨b, rfl, h⟩
  | _ => exact h.elim
def wTest (w : WE) : WT := fun Γ s Q => w Γ s fun d s1 => asB d fun b => Q b s1
instance {te : TE} {w : WE} [l : LE K te w] : LT K (tTest te) (wTest w) := ⟨fun {F s H σ Γ Q Q0} a h k => l.go a h fun v H1 d s1 t1 ok1 r1 h1 => let ⟨b, e, q⟩ := asB_of h1 r1; ⟨b, e, k b H1 s1 t1 ok1 q⟩⟩
instance {te : TE} {w : WE} [l : LE K te w] : LT K (tB te) (wTest w) := ⟨fun {F s H σ Γ Q Q0} a h k => l.go a h fun v H1 d s1 t1 ok1 r1 h1 => let ⟨b, e, q⟩ := asB_of h1 r1; ⟨b, e, k b H1 s1 t1 ok1 q⟩⟩
def wAnd (t u : WT) : WT := fun Γ s Q => t Γ s fun c s1 => Br c (u Γ s1 Q) (Q false s1)
def wOr (t u : WT) : WT := fun Γ s Q => t Γ s fun c s1 => Br c (Q true s1) (u Γ s1 Q)
def wNot (t : WT) : WT := fun Γ s Q => t Γ s fun c s1 => Q (!c) s1
instance {t u : TT} {w w' : WT} [l : LT K t w] [l' : LT K u w'] : LT K (tAnd t u) (wAnd w w') := ⟨fun {F s H σ Γ Q Q0} a h k =>
  l.go a h fun b H1 s1 t1 ok1 h1 => h1.ite (fun _ h2 => l'.go (a.to t1 ok1) h2 fun c H2 s2 t2 ok2 h3 => k c H2 s2 (t1.trans t2) ok2 h3) (fun _ h2 => k _ H1 s1 t1 ok1 h2)⟩
instance {t u : TT} {w w' : WT} [l : LT K t w] [l' : LT K u w'] : LT K (tOr t u) (wOr w w') := ⟨fun {F s H σ Γ Q Q0} a h k =>
  l.go a h fun b H1 s1 t1 ok1 h1 => h1.ite (fun _ h2 => k _ H1 s1 t1 ok1 h2) (fun _ h2 => l'.go (a.to t1 ok1) h2 fun c H2 s2 t2 ok2 h3 => k c H2 s2 (t1.trans t2) ok2 h3)⟩
instance {t : TT} {w : WT} [l : LT K t w] : LT K (tNot t) (wNot w) := ⟨fun {F s H σ Γ Q Q0} a h k => l.go a h fun b H1 s1 t1 ok1 h1 => k (!b) H1 s1 t1 ok1 h1⟩
def wYes : WT := fun _ s Q => Q true s
instance : LT K tYes wYes := ⟨fun {F s H σ Γ Q Q0} a h k => k true H s Tr.refl a.ok h⟩
def wAndV (t u : WE) : WE := fun Γ s Q => t Γ s fun d s1 => asB d fun c => Br c (u Γ s1 Q) (Q (.bl false) s1)
def wOrV (t u : WE) : WE := fun Γ s Q => t Γ s fun d s1 => asB d fun c => Br c (Q (.bl true) s1) (u Γ s1 Q)
def wNotV (t : WE) : WE := fun Γ s Q => t Γ s fun d s1 => asB d fun c => Q (.bl (!c)) s1
instance {t u : TE} {w w' : WE} [l : LE K t w] [l' : LE K u w'] : LE K (tAndV t u) (wAndV w w') := ⟨fun {F s H σ Γ Q Q0} a h k =>
  l.go a h fun v H1 d s1 t1 ok1 r1 h1 => let ⟨b, e, q⟩ := asB_of h1 r1; ⟨b, e, q.ite (fun _ h2 => l'.go (a.to t1 ok1) h2 fun c H2 d2 s2 t2 ok2 r2 h3 => k c H2 d2 s2 (t1.trans t2) ok2 r2 h3) (fun _ h2 => k _ H1 _ s1 t1 ok1 .bl h2)⟩⟩
instance {t u : TE} {w w' : WE} [l : LE K t w] [l' : LE K u w'] : LE K (tOrV t u) (wOrV w w') := ⟨fun {F s H σ Γ Q Q0} a h k =>
  l.go a h fun v H1 d s1 t1 ok1 r1 h1 => let ⟨b, e, q⟩ := asB_of h1 r1; ⟨b, e, q.ite (fun _ h2 => k _ H1 _ s1 t1 ok1 .bl h2) (fun _ h2 => l'.go (a.to t1 ok1) h2 fun c H2 d2 s2 t2 ok2 r2 h3 => k c H2 d2 s2 (t1.trans t2) ok2 r2 h3)⟩⟩
instance {t : TE} {w : WE} [l : LE K t w] : LE K (tNotV t) (wNotV w) := ⟨fun {F s H σ Γ Q Q0} a h k => l.go a h fun v H1 d s1 t1 ok1 r1 h1 => let ⟨b, e, q⟩ := asB_of h1 r1; ⟨b, e, k _ H1 _ s1 t1 ok1 .bl q⟩⟩
def wIf (t : WT) (u u' : WE) : WE := fun Γ s Q => t Γ s fun c s1 => Br c (u Γ s1 Q) (u' Γ s1 Q)
instance {t : TT} {ta tb : TE} {w : WT} {wa wb : WE} [l : LT K t w] [la : LE K ta wa] [lb : LE K tb wb] : LE K (tIf t ta tb) (wIf w wa wb) := ⟨fun {F s H σ Γ Q Q0} a h k =>
  l.go a h fun b H1 s1 t1 ok1 h1 => h1.ite (fun _ h2 => la.go (a.to t1 ok1) h2 fun c H2 d2 s2 t2 ok2 r2 h3 => k c H2 d2 s2 (t1.trans t2) ok2 r2 h3) (fun _ h2 => lb.go (a.to t1 ok1) h2 fun c H2 d2 s2 t2 ok2 r2 h3 => k c H2 d2 s2 (t1.trans t2) ok2 r2 h3)⟩
/-! ### statements -/
def wNext : WS := fun e Γ s => e.nx Γ s
instance : LS K tNext wNext := ⟨fun {F s H σ Γ e D0} a h k => k.nx _ _ _ _ Tr.refl a h⟩
def wSeq (w w' : WS) : WS := fun e Γ s => w { e with nx := w' e } Γ s
instance {t u : TS} {w w' : WS} [l : LS K t w] [l' : LS K u w'] : LS K (tSeq t u) (wSeq w w') := ⟨fun {F s H σ Γ e D0} a h k =>
  l.go a h ⟨fun σ' H' Γ' s' t1 a1 h1 => l'.go a1 h1 (k.to t1), k.rt, k.bk, k.ct⟩⟩
def wCut (w w' : WS) : WS := fun e Γ s => ∃ Mid : Ga → S → Prop, w { e with nx := Mid } Γ s ∧ ∀ Γ' s', Mid Γ' s' → w' e Γ' s'
instance {t u : TS} {w w' : WS} [l : LS K t w] [l' : LS K u w'] : LS K (Evl.tCut t u) (wCut w w') := ⟨fun {F s H σ Γ e D0} a ⟨Mid, h1, h2⟩ k =>
  ⟨fun σ' H' => ∃ Γ' s', Tr F s H s' H' ∧ At K F s' H' σ' Γ' ∧ Mid Γ' s', l.go a h1 ⟨fun σ' H' Γ' s' t1 a1 h => ⟨Γ', s', t1, a1, h⟩, k.rt, k.bk, k.ct⟩, fun σ' H' ⟨Γ', s', t1, a1, h⟩ => l'.go a1 (h2 _ _ h) (k.to t1)⟩⟩
def wBreak : WS := fun e Γ s => e.bk Γ s
instance : LS K tBreak wBreak := ⟨fun {F s H σ Γ e D0} a h k => k.bk _ _ _ _ Tr.refl a h⟩
def wCont : WS := fun e Γ s => e.ct Γ s
instance : LS K tCont wCont := ⟨fun {F s H σ Γ e D0} a h k => k.ct _ _ _ _ Tr.refl a h⟩
def wNever : WS := fun _ _ _ => False
instance : LS K tNever wNever := ⟨fun {F s H σ Γ e D0} a h k => h.elim⟩
def wDrop (w : WE) : WS := fun e Γ s => w Γ s fun _ s1 => e.nx Γ s1
instance {te : TE} {w : WE} [l : LE K te w] : LS K (tDrop te) (wDrop w) := ⟨fun {F s H σ Γ e D0} a h k => l.go a h fun v H1 d s1 t1 ok1 _ h1 => k.nx _ _ _ _ t1 (a.to t1 ok1) h1⟩
def wRet (w : WE) : WS := fun e Γ s => w Γ s fun d s1 => escP s1 d fun d' s2 => e.rt d' s2
instance {te : TE} {w : WE} [l : LE K te w] : LS K (tRet te) (wRet w) := ⟨fun {F s H σ Γ e D0} a h k => l.go a h fun v H1 d s1 t1 ok1 r1 h1 =>
  let ⟨d', s2, h2, ok2, t2, r2⟩ := esc ok1 r1 h1
  k.rt _ _ _ _ (t1.trans t2) ok2 r2 h2⟩
def wRetN : WS := fun e Γ s => e.rt .non s
instance : LS K tRetN wRetN := ⟨fun {F s H σ Γ e D0} a h k => k.rt _ _ _ _ Tr.refl a.ok .non h⟩
def wIfS (t : WT) (u u' : WS) : WS := fun e Γ s => t Γ s fun c s1 => Br c (u e Γ s1) (u' e Γ s1)
instance {t : TT} {ta tb : TS} {w : WT} {wa wb : WS} [l : LT K t w] [la : LS K ta wa] [lb : LS K tb wb] : LS K (tIfS t ta tb) (wIfS w wa wb) := ⟨fun {F s H σ Γ e D0} a h k =>
  l.go a h fun b H1 s1 t1 ok1 h1 => h1.ite (fun _ h2 => la.go (a.to t1 ok1) h2 (k.to t1)) (fun _ h2 => lb.go (a.to t1 ok1) h2 (k.to t1))⟩
def wAsg (w : WE) (g : WG) : WS := fun e Γ s => w Γ s fun d s1 => g d Γ s1 fun Γ' s2 => e.nx Γ' s2
instance {te : TE} {g : TG} {w : WE} {wg : WG} [l : LE K te w] [lg : LG K g wg] : LS K (tAsg te g) (wAsg w wg) := ⟨fun {F s H σ Γ e D0} a h k => l.go a h fun v H1 d s1 t1 ok1 r1 h1 =>
  lg.go (a.to t1 ok1) r1 h1 fun σ' H' Γ' s' t2 a2 h2 => k.nx _ _ _ _ (t1.trans t2) a2 h2⟩
def wgName (i : Nat) : WG := fun d Γ s Q => Q (setG Γ i (some d)) s
instance {i : Nat} : LG K (gName i) (wgName i) := ⟨fun {F s H σ Γ v d Q Q0} a r h k => k _ H _ s Tr.refl ⟨a.g.set r, a.ok⟩ h⟩
def wgNil : WGs := fun ds Γ s Q => match ds with
  | [] => Q Γ s
  | _ :: _ => False
instance : LGs K gNil wgNil := ⟨fun {F s H σ Γ vs ds Q Q0} a r h k => by
  cases r with
  | nil => exact ⟨rfl, k _ _ _ _ Tr.refl a h⟩
  | cons _ _ => exact h.elim⟩
def wgCons (g : WG) (u : WGs) : WGs := fun ds Γ s Q => match ds with
  | [] => False
  | d :: r => g d Γ s fun Γ' s' => u r Γ' s' Q
instance {g : TG} {u : TGs} {wg : WG} {wu : WGs} [l : LG K g wg] [lu : LGs K u wu] : LGs K (gCons g u) (wgCons wg wu) := ⟨fun {F s H σ Γ vs ds Q Q0} a r h k => by
  cases r with
  | nil => exact h.elim
  | cons q r =>
    exact ⟨_, _, rfl, l.go a q h fun σ' H' Γ' s' t1 a1 h1 => lu.go a1 (r.mono t1.ex) h1 fun σ2 H2 Γ2 s2 t2 a2 h2 => k _ _ _ _ (t1.trans t2) a2 h2⟩⟩
def wgTup (n : Nat) (u : WGs) : WG := fun d Γ s Q => match d with
  | .tup ds => match Nat.beq ds.length n with
    | true => u ds Γ s Q
    | false => False
  | _ => False
instance {n : Nat} {u : TGs} {wu : WGs} [lu : LGs K u wu] : LG K (gTup K n u) (wgTup n wu) := ⟨fun {F s H σ Γ v d Q Q0} a r h k => by
  cases d with
  | tup ds =>
    cases r with
    | @tup p xs _ h1 h2 h3 =>
      unfold wgTup at h
      simp only at h
      cases e : Nat.beq ds.length n with
      | false => rw [e] at h; exact h.elim
      | true =>
        rw [e] at h
        exact ⟨p, xs, rfl, ex_t vis_ex h1, by rw [h2.len]; exact Nat.eq_of_beq_eq_true e, lu.go a h2 h k⟩
  | _ => exact h.elim⟩
def wPar (i j : Nat) (wa : WA) : WS := fun e Γ s => wa Γ s fun ds s1 => match ds with
  | [x, y] => e.nx (setG (setG Γ i (some x)) j (some y)) s1
  | _ => False
instance {i j : Nat} {ta : TA} {wa : WA} [l : LA K ta wa] : LS K (tPar i j ta) (wPar i j wa) := ⟨fun {F s H σ Γ e D0} a h k => l.go a h fun vs H1 ds s1 t1 ok1 r1 h1 => by
  match ds, r1, h1 with
  | [x, y], .cons r (.cons q .nil), h1 => exact ⟨_, _, rfl, k.nx _ _ _ _ t1 ⟨((a.to t1 ok1).g.set r).set q, ok1⟩ h1⟩⟩
end
end Da

/-! Readings over data: operators (own). -/
namespace Da
open PySem PySem.Spec PyProof.Rows L2 Evl Hd
abbrev F2 := D → D → S → QD → Prop
abbrev F1 := D → S → QD → Prop
class LR (K : PySem.W.Frag) (r : R2) (f : outParam F2) : Prop where
  go : ∀ {F : Fr} {s : S} {H : Hp} {x y : V} {dx dy : D} {Q : QD} {Q0 : VK}, OkS K F s H → RepW K (vis F s H) H x dx → RepW K (vis F s H) H y dy → f dx dy s Q → KE K F s H Q Q0 → r x y H Q0
class LU (K : PySem.W.Frag) (r : V → Hp → VK → Prop) (f : outParam F1) : Prop where
  go : ∀ {F : Fr} {s : S} {H : Hp} {x : V} {dx : D} {Q : QD} {Q0 : VK}, OkS K F s H → RepW K (vis F s H) H x dx → f dx s Q → KE K F s H Q Q0 → r x H Q0
section
variable {K : PySem.W.Frag} {F : Fr} {s : S} {H : Hp} {x y : V} {dx dy : D} {Q : QD} {Q0 : VK}
def wOp (f : F2) (wa wb : WE) : WE := fun Γ s Q => wa Γ s fun x s1 => wb Γ s1 fun y s2 => seeP s2 x fun x' => seeP s2 y fun y' => f x' y' s2 Q
instance {r : R2} {f : F2} {ta tb : TE} {wa wb : WE} [lr : LR K r f] [la : LE K ta wa] [lb : LE K tb wb] : LE K (tOp r ta tb) (wOp f wa wb) := ⟨fun {F s H σ Γ Q Q0} a h k =>
  la.go a h fun v1 H1 d1 s1 t1 ok1 r1 h1 => lb.go (a.to t1 ok1) h1 fun v2 H2 d2 s2 t2 ok2 r2 h2 => by
    obtain ⟨x', h3, q1⟩ := see ok2 (r1.mono t2.ex) h2
    obtain ⟨y', h4, q2⟩ := see ok2 r2 h3
    exact lr.go ok2 q1 q2 h4 fun v H3 d s3 t3 ok3 r3 h5 => k v H3 d s3 ((t1.trans t2).trans t3) ok3 r3 h5⟩
def wUn (f : F1) (wa : WE) : WE := fun Γ s Q => wa Γ s fun x s1 => seeP s1 x fun x' => f x' s1 Q
instance {r : V → Hp → VK → Prop} {f : F1} {ta : TE} {wa : WE} [lr : LU K r f] [la : LE K ta wa] : LE K (tUn r ta) (wUn f wa) := ⟨fun {F s H σ Γ Q Q0} a h k =>
  la.go a h fun v1 H1 d1 s1 t1 ok1 r1 h1 => by
    obtain ⟨x', h3, q1⟩ := see ok1 r1 h1
    exact lr.go ok1 q1 h3 fun v H3 d s3 t3 ok3 r3 h5 => k v H3 d s3 (t1.trans t3) ok3 r3 h5⟩
def wChain (f g : F2) (wa wb wc : WE) : WE := fun Γ s Q => wa Γ s fun x s1 => wb Γ s1 fun y s2 => seeP s2 x fun x' => seeP s2 y fun y' => f x' y' s2 fun z s3 => asB z fun c => Br c (wc Γ s3 fun w s4 => seeP s4 y fun y2 => seeP s4 w fun w' => g y2 w' s4 Q) (Q (.bl false) s3)
instance {r r' : R2} {f g : F2} {ta tb tc : TE} {wa wb wc : WE} [lr : LR K r f] [lr' : LR K r' g] [la : LE K ta wa] [lb : LE K tb wb] [lc : LE K tc wc] : LE K (tChain r r' ta tb tc) (wChain f g wa wb wc) := ⟨fun {F s H σ Γ Q Q0} a h k =>
  la.go a h fun v1 H1 d1 s1 t1 ok1 r1 h1 => lb.go (a.to t1 ok1) h1 fun v2 H2 d2 s2 t2 ok2 r2 h2 => by
    obtain ⟨x', h3, q1⟩ := see ok2 (r1.mono t2.ex) h2
    obtain ⟨y', h4, q2⟩ := see ok2 r2 h3
    refine lr.go ok2 q1 q2 h4 fun v H3 d s3 t3 ok3 r3 h5 => ?_
    obtain ⟨c, e, h6⟩ := asB_of h5 r3
    refine ⟨c, e, h6.ite (fun _ h7 => ?_) (fun _ h7 => k _ H3 _ s3 ((t1.trans t2).trans t3) ok3 .bl h7)⟩
    refine lc.go (a.to ((t1.trans t2).trans t3) ok3) h7 fun v4 H4 d4 s4 t4 ok4 r4 h8 => ?_
    obtain ⟨y2, h9, q3⟩ := see ok4 (r2.mono (t3.trans t4).ex) h8
    obtain ⟨w', h10, q4⟩ := see ok4 r4 h9
    exact lr'.go ok4 q3 q4 h10 fun v H5 d s5 t5 ok5 r5 h11 => k v H5 d s5 ((((t1.trans t2).trans t3).trans t4).trans t5) ok5 r5 h11⟩
def f2I (g : Int → Int → V) : F2 := fun x y s Q => match x, y with
  | .int i, .int j => Q (ofV (g i j)) s
  | _, _ => False
instance {g : Int → Int → V} : LR K (rI0 g) (f2I g) := ⟨fun {F s H x y dx dy Q Q0} ok rx ry h k => by
  unfold f2I at h
  split at h
  · cases rx; cases ry; exact ⟨_, _, rfl, rfl, k _ _ _ _ Tr.refl ok rep_ofV h⟩
  · exact h.elim⟩
def f2C (C : Int → Int → Prop) (g : Int → Int → V) : F2 := fun x y s Q => match x, y with
  | .int i, .int j => C i j ∧ Q (ofV (g i j)) s
  | _, _ => False
instance {C : Int → Int → Prop} {g : Int → Int → V} : LR K (rI C g) (f2C C g) := ⟨fun {F s H x y dx dy Q Q0} ok rx ry h k => by
  unfold f2C at h
  split at h
  · cases rx; cases ry; exact ⟨_, _, rfl, rfl, h.1, k _ _ _ _ Tr.refl ok rep_ofV h.2⟩
  · exact h.elim⟩
def f1I (g : Int → V) : F1 := fun x s Q => match x with
  | .int i => Q (ofV (g i)) s
  | _ => False
instance {g : Int → V} : LU K (rU g) (f1I g) := ⟨fun {F s H x dx Q Q0} ok rx h k => by
  unfold f1I at h
  split at h
  · cases rx; exact ⟨_, rfl, k _ _ _ _ Tr.refl ok rep_ofV h⟩
  · exact h.elim⟩
/-- a new list, a new tuple, never changed again -/
theorem new_lst {xs : List V} {ds : List D} (ok : OkS K F s H) (r : RepL K (vis F s H) xs ds) (n : ds.length ≤ sizeLine) (h : Q (.lst ds) s) (k : KE K F s H Q Q0) : ∀ p, H p = none → Q0 (.ref p) (upd H p (.lst xs)) := fun p hp => by
  obtain ⟨ok1, t1, v1⟩ := ok.new (o := .lst xs) hp
  exact k _ _ _ _ t1 ok1 (.lst v1 (r.mono t1.ex) n) h
theorem new_tup {xs : List V} {ds : List D} (ok : OkS K F s H) (r : RepL K (vis F s H) xs ds) (n : ds.length ≤ sizeLine) (h : Q (.tup ds) s) (k : KE K F s H Q Q0) : ∀ p, H p = none → Q0 (.ref p) (upd H p (.tup xs)) := fun p hp => by
  obtain ⟨ok1, t1, v1⟩ := ok.new (o := .tup xs) hp
  exact k _ _ _ _ t1 ok1 (.tup (SqT.of v1) (r.mono t1.ex) n) h
/-! ### + -/
abbrev rAddS : R2 := fun x y H Q => ∃ i j, x = .str i ∧ y = .str j ∧ i.length + j.length ≤ sizeLine ∧ Q (.str (i ++ j)) H
def rAddA (K : PySem.W.Frag) : R2 := fun x y H Q => rI0 (fun i j => .int (i + j)) x y H Q ∨ rAddS x y H Q ∨ rCat x y H Q ∨ rCatA K x y H Q
theorem op_addA {X : Cx} : OpR X (binaryOp .Add) (rAddA X.K) := fun pins s σ H x y v u Q I rx ry h => by
  rcases h with h | h | h | h
  · exact op_add pins s σ H x y v u Q I rx ry h
  · exact op_add_str pins s σ H x y v u Q I rx ry h
  · exact op_cat pins s σ H x y v u Q I rx ry h
  · exact op_catA pins s σ H x y v u Q I rx ry h
def fAdd : F2 := fun x y s Q => match x, y with
  | .int i, .int j => Q (.int (i + j)) s
  | .str a, .str b => a.length + b.length ≤ sizeLine ∧ Q (.str (a ++ b)) s
  | .lst a, .lst b => a.length + b.length ≤ sizeLine ∧ Q (.lst (a ++ b)) s
  | .tup a, .tup b => a.length + b.length ≤ sizeLine ∧ Q (.tup (a ++ b)) s
  | _, _ => False
theorem nil_iff {Hv : Hp} {xs : List V} {ds : List D} (r : RepL K Hv xs ds) : xs = [] ↔ ds = [] := by
  cases r with
  | nil => exact ⟨fun _ => rfl, fun _ => rfl⟩
  | cons _ _ => exact ⟨fun h => (nomatch h), fun h => (nomatch h)⟩
instance : LR K (rAddA K) fAdd := ⟨fun {F s H x y dx dy Q Q0} ok rx ry h k => by
  unfold fAdd at h
  split at h
  · cases rx; cases ry; exact .inl ⟨_, _, rfl, rfl, k _ _ _ _ Tr.refl ok .int h⟩
  · cases rx; cases ry; exact .inr (.inl ⟨_, _, rfl, rfl, h.1, k _ _ _ _ Tr.refl ok .str h.2⟩)
  · obtain ⟨a, xs, rfl, h1, h2, h3⟩ := rx
    obtain ⟨b, ys, rfl, h4, h5, h6⟩ := ry
    refine .inr (.inr (.inl ⟨a, b, xs, ys, rfl, rfl, h1, h4, by rw [h2.len, h5.len]; exact h.1, ?_⟩))
    exact new_lst ok (h2.app h5) (by rw [List.length_append]; exact h.1) h.2 k
  · obtain ⟨a, xs, rfl, h1, h2, h3⟩ := rx.tup vis_ex
    obtain ⟨b, ys, rfl, h4, h5, h6⟩ := ry.tup vis_ex
    refine .inr (.inr (.inr ⟨a, b, xs, ys, rfl, rfl, h1, h4, by rw [h2.len, h5.len]; exact h.1, fun e => ?_, fun _ e => ?_, fun _ _ => new_tup ok (h2.app h5) (by rw [List.length_append]; exact h.1) h.2 k⟩))
    · refine k _ _ _ _ Tr.refl ok ?_ h.2
      rw [(nil_iff h2).mp e, List.nil_append]
      exact ry
    · refine k _ _ _ _ Tr.refl ok ?_ h.2
      rw [(nil_iff h5).mp e, List.append_nil]
      exact rx
  · exact h.elim⟩
/-! ### * -/
abbrev rMulS : R2 := fun x y H Q => ∃ z k, x = .str z ∧ y = .int k ∧ 1 ≤ k ∧ k ≤ 100 ∧ z.length ≤ 100 ∧ Q (.str (strRep z k.toNat)) H
def rMulA (K : PySem.W.Frag) : R2 := fun x y H Q => rI CMulW (fun i j => .int (i * j)) x y H Q ∨ rMulS x y H Q ∨ rRep x y H Q ∨ rRepT K x y H Q
theorem op_mulA {X : Cx} : OpR X (binaryOp .Mult) (rMulA X.K) := fun pins s σ H x y v u Q I rx ry h => by
  rcases h with h | h | h | h
  · exact op_mulW pins s σ H x y v u Q I rx ry h
  · exact op_mulS pins s σ H x y v u Q I rx ry h
  · exact op_rep pins s σ H x y v u Q I rx ry h
  · exact op_repT pins s σ H x y v u Q I rx ry h
theorem rep_len {α : Type} (k : Nat) (ds : List α) : (List.replicate k ds).flatten.length = ds.length * k := by
  rw [List.length_flatten, List.map_replicate, List.sum_replicate_nat, Nat.mul_comm]
def fMul : F2 := fun x y s Q => match x, y with
  | .int i, .int j => CMulW i j ∧ Q (.int (i * j)) s
  | .str a, .int k => (1 ≤ k ∧ k ≤ 100 ∧ a.length ≤ 100) ∧ Q (.str (strRep a k.toNat)) s
  | .lst a, .int k => (-(2 ^ 63) ≤ k ∧ k < 2 ^ 63 ∧ a.length * k.toNat ≤ sizeLine) ∧ Q (.lst (List.replicate k.toNat a).flatten) s
  | .tup a, .int k => (a ≠ [] ∧ 2 ≤ k ∧ k ≤ 1000 ∧ a.length ≤ 1000) ∧ Q (.tup (List.replicate k.toNat a).flatten) s
  | _, _ => False
instance : LR K (rMulA K) fMul := ⟨fun {F s H x y dx dy Q Q0} ok rx ry h k => by
  unfold fMul at h
  split at h
  · cases rx; cases ry; exact .inl ⟨_, _, rfl, rfl, h.1, k _ _ _ _ Tr.refl ok .int h.2⟩
  · cases rx; cases ry; exact .inr (.inl ⟨_, _, rfl, rfl, h.1.1, h.1.2.1, h.1.2.2, k _ _ _ _ Tr.refl ok .str h.2⟩)
  · obtain ⟨a, xs, rfl, h1, h2, h3⟩ := rx
    cases ry
    refine .inr (.inr (.inl ⟨a, _, xs, rfl, rfl, h1, h.1.1, h.1.2.1, by rw [h2.len]; exact h.1.2.2, ?_⟩))
    exact new_lst ok (h2.rep _) (by rw [rep_len]; exact h.1.2.2) h.2 k
  · obtain ⟨a, xs, rfl, h1, h2, h3⟩ := rx.tup vis_ex
    cases ry
    obtain ⟨⟨n1, n2, n3, n4⟩, h⟩ := h
    refine .inr (.inr (.inr ⟨a, _, xs, rfl, rfl, h1, fun e => n1 ((nil_iff h2).mp e), n2, n3, by rw [h2.len]; exact n4, ?_⟩))
    refine new_tup ok (h2.rep _) ?_ h k
    rw [rep_len]
    rename_i kk
    have : kk.toNat ≤ 1000 := by omega
    exact Nat.le_trans (Nat.mul_le_mul n4 this) (by decide)
  · exact h.elim⟩
/-! ### // -/
abbrev rDivF : R2 := rI CDivN (fun i j => .int (i.fdiv j))
def rDivA : R2 := fun x y H Q => rDivF x y H Q ∨ rI CDivW (fun i j => .int (i / j)) x y H Q
theorem op_divA {X : Cx} : OpR X (binaryOp .FloorDiv) rDivA := fun pins s σ H x y v u Q I rx ry h => by
  rcases h with h | h
  · exact op_fdivN pins s σ H x y v u Q I rx ry h
  · exact op_fdivW pins s σ H x y v u Q I rx ry h
def fDiv : F2 := fun x y s Q => match x, y with
  | .int i, .int j => (0 < j ∧ j.natAbs.log2 < 9000) ∧ Q (.int (i / j)) s
  | _, _ => False
instance : LR K rDivA fDiv := ⟨fun {F s H x y dx dy Q Q0} ok rx ry h k => by
  unfold fDiv at h
  split at h
  · cases rx; cases ry; exact .inr ⟨_, _, rfl, rfl, h.1, k _ _ _ _ Tr.refl ok .int h.2⟩
  · exact h.elim⟩
/-! ### is None -/
def fIsN (neg : Bool) : F2 := fun x y s Q => match y with
  | .non => match x with
    | .non => Q (.bl (!neg)) s
    | .bl _ => Q (.bl neg) s
    | .int _ => Q (.bl neg) s
    | .str _ => Q (.bl neg) s
    | .tup _ => Q (.bl neg) s
    | .lst _ => Q (.bl neg) s
    | .dct _ => Q (.bl neg) s
    | .obj _ _ => Q (.bl neg) s
    | .loc _ _ => Q (.bl neg) s
    | .lck _ => Q (.bl neg) s
    | .nkd _ _ _ => Q (.bl neg) s
    | .val _ => False
  | _ => False
abbrev rIs0 : R2 := fun x y H Q => y = .non ∧ Q (.bl (decide (x = .non))) H
abbrev rIs1 : R2 := fun x y H Q => y = .non ∧ Q (.bl (!decide (x = .non))) H
theorem not_non {Hv : Hp} : ∀ {d : D}, RepW K Hv H x d → d ≠ .non → (∀ v, d ≠ .val v) → x ≠ .non := by
  intro d r h1 h2
  cases d with
  | non => exact absurd rfl h1
  | bl b => cases r; exact fun z => nomatch z
  | int i => cases r; exact fun z => nomatch z
  | str i => cases r; exact fun z => nomatch z
  | tup ds => cases r; exact fun z => nomatch z
  | lst ds => obtain ⟨a, xs, rfl, _⟩ := r; exact fun z => nomatch z
  | dct ds => obtain ⟨a, xs, rfl, _⟩ := r; exact fun z => nomatch z
  | obj C fs => obtain ⟨a, _, xs, rfl, _⟩ := r; exact fun z => nomatch z
  | val v => exact absurd rfl (h2 v)
  | loc a n => cases r; exact fun z => nomatch z
  | lck a => cases r; exact fun z => nomatch z
  | nkd _ _ _ => obtain ⟨a, xs, rfl, _⟩ := r; exact fun z => nomatch z
theorem fis {neg : Bool} (ok : OkS K F s H) (rx : RepW K (vis F s H) H x dx) (ry : RepW K (vis F s H) H y dy) (h : fIsN neg dx dy s Q) (k : KE K F s H Q Q0) : y = .non ∧ Q0 (.bl (if neg = true then !decide (x = .non) else decide (x = .non))) H := by
  unfold fIsN at h
  cases dy with
  | non =>
    refine ⟨ry, ?_⟩
    have no : dx ≠ .non → (∀ v, dx ≠ .val v) → Q (.bl neg) s → Q0 (.bl (if neg = true then !decide (x = .non) else decide (x = .non))) H := fun h1 h2 h3 => by
      rw [decide_eq_false (not_non rx h1 h2)]
      cases neg <;> exact k _ _ _ _ Tr.refl ok .bl h3
    cases dx with
    | non =>
      have e : x = .non := rx
      subst e
      cases neg <;> exact k _ _ _ _ Tr.refl ok .bl h
    | val v => exact h.elim
    | bl b => exact no (fun z => nomatch z) (fun _ z => nomatch z) h
    | int b => exact no (fun z => nomatch z) (fun _ z => nomatch z) h
    | str b => exact no (fun z => nomatch z) (fun _ z => nomatch z) h
    | tup b => exact no (fun z => nomatch z) (fun _ z => nomatch z) h
    | lst b => exact no (fun z => nomatch z) (fun _ z => nomatch z) h
    | dct b => exact no (fun z => nomatch z) (fun _ z => nomatch z) h
    | obj C b => exact no (fun z => nomatch z) (fun _ z => nomatch z) h
    | loc b n => exact no (fun z => nomatch z) (fun _ z => nomatch z) h
    | lck b => exact no (fun z => nomatch z) (fun _ z => nomatch z) h
    | nkd _ _ _ => exact no (fun z => nomatch z) (fun _ z => nomatch z) h
  | _ => exact h.elim
instance : LR K rIs0 (fIsN false) := ⟨fun {F s H x y dx dy Q Q0} ok rx ry h k => fis ok rx ry h k⟩
instance : LR K rIs1 (fIsN true) := ⟨fun {F s H x y dx dy Q Q0} ok rx ry h k => fis ok rx ry h k⟩
end
end Da

/-! Readings over data: == and in (own). -/
namespace Da
open PySem PySem.Spec PyProof.Rows L2 Evl Hd
/-- plain data, so deep at most: None, whole numbers, texts, tuples and lists of such -/
def Pl : Nat → D → Prop
  | _, .non => True
  | _, .int _ => True
  | _, .str x => PyData.strOk x = true
  | n + 1, .tup ds => ∀ d ∈ ds, Pl n d
  | n + 1, .lst ds => ∀ d ∈ ds, Pl n d
  | _, _ => False
theorem Pl.up : ∀ {n m : Nat} {d : D}, n ≤ m → Pl n d → Pl m d
  | _, m, .non, _, _ => by cases m <;> trivial
  | _, m, .int _, _, _ => by cases m <;> trivial
  | n, m, .str x, _, h => by
    have : PyData.strOk x = true := by cases n <;> exact h
    cases m <;> exact this
  | n + 1, m, .tup ds, hm, h => by
    obtain ⟨m, rfl⟩ : ∃ q, m = q + 1 := ⟨m - 1, by omega⟩
    exact fun d hd => Pl.up (by omega) (h d hd)
  | n + 1, m, .lst ds, hm, h => by
    obtain ⟨m, rfl⟩ : ∃ q, m = q + 1 := ⟨m - 1, by omega⟩
    exact fun d hd => Pl.up (by omega) (h d hd)
  | 0, _, .tup _, _, h => h.elim
  | 0, _, .lst _, _, h => h.elim
  | 0, _, .bl _, _, h => h.elim
  | _ + 1, _, .bl _, _, h => h.elim
  | 0, _, .dct _, _, h => h.elim
  | _ + 1, _, .dct _, _, h => h.elim
  | 0, _, .obj _ _, _, h => h.elim
  | _ + 1, _, .obj _ _, _, h => h.elim
  | 0, _, .val _, _, h => h.elim
  | _ + 1, _, .val _, _, h => h.elim
  | 0, _, .loc _ _, _, h => h.elim
  | _ + 1, _, .loc _ _, _, h => h.elim
  | 0, _, .lck _, _, h => h.elim
  | _ + 1, _, .lck _, _, h => h.elim
  | 0, _, .nkd _ _ _, _, h => h.elim
  | _ + 1, _, .nkd _ _ _, _, h => h.elim
mutual
def toPy : D → PyData
  | .int i => .int i
  | .str x => .str x
  | .tup ds => .tuple (toPys ds)
  | .lst ds => .list (toPys ds)
  | _ => .none
def toPys : List D → List PyData
  | [] => []
  | d :: r => toPy d :: toPys r
end
theorem py_lay : ∀ {n : Nat} {d : D}, Pl n d → (toPy d).canLay0 = true ∧ (toPy d).depth ≤ n := by
  intro n
  induction n with
  | zero =>
    intro d h
    cases d with
    | non => exact ⟨rfl, Nat.le_refl _⟩
    | int i => exact ⟨rfl, Nat.le_refl _⟩
    | str x => exact ⟨h, Nat.le_refl _⟩
    | _ => exact h.elim
  | succ n ih =>
    have all : ∀ {ds : List D}, (∀ d ∈ ds, Pl n d) → PyData.canLayAll0 (toPys ds) = true ∧ PyData.depthAll (toPys ds) ≤ n := by
      intro ds
      induction ds with
      | nil => exact fun _ => ⟨rfl, Nat.zero_le _⟩
      | cons d r ih2 =>
        intro h
        obtain ⟨a1, a2⟩ := ih (h d List.mem_cons_self)
        obtain ⟨b1, b2⟩ := ih2 fun e he => h e (List.mem_cons_of_mem _ he)
        refine ⟨?_, ?_⟩
        · show ((toPy d).canLay0 && PyData.canLayAll0 (toPys r)) = true
          rw [a1, b1]; rfl
        · show max (toPy d).depth (PyData.depthAll (toPys r)) ≤ n
          exact Nat.max_le.mpr ⟨a2, b2⟩
    intro d h
    cases d with
    | non => exact ⟨rfl, Nat.zero_le _⟩
    | int i => exact ⟨rfl, Nat.zero_le _⟩
    | str x => exact ⟨h, Nat.zero_le _⟩
    | tup ds => exact ⟨(all h).1, Nat.succ_le_succ (all h).2⟩
    | lst ds => exact ⟨(all h).1, Nat.succ_le_succ (all h).2⟩
    | _ => exact h.elim
open Classical in
theorem py_eqv : ∀ {n m : Nat} {d e : D}, Pl n d → Pl m e → PyData.eqv (toPy d) (toPy e) = decide (d = e) := by
  intro n
  induction n with
  | zero =>
    intro m d e h1 h2
    cases d with
    | non => cases e <;> first | exact (decide_eq_true rfl).symm | exact (decide_eq_false (fun z => nomatch z)).symm | (cases m <;> exact h2.elim)
    | int i => cases e <;> first | exact (decide_eq_false (fun z => nomatch z)).symm | (show (_ == _) = _; by_cases q : i = ‹Int›; · subst q; simp
                                                                                        · rw [decide_eq_false (fun z => q (D.int.inj z))]; simpa using q) | (cases m <;> exact h2.elim)
    | str i => cases e <;> first | exact (decide_eq_false (fun z => nomatch z)).symm | (show (_ == _) = _; by_cases q : i = ‹Str›; · subst q; simp
                                                                                        · rw [decide_eq_false (fun z => q (D.str.inj z))]; simpa using q) | (cases m <;> exact h2.elim)
    | _ => exact h1.elim
  | succ n ih =>
    have all : ∀ {m : Nat} {ds es : List D}, (∀ d ∈ ds, Pl n d) → (∀ e ∈ es, Pl m e) → PyData.eqvAll (toPys ds) (toPys es) = decide (ds = es) := by
      intro m ds
      induction ds with
      | nil =>
        intro es _ _
        cases es with
        | nil => exact (decide_eq_true rfl).symm
        | cons e r => exact (decide_eq_false (fun z => nomatch z)).symm
      | cons d r ih2 =>
        intro es h1 h2
        cases es with
        | nil => exact (decide_eq_false (fun z => nomatch z)).symm
        | cons e q =>
          show (PyData.eqv (toPy d) (toPy e) && PyData.eqvAll (toPys r) (toPys q)) = _
          rw [ih (h1 d List.mem_cons_self) (h2 e List.mem_cons_self), ih2 (fun x hx => h1 x (List.mem_cons_of_mem _ hx)) (fun x hx => h2 x (List.mem_cons_of_mem _ hx))]
          by_cases a : d = e
          · subst a
            by_cases b : r = q
            · subst b; simp
            · rw [decide_eq_true rfl, decide_eq_false b, decide_eq_false (fun z => b (List.cons.inj z).2)]; rfl
          · rw [decide_eq_false a, decide_eq_false (fun z => a (List.cons.inj z).1)]; rfl
    intro m d e h1 h2
    cases d with
    | non => cases e <;> first | exact (decide_eq_true rfl).symm | exact (decide_eq_false (fun z => nomatch z)).symm | (cases m <;> exact h2.elim)
    | int i => cases e <;> first | exact (decide_eq_false (fun z => nomatch z)).symm | (show (_ == _) = _; by_cases q : i = ‹Int›; · subst q; simp
                                                                                        · rw [decide_eq_false (fun z => q (D.int.inj z))]; simpa using q) | (cases m <;> exact h2.elim)
    | str i => cases e <;> first | exact (decide_eq_false (fun z => nomatch z)).symm | (show (_ == _) = _; by_cases q : i = ‹Str›; · subst q; simp
                                                                                        · rw [decide_eq_false (fun z => q (D.str.inj z))]; simpa using q) | (cases m <;> exact h2.elim)
    | tup ds =>
      cases e with
      | tup es =>
        cases m with
        | zero => exact h2.elim
        | succ m =>
          show PyData.eqvAll (toPys ds) (toPys es) = _
          rw [all h1 h2]
          by_cases q : ds = es
          · subst q; simp
          · rw [decide_eq_false q, decide_eq_false (fun z => q (D.tup.inj z))]
      | _ => first | exact (decide_eq_false (fun z => nomatch z)).symm | (cases m <;> exact h2.elim)
    | lst ds =>
      cases e with
      | lst es =>
        cases m with
        | zero => exact h2.elim
        | succ m =>
          show PyData.eqvAll (toPys ds) (toPys es) = _
          rw [all h1 h2]
          by_cases q : ds = es
          · subst q; simp
          · rw [decide_eq_false q, decide_eq_false (fun z => q (D.lst.inj z))]
      | _ => first | exact (decide_eq_false (fun z => nomatch z)).symm | (cases m <;> exact h2.elim)
    | _ => exact h1.elim
theorem py_dp {K : PySem.W.Frag} {H : Hp} : ∀ {n : Nat} {v : V} {d : D}, Rep K H v d → Pl n d → Dp K H v (toPy d) := by
  intro n
  induction n with
  | zero =>
    intro v d r h
    cases r with
    | non => exact .non
    | int => exact .int _
    | str => exact .str _
    | _ => exact h.elim
  | succ n ih =>
    have all : ∀ {vs : List V} {ds : List D}, RepL K H vs ds → (∀ d ∈ ds, Pl n d) → DpAll K H vs (toPys ds) := by
      intro vs ds
      induction ds generalizing vs with
      | nil => intro r _; cases r; exact .nil
      | cons d q ih2 =>
        intro r h
        cases r with
        | cons r1 r2 => exact .cons (ih r1 (h _ List.mem_cons_self)) (ih2 r2 fun e he => h e (List.mem_cons_of_mem _ he))
    intro v d r h
    cases r with
    | non => exact .non
    | int => exact .int _
    | str => exact .str _
    | tup h1 h2 _ => exact .tup h1 (all h2 h)
    | lst h1 h2 _ => exact .lst (SqL.of h1) (all h2 h)
    | _ => exact h.elim
theorem pys_dp {K : PySem.W.Frag} {H : Hp} {n : Nat} : ∀ {vs : List V} {ds : List D}, RepL K H vs ds → (∀ d ∈ ds, Pl n d) → DpAll K H vs (toPys ds)
  | _, _, .nil, _ => .nil
  | _, _, .cons r1 r2, h => .cons (py_dp r1 (h _ List.mem_cons_self)) (pys_dp r2 fun e he => h e (List.mem_cons_of_mem _ he))
theorem RepW.dp {K : PySem.W.Frag} {Hv H : Hp} (e : Ex Hv H) {n : Nat} {v : V} {d : D} (r : RepW K Hv H v d) (h : Pl n d) : Dp K H v (toPy d) := by
  cases d with
  | non => cases r; exact .non
  | int i => cases r; exact .int _
  | str x => cases r; exact .str _
  | tup ds => exact py_dp (Rep.mono e r) h
  | lst ds =>
    obtain ⟨a, xs, rfl, h1, h2, _⟩ := r
    cases n with
    | zero => exact h.elim
    | succ n => exact .lst (SqL.of h1) (pys_dp (h2.mono e) h)
  | _ => cases n <;> exact h.elim
theorem py_shaped {n : Nat} {d : D} (h : Pl n d) (hn : n ≤ 64) : SeqAt.shaped (toPy d) = true := by
  obtain ⟨h1, h2⟩ := py_lay h
  unfold SeqAt.shaped
  rw [h1, decide_eq_true (Nat.le_trans h2 hn)]
  rfl
section
variable {K : PySem.W.Frag} {F : Fr} {s : S} {H : Hp} {x y : V} {dx dy : D} {Q : QD} {Q0 : VK}
def rEqA (K : PySem.W.Frag) : R2 := fun x y H Q => rEq x y H Q ∨ rEqD K x y H Q
def rNeA (K : PySem.W.Frag) : R2 := fun x y H Q => rNe x y H Q ∨ rNeD K x y H Q
theorem op_eqA {X : Cx} (hu : X.A.units + 64 < cLine) : OpR X (compareOp .Eq) (rEqA X.K) := fun pins s σ H x y v u Q I rx ry h => by
  rcases h with h | h
  · exact op_eq pins s σ H x y v u Q I rx ry h
  · exact op_eqD hu pins s σ H x y v u Q I rx ry h
theorem op_neA {X : Cx} (hu : X.A.units + 64 < cLine) : OpR X (compareOp .NotEq) (rNeA X.K) := fun pins s σ H x y v u Q I rx ry h => by
  rcases h with h | h
  · exact op_ne pins s σ H x y v u Q I rx ry h
  · exact op_neD hu pins s σ H x y v u Q I rx ry h
open Classical in
/-- == of plain data is equality -/
def DeepEq (x y : D) (k : Bool → Prop) : Prop := (∃ n m, n ≤ 64 ∧ m ≤ 64 ∧ Pl n x ∧ Pl m y) ∧ k (decide (x = y))
def fEqK (x y : D) (k : Bool → Prop) : Prop := match x, y with
  | .int i, .int j => k (decide (i = j))
  | .str a, .str b => k (decide (a = b))
  | .non, .non => k true
  | .bl a, .bl b => k (decide (a = b))
  | .non, .int _ => k false
  | .int _, .non => k false
  | .non, .str _ => k false
  | .str _, .non => k false
  | .non, .bl _ => k false
  | .bl _, .non => k false
  | .int _, .str _ => k false
  | .str _, .int _ => k false
  | .lst a, .lst b => DeepEq (.lst a) (.lst b) k
  | .tup a, .tup b => DeepEq (.tup a) (.tup b) k
  | .lst a, .tup b => DeepEq (.lst a) (.tup b) k
  | .tup a, .lst b => DeepEq (.tup a) (.lst b) k
  | _, _ => False
def fEq (neg : Bool) : F2 := fun x y s Q => fEqK x y fun b => Q (.bl (if neg = true then !b else b)) s
theorem feq (ok : OkS K F s H) (rx : RepW K (vis F s H) H x dx) (ry : RepW K (vis F s H) H y dy) {k : Bool → Prop} (h : fEqK dx dy k) : ∃ b, k b ∧ ((scal x y = true ∧ decide (x = y) = b) ∨ ∃ d e, Dp K H x d ∧ Dp K H y e ∧ SeqAt.shaped d = true ∧ SeqAt.shaped e = true ∧ PyData.eqv d e = b) := by
  have deep : ∀ {a b : D}, RepW K (vis F s H) H x a → RepW K (vis F s H) H y b → DeepEq a b k → ∃ b, k b ∧ ((scal x y = true ∧ decide (x = y) = b) ∨ ∃ d e, Dp K H x d ∧ Dp K H y e ∧ SeqAt.shaped d = true ∧ SeqAt.shaped e = true ∧ PyData.eqv d e = b) := fun {a b} ra rb h => by
    obtain ⟨⟨n, m, hn, hm, h1, h2⟩, h3⟩ := h
    exact ⟨_, h3, .inr ⟨_, _, ra.dp vis_ex h1, rb.dp vis_ex h2, py_shaped h1 hn, py_shaped h2 hm, py_eqv h1 h2⟩⟩
  unfold fEqK at h
  split at h
  · cases rx; cases ry; exact ⟨_, h, .inl ⟨rfl, by simp [V.int.injEq]⟩⟩
  · cases rx; cases ry; exact ⟨_, h, .inl ⟨rfl, by simp [V.str.injEq]⟩⟩
  · cases rx; cases ry; exact ⟨_, h, .inl ⟨rfl, decide_eq_true rfl⟩⟩
  · cases rx; cases ry; exact ⟨_, h, .inl ⟨rfl, by simp [V.bl.injEq]⟩⟩
  all_goals first | (cases rx; cases ry; exact ⟨_, h, .inl ⟨rfl, decide_eq_false fun z => nomatch z⟩⟩) | exact deep rx ry h | exact h.elim
instance : LR K (rEqA K) (fEq false) := ⟨fun {F s H x y dx dy Q Q0} ok rx ry h k => by
  obtain ⟨b, h1, h2⟩ := feq ok rx ry h
  rcases h2 with ⟨h2, h3⟩ | ⟨d, e, h2, h3, h4, h5, h6⟩
  · exact .inl ⟨h2, by rw [h3]; exact k _ _ _ _ Tr.refl ok .bl h1⟩
  · exact .inr ⟨d, e, h2, h3, h4, h5, by rw [h6]; exact k _ _ _ _ Tr.refl ok .bl h1⟩⟩
instance : LR K (rNeA K) (fEq true) := ⟨fun {F s H x y dx dy Q Q0} ok rx ry h k => by
  obtain ⟨b, h1, h2⟩ := feq ok rx ry h
  rcases h2 with ⟨h2, h3⟩ | ⟨d, e, h2, h3, h4, h5, h6⟩
  · exact .inl ⟨h2, by rw [h3]; exact k _ _ _ _ Tr.refl ok .bl h1⟩
  · exact .inr ⟨d, e, h2, h3, h4, h5, by rw [h6]; exact k _ _ _ _ Tr.refl ok .bl h1⟩⟩
/-! ### in -/
abbrev rSign (neg : Bool) : R2 := fun x y H Q => ∃ (c : Nat) (z : Str), x = .str ⟨#[c]⟩ ∧ y = .str z ∧ Q (.bl (if neg = true then !decide (c ∈ z.cps.toList) else decide (c ∈ z.cps.toList))) H
def rInA (K : PySem.W.Frag) (neg : Bool) : R2 := fun x y H Q => rIn K neg x y H Q ∨ rSign neg x y H Q ∨ ∃ d ds, Dp K H x d ∧ Dp K H y (.list ds) ∧ SeqAt.shaped d = true ∧ SeqAt.shaped (.list ds) = true ∧ Q (.bl (if neg = true then !ds.any fun z => PyData.eqv z d else ds.any fun z => PyData.eqv z d)) H
theorem op_inA {X : Cx} (hu : X.A.units + 65 < cLine) : OpR X (compareOp .In) (rInA X.K false) := fun pins s σ H x y v u Q I rx ry h => by
  rcases h with h | h | h
  · exact op_in_seq pins s σ H x y v u Q I rx ry h
  · exact op_in_sign pins s σ H x y v u Q I rx ry h
  · exact op_inD hu pins s σ H x y v u Q I rx ry h
theorem op_ninA {X : Cx} (hu : X.A.units + 65 < cLine) : OpR X (compareOp .NotIn) (rInA X.K true) := fun pins s σ H x y v u Q I rx ry h => by
  rcases h with h | h | h
  · exact op_notIn_seq pins s σ H x y v u Q I rx ry h
  · exact op_notIn_sign pins s σ H x y v u Q I rx ry h
  · exact op_notInD hu pins s σ H x y v u Q I rx ry h
open Classical in
def fIn (neg : Bool) : F2 := fun x y s Q => match y with
  | .lst ds => (∃ n, n ≤ 60 ∧ Pl n x ∧ ∀ d ∈ ds, Pl n d) ∧ Q (.bl (if neg = true then !decide (x ∈ ds) else decide (x ∈ ds))) s
  | .tup ds => (Pl 0 x ∧ ∀ d ∈ ds, Pl 0 d) ∧ Q (.bl (if neg = true then !decide (x ∈ ds) else decide (x ∈ ds))) s
  | .str z => ∃ c, x = .str ⟨#[c]⟩ ∧ Q (.bl (if neg = true then !decide (c ∈ z.cps.toList) else decide (c ∈ z.cps.toList))) s
  | _ => False
open Classical in
theorem any_py {n : Nat} {x : D} (hx : Pl n x) : ∀ {ds : List D}, (∀ d ∈ ds, Pl n d) → ((toPys ds).any fun z => PyData.eqv z (toPy x)) = decide (x ∈ ds)
  | [], _ => (decide_eq_false (List.not_mem_nil)).symm
  | d :: r, h => by
    show (PyData.eqv (toPy d) (toPy x) || (toPys r).any fun z => PyData.eqv z (toPy x)) = _
    rw [py_eqv (h d List.mem_cons_self) hx, any_py hx fun e he => h e (List.mem_cons_of_mem _ he)]
    by_cases a : d = x
    · subst a; simp
    · by_cases b : x ∈ r
      · rw [decide_eq_false a, decide_eq_true b, decide_eq_true (List.mem_cons_of_mem _ b)]; rfl
      · rw [decide_eq_false a, decide_eq_false b, decide_eq_false (fun z => (List.mem_cons.mp z).elim (fun e => a e.symm) b)]; rfl
theorem flat0 {Hv : Hp} {v : V} {d : D} (r : Rep K Hv v d) (h : Pl 0 d) : flatV v = true := by
  cases r with
  | non => rfl
  | int => rfl
  | str => rfl
  | _ => exact h.elim
theorem flats0 {Hv : Hp} : ∀ {vs : List V} {ds : List D}, RepL K Hv vs ds → (∀ d ∈ ds, Pl 0 d) → vs.all flatV = true
  | _, _, .nil, _ => rfl
  | _, _, .cons r1 r2, h => by
    rw [List.all_cons, flat0 r1 (h _ List.mem_cons_self), flats0 r2 fun e he => h e (List.mem_cons_of_mem _ he)]
    rfl
open Classical in
theorem eqV0 {Hv : Hp} {v u : V} {d e : D} (r : Rep K Hv v d) (q : Rep K Hv u e) (h : Pl 0 d) (h2 : Pl 0 e) : eqV v u = decide (d = e) := by
  cases r with
  | non =>
    cases q with
    | non => exact (decide_eq_true rfl).symm
    | int => exact (decide_eq_false fun z => nomatch z).symm
    | str => exact (decide_eq_false fun z => nomatch z).symm
    | _ => exact h2.elim
  | @int i =>
    cases q with
    | non => exact (decide_eq_false fun z => nomatch z).symm
    | @int j =>
      show (i == j) = _
      by_cases e : i = j
      · subst e; simp
      · rw [decide_eq_false fun z => e (D.int.inj z)]; simpa using e
    | str => exact (decide_eq_false fun z => nomatch z).symm
    | _ => exact h2.elim
  | @str i =>
    cases q with
    | non => exact (decide_eq_false fun z => nomatch z).symm
    | int => exact (decide_eq_false fun z => nomatch z).symm
    | @str j =>
      show (i == j) = _
      by_cases e : i = j
      · subst e; simp
      · rw [decide_eq_false fun z => e (D.str.inj z)]; simpa using e
    | _ => exact h2.elim
  | _ => exact h.elim
open Classical in
theorem inV0 {Hv : Hp} {u : V} {x : D} (q : Rep K Hv u x) (hx : Pl 0 x) : ∀ {vs : List V} {ds : List D}, RepL K Hv vs ds → (∀ d ∈ ds, Pl 0 d) → inV u vs = decide (x ∈ ds)
  | _, _, .nil, _ => (decide_eq_false (List.not_mem_nil)).symm
  | _, _, @RepL.cons _ _ v d vs ds r1 r2, h => by
    show (eqV v u || inV u vs) = _
    rw [eqV0 r1 q (h _ List.mem_cons_self) hx, inV0 q hx r2 fun e he => h e (List.mem_cons_of_mem _ he)]
    by_cases a : d = x
    · subst a; simp
    · by_cases b : x ∈ ds
      · rw [decide_eq_false a, decide_eq_true b, decide_eq_true (List.mem_cons_of_mem _ b)]; rfl
      · rw [decide_eq_false a, decide_eq_false b, decide_eq_false (fun z => (List.mem_cons.mp z).elim (fun e => a e.symm) b)]; rfl
theorem RepW.flat {Hv : Hp} (r : RepW K Hv H x dx) (h : Pl 0 dx) : Rep K Hv x dx := by
  cases dx with
  | non => cases r; exact .non
  | int i => cases r; exact .int
  | str i => cases r; exact .str
  | _ => exact h.elim
instance {neg : Bool} : LR K (rInA K neg) (fIn neg) := ⟨fun {F s H x y dx dy Q Q0} ok rx ry h k => by
  unfold fIn at h
  split at h
  · rename_i ds
    obtain ⟨⟨n, hn, h1, h2⟩, h3⟩ := h
    refine .inr (.inr ⟨_, _, rx.dp vis_ex h1, ry.dp (n := n + 1) vis_ex h2, py_shaped h1 (by omega), py_shaped (n := n + 1) (d := .lst ds) h2 (by omega), ?_⟩)
    rw [any_py h1 h2]
    exact k _ _ _ _ Tr.refl ok .bl h3
  · rename_i ds
    obtain ⟨⟨h1, h2⟩, h3⟩ := h
    obtain ⟨a, xs, rfl, q1, q2, q3⟩ := ry.tup vis_ex
    refine .inl ⟨a, xs, rfl, .inr q1, flat0 (rx.flat h1) h1, flats0 q2 h2, ?_⟩
    rw [inV0 (rx.flat h1) h1 q2 h2]
    exact k _ _ _ _ Tr.refl ok .bl h3
  · obtain ⟨c, rfl, h3⟩ := h
    cases rx
    cases ry
    exact .inr (.inl ⟨c, _, rfl, rfl, k _ _ _ _ Tr.refl ok .bl h3⟩)
  · exact h.elim⟩
end
end Da

/-! A walk over enumerate(a tuple). -/
namespace En
open PySem PySem.Spec PyProof.Rows L2 Evl
theorem meets_newT (tp : Addr) (its : Array Value) :
    Meets (Builtin.«enumerate.__new__» ⟨[.type "enumerate", .ref tp], []⟩) (fun _ R st => st.heap.IsTuple tp its ∧
      R (.ok (.ret (.ref (st.heap.push { cls := .type "tuple_iterator", data := .fields #[.ref tp, .int 0 0] }).objs.size)))
        { st with heap := (st.heap.push { cls := .type "tuple_iterator", data := .fields #[.ref tp, .int 0 0] }).push { cls := .type "enumerate", data := .fields #[.none, .bool false, .ref st.heap.objs.size, rawInt 0, .none, .none] } }) :=
  .of_wp fun pr wo Ar Rr st ⟨hT, fin⟩ => by
    obtain ⟨hp, gl, di, to, ou⟩ := st; have hsb := sub_enumerate
    have q1 : ∀ {A' : Around} {E Q : Value → Shared → Prop}, Q (.ref hp.objs.size) ⟨hp.push { cls := .type "tuple_iterator", data := .fields #[.ref tp, .int 0 0] }, gl, di, to, ou⟩ → wpAny (model pr wo) A' (pyIter (.ref tp)) Q E ⟨hp, gl, di, to, ou⟩ := fun q => wpAny_pyIter_tuple hT q
    wp_walk using q1
    refine wpAny_stack_any fun st' => wpAny_pure ?_
    split
    · rename_i cc _ _ _ _ _
      cases (cc == Value.type "enumerate") <;> (wp_walk using q1; exact ⟨_, rfl, fin⟩)
    · wp_walk using q1
      exact ⟨_, rfl, fin⟩
theorem call_enumT {prog : Program} {w : World} {A : Around} {E : Value → Shared → Prop} {s : Shared} {tp : Addr} {its : Array Value} {Q : Value → Shared → Prop} (hT : s.heap.IsTuple tp its)
    (k : ∀ h', IsEnum h' (s.heap.objs.size + 1) s.heap.objs.size 0 .none → h'.IsTupleIter s.heap.objs.size tp 0 → (∀ b o, s.heap.get? b = some o → h'.get? b = some o) → Q (.ref (s.heap.objs.size + 1)) { s with heap := h' }) :
    wpAny (model prog w) A (call (.type "enumerate") [.ref tp]) Q E s := by
  refine callType_new F.called_enumerate (by decide) (F.typeCall_enumerate_1 _) (F.newCall_enumerate_1 _) (fun o => F.args_object_init_2 o _) F.entry_enumerate_new (meets_newT tp its) ⟨hT, ?_⟩
  have hz : (s.heap.push { cls := .type "tuple_iterator", data := .fields #[.ref tp, .int 0 0] }).objs.size = s.heap.objs.size + 1 := Heap.size_push ..
  show _ ∧ _
  rw [hz]
  have he : IsEnum ((s.heap.push { cls := .type "tuple_iterator", data := .fields #[.ref tp, .int 0 0] }).push { cls := .type "enumerate", data := .fields #[.none, .bool false, .ref s.heap.objs.size, rawInt 0, .none, .none] }) (s.heap.objs.size + 1) s.heap.objs.size 0 .none := by
    have z := Heap.get?_push_size (s.heap.push { cls := .type "tuple_iterator", data := .fields #[.ref tp, .int 0 0] }) (o := { cls := .type "enumerate", data := .fields #[.none, .bool false, .ref s.heap.objs.size, rawInt 0, .none, .none] }) rfl
    rw [hz] at z; exact z
  exact ⟨⟨_, he, rfl⟩, k _ he ⟨_, Heap.get?_push_of_some _ (Heap.get?_push_size _ rfl), rfl, rfl⟩ fun b o y => Heap.get?_push_of_some _ (Heap.get?_push_of_some _ y)⟩
/-- the tuple at a at each turn, each item in a new pair -/
def IteT (K : PySem.W.Frag) (a : Addr) : It :=
  ⟨fun i H => ∃ (xs : List V) (x : V), SqT K H a xs ∧ xs[i]? = some x, fun i H v H' => ∃ t x, v = .ref t ∧ H t = none ∧ H' = upd H t (.tup [.int (i : Nat), x]) ∧ ∀ ys, SqT K H a ys → ys[i]? = some x, fun i H => ∃ xs : List V, SqT K H a xs ∧ xs.length ≤ i⟩
theorem turn_enumT {P : Program} {w : World} {K : PySem.W.Frag} {elts : List Expr} {kk : Nat} {tpos : Pos} (a e it : Addr) :
    Turn P w K (.Tuple elts kk tpos) (IteT K a) [e, it] e (fun i h => (∃ old, IsEnum h e it (0 + ((i : Nat) : Int)) old) ∧ h.IsTupleIter it a i ∧ e ≠ it) where
  mem := by simp
  obj := fun i h st b hb => by
    obtain ⟨⟨old, he⟩, ⟨o, ho, hc, hd⟩, _⟩ := st
    rcases (by simpa using hb : b = e ∨ b = it) with z | z
    · subst z
      exact ⟨_, he, fun v q => nomatch q⟩
    · subst z
      exact ⟨o, ho, fun v q => by rw [hd] at q; cases q⟩
  keep := fun i h h' ⟨⟨old, he⟩, hi, hne⟩ k => ⟨⟨old, k e (by simp) _ he⟩, hi.at fun o q => k it (by simp) o q, hne⟩
  item := by
    intro X hP hw hK hc i pins s σ H E I hf st hg
    subst hP hw hK
    obtain ⟨⟨old, he⟩, hit, hne⟩ := st
    obtain ⟨xs, x, hq, hx⟩ := hg
    obtain ⟨its, rv, p, hz⟩ := I.tuple hq
    have pT : s.heap.IsTuple a its.toArray := p
    obtain ⟨u, hu, ru⟩ := rv.get hx
    have hel : e < s.heap.objs.size := Heap.lt_size he
    have hil : it < s.heap.objs.size := by obtain ⟨_, q, _⟩ := hit; exact Heap.lt_size q
    have hae : a ≠ e := fun z => by
      subst z
      obtain ⟨o, ho, hcl, _⟩ := pT
      rw [he] at ho
      cases ho
      exact absurd (Value.type.inj hcl) (by decide)
    have hai : a ≠ it := fun z => by
      subst z
      obtain ⟨o, ho, hcl, _⟩ := pT
      obtain ⟨o2, ho2, hc2, _⟩ := hit
      rw [ho] at ho2
      cases ho2
      rw [hcl] at hc2
      exact absurd (Value.type.inj hc2) (by decide)
    have D := Draws.tuple (prog := X.prog) (w := X.w) (A := X.A.in1) (show X.A.in1.handled = none from I.ok.hd hc) it a hai its.toArray
    have hlt : i < its.toArray.size := by
      rw [List.size_toArray]
      exact (List.getElem?_eq_some_iff.mp hu).1
    refine wpAny_pyNext_enum_itemC D he ⟨hit, pT⟩ hlt hne (by simp [hne, Ne.symm hae]) fun y h' tk hy ho hst' hT hsz hk => ?_
    have hyu : y = u := by
      have hu' : its.toArray[i]? = some u := by simpa using hu
      rw [hu'] at hy
      cases hy
      rfl
    subst hyu
    refine ⟨_, rfl, wpAny_letOwnedTupleGo_enum (s := { s with heap := h', toks := tk + 1 }) ho fun h2 he2 sb => ?_⟩
    have hT2 : h2.get? s.heap.objs.size = some { cls := .type "tuple", data := .seq #[.int (0 + (i : Int)) tk, y] } := (sb.2 _ (Nat.ne_of_gt hel)).trans hT
    have ei : (0 : Int) + (i : Int) = ((i : Nat) : Int) := by omega
    rw [ei] at hT2
    have new : ObjOk X.prog X.w (upd H s.heap.objs.size (.tup [.int (i : Nat), x])) h2 s.heap.objs.size (.tup [.int (i : Nat), x]) := ⟨by show 2 ≤ sizeLine; decide, [.int i tk, y], .cons ⟨_, rfl⟩ (.cons ru .nil), ⟨_, hT2, rfl, _, rfl⟩⟩
    have I1 : Inv X pins σ (upd H s.heap.objs.size (.tup [.int (i : Nat), x])) { s with heap := h2, toks := tk + 1 } :=
      I.turnedNew (ch := [e, it]) (fun b ob hb q => (sb.2 b fun z => hb (by simp [z])).trans (hk b ob (fun z => hb (by simp [z])) (fun z => hb (by simp [z])) q)) hf (Nat.le_refl _) new
    refine ⟨.ref s.heap.objs.size, _, I1, rfl, ⟨_, x, rfl, I.hok.fresh (Nat.le_refl _), rfl, fun ys hys => by rw [I.tuple_inj hys hq]; exact hx⟩, ⟨⟨y, ?_⟩, hst'.1.at fun o q => (sb.2 it (Ne.symm hne)).trans q, hne⟩, fun b hb => ?_⟩
    · have e1 : (0 : Int) + ((i + 1 : Nat) : Int) = 0 + (i : Int) + 1 := by omega
      rw [e1]
      exact he2
    · have hb' : b < s.heap.objs.size := by
        rcases (by simpa using hb : b = e ∨ b = it) with z | z
        · rw [z]; exact hel
        · rw [z]; exact hil
      rw [upd_ne (Nat.ne_of_lt hb')]
      exact (hf b hb).1
  done := by
    intro X hP hw hK hc i pins s σ H E I hf st hg
    subst hP hw hK
    obtain ⟨⟨old, he⟩, hit, hne⟩ := st
    obtain ⟨xs, hq, hx⟩ := hg
    obtain ⟨its, rv, p, hz⟩ := I.tuple hq
    have pT : s.heap.IsTuple a its.toArray := p
    obtain ⟨f0, f1, f2, f3, f4, f5⟩ := hf it (by simp)
    have hl := rv.length
    have hai : a ≠ it := fun z => by
      subst z
      obtain ⟨o, ho, hcl, _⟩ := pT
      obtain ⟨o2, ho2, hc2, _⟩ := hit
      rw [ho] at ho2
      cases ho2
      rw [hcl] at hc2
      exact absurd (Value.type.inj hc2) (by decide)
    have D : Draws X.prog X.w X.A.in1 it [it, a] 0 (fun _ _ => False) (fun _ h => h.IsTupleIter it a i ∧ h.IsTuple a its.toArray) :=
      ⟨fun _ _ z => let ⟨o, ho, _⟩ := z.1; ⟨o, ho⟩, fun _ _ _ z y => ⟨z.1.at fun o q => y it (by simp) o q, z.2.at fun o q => y a (by simp) o q⟩, fun j _ _ _ hj => (Nat.not_lt_zero j hj).elim, fun s Q E z hE => wpAny_nextOf_tuple_end (show X.A.in1.handled = none from I.ok.hd hc) z.1 z.2 (by simp; omega) hE⟩
    exact wpAny_pyNext_enum_endD D he ⟨hit, pT⟩ fun h' eb => ⟨rfl, I.turned (t' := s.toks) (fun b o hb q => eb b o hb q) f0 f1 f3 f4 f5⟩
  self := fun A i s Q E ⟨⟨_, he⟩, _⟩ h => wpAny_pyIter_enum he h
/-- enumerate of a list or of a tuple, read as enumerate of a tuple -/
def iEnumT (K : PySem.W.Frag) (ta : TA) : TI := fun σ H R => ta σ H fun vs H1 => ∃ a xs, vs = [.ref a] ∧ SqT K H1 a xs ∧ R (IteT K a) H1
theorem pi_enumT {X : Cx} {e : Expr} {ta : TA} {p pos tpos : Pos} {elts : List Expr} {kk : Nat} (hg : Gl X "enumerate") (hm : X.mg "enumerate" = none) (ha : PA X [e] ta) (hs : starEach [e] X.env = [(false, eval e X.env)] := by rfl) :
    PI X (.Tuple elts kk tpos) (.Call (.Name "enumerate" p) [e] [] pos) (iEnumT X.K ta) := by
  refine ⟨fun pins st σ H R I h => Call_ (ld_blt I hg hm boot_enumerate (PyProof.Rows.callWith_type1 (thn (ha.run pos pins st σ H _ I h) fun us s1 ⟨vs, H1, I1, r1, a, xs, ex, hq, q⟩ => ?_) hs rfl))⟩
  subst ex
  cases r1 with
  | cons r rr =>
    cases rr
    cases r
    obtain ⟨its, rv, p', hz⟩ := I1.tuple hq
    have pT : s1.heap.IsTuple a its.toArray := p'
    refine call_enumT pT fun h' he hit hk => wpAny_pyIter_enum he ?_
    have I2 : Inv X pins σ H1 { s1 with heap := h' } := I1.kept (t' := s1.toks) hk
    refine ⟨s1.heap.objs.size + 1, [s1.heap.objs.size + 1, s1.heap.objs.size], _, _, H1, rfl, I2, turn_enumT a (s1.heap.objs.size + 1) s1.heap.objs.size, ⟨⟨.none, he⟩, hit, Nat.succ_ne_self _⟩, fun b hb => ?_, q⟩
    have hle : s1.heap.objs.size ≤ b := by
      rcases (by simpa using hb : b = s1.heap.objs.size + 1 ∨ b = s1.heap.objs.size) with z | z
      · rw [z]; exact Nat.le_add_right _ _
      · rw [z]; exact Nat.le_refl _
    exact I1.fpOk hle (I1.hok.fresh hle)
end En

/-! Readings over data: displays, subscripts, built-ins, walks (own). -/
namespace Da
open PySem PySem.Spec PyProof.Rows L2 Evl Hd
section
variable {K : PySem.W.Frag} {F : Fr} {s : S} {H : Hp} {x y : V} {dx dy : D} {Q : QD} {Q0 : VK}
/-! ### displays -/
def wTup (wa : WA) : WE := fun Γ s Q => wa Γ s fun ds s1 => escA s1 ds fun ds' s2 => ds'.length ≤ sizeLine ∧ Q (.tup ds') s2
instance {ta : TA} {wa : WA} [l : LA K ta wa] : LE K (tTup ta) (wTup wa) := ⟨fun {F s H σ Γ Q Q0} a h k => l.go a h fun vs H1 ds s1 t1 ok1 r1 h1 => by
  obtain ⟨ds', s2, ⟨h2, h3⟩, ok2, t2, r2⟩ := escs ok1 r1 h1
  exact ⟨by rw [r2.len]; exact h2, new_tup ok2 r2 h2 h3 fun v H3 d s3 t3 ok3 r3 h4 => k v H3 d s3 ((t1.trans t2).trans t3) ok3 r3 h4⟩⟩
def wLst (wa : WA) : WE := fun Γ s Q => wa Γ s fun ds s1 => escA s1 ds fun ds' s2 => ds'.length ≤ sizeLine ∧ Q (.lst ds') s2
instance {ta : TA} {wa : WA} [l : LA K ta wa] : LE K (tLst ta) (wLst wa) := ⟨fun {F s H σ Γ Q Q0} a h k => l.go a h fun vs H1 ds s1 t1 ok1 r1 h1 => by
  obtain ⟨ds', s2, ⟨h2, h3⟩, ok2, t2, r2⟩ := escs ok1 r1 h1
  exact ⟨by rw [r2.len]; exact h2, new_lst ok2 r2 h2 h3 fun v H3 d s3 t3 ok3 r3 h4 => k v H3 d s3 ((t1.trans t2).trans t3) ok3 r3 h4⟩⟩
/-- a value of the written part, by what it stands for -/
def tCg (v : V) (d : D) (h : ∀ H, Rep K H v d) : TE := tC v
theorem pe_g {X : Cx} {e : Expr} {v : V} {d : D} (h : ∀ H, Rep X.K H v d) (p : PE X e (tC v)) : PE X e (tCg v d h) := p
instance {v : V} {d : D} {r : ∀ H, Rep K H v d} : LE K (tCg v d r) (wC d) := ⟨fun {F s H σ Γ Q Q0} a h k => k v H _ s Tr.refl a.ok (r _) h⟩
theorem u65 {k : Nat} {A : Around} (r : Room k A) : A.units + 65 < cLine := by have := r.un; omega
def asL (d : D) (k : List D → Prop) : Prop := match d with
  | .lst ds => k ds
  | _ => False
def wStar (we : WE) (wr : WA) : WA := fun Γ s Q => we Γ s fun d s1 => escP s1 d fun d' s1 => asL d' fun ds => wr Γ s1 fun es s2 => Q (ds ++ es) s2
instance {te : TE} {tr : TA} {we : WE} {wr : WA} [l : LE K te we] [lr : LA K tr wr] : LA K (Nr.tStar K te tr) (wStar we wr) := ⟨fun {F s H σ Γ Q Q0} a h k => l.go a h fun v H1 d s1 t1 ok1 r1 h1 => by
  obtain ⟨d', s2, h2, ok2, t2, r2⟩ := esc ok1 r1 h1
  cases d' with
  | lst ds =>
    cases r2 with
    | @lst b xs _ q1 q2 q3 =>
      exact ⟨b, xs, rfl, SqL.of (vis_ex _ _ q1), lr.go (a.to (t1.trans t2) ok2) h2 fun vs H3 es s3 t3 ok3 r3 h3 => k _ H3 _ s3 ((t1.trans t2).trans t3) ok3 ((q2.mono t3.ex).app r3) h3⟩
  | _ => exact h2.elim⟩
/-! ### subscripts -/
def fIx : F2 := fun x y s Q => match x, y with
  | .lst ds, .int i => ∃ d, atI ds i = some d ∧ Q d s
  | .tup ds, .int i => ∃ d, atI ds i = some d ∧ Q d s
  | .str z, .int i => ∃ c, atI z.cps.toList i = some c ∧ z.length ≤ sizeLine ∧ Q (.str ⟨#[c]⟩) s
  | _, _ => False
theorem at_rep {Hv : Hp} {vs : List V} {ds : List D} (r : RepL K Hv vs ds) {i : Int} {d : D} (h : atI ds i = some d) : ∃ v, atI vs i = some v ∧ Rep K Hv v d := by
  unfold atI at h ⊢
  rw [r.len]
  cases e : ixN ds.length i with
  | none => rw [e] at h; cases h
  | some j =>
    rw [e] at h
    exact r.get h
instance : LR K (rIx K) fIx := ⟨fun {F s H x y dx dy Q Q0} ok rx ry h k => by
  unfold fIx at h
  split at h
  · obtain ⟨a, xs, rfl, h1, h2, h3⟩ := rx
    cases ry
    obtain ⟨d, e, q⟩ := h
    obtain ⟨v, e2, r⟩ := at_rep h2 e
    exact .inl ⟨a, xs, _, v, rfl, rfl, SqL.of h1, e2, k _ _ _ _ Tr.refl ok r q⟩
  · obtain ⟨a, xs, rfl, h1, h2, h3⟩ := rx.tup vis_ex
    cases ry
    obtain ⟨d, e, q⟩ := h
    obtain ⟨v, e2, r⟩ := at_rep h2 e
    exact .inr (.inl ⟨a, xs, _, v, rfl, rfl, h1, e2, k _ _ _ _ Tr.refl ok r q⟩)
  · cases rx
    cases ry
    obtain ⟨c, e, n, q⟩ := h
    exact .inr (.inr ⟨_, _, c, rfl, rfl, n, e, k _ _ _ _ Tr.refl ok .str q⟩)
  · exact h.elim⟩
def keyD : D → Option Key
  | .int i => some (Sum.inl i)
  | .str x => some (Sum.inr x)
  | _ => none
theorem keyD_v {Hv : Hp} {v : V} {d : D} {k : Key} (r : RepW K Hv H v d) (e : keyD d = some k) : v = kV k := by
  cases d with
  | int i => cases r; cases e; rfl
  | str i => cases r; cases e; rfl
  | _ => cases e
def fDGet : F2 := fun x y s Q => match x with
  | .dct kvs => match keyD y with
    | some k => ∃ d, lookK kvs k = some d ∧ Q d s
    | none => False
  | _ => False
instance {ta tb : TE} {wa wb : WE} [la : LE K ta wa] [lb : LE K tb wb] : LE K (tDGet ta tb) (wOp fDGet wa wb) := ⟨fun {F s H σ Γ Q Q0} a h k =>
  la.go a h fun v1 H1 d1 s1 t1 ok1 r1 h1 => lb.go (a.to t1 ok1) h1 fun v2 H2 d2 s2 t2 ok2 r2 h2 => by
    obtain ⟨x', h3, q1⟩ := see ok2 (r1.mono t2.ex) h2
    obtain ⟨y', h4, q2⟩ := see ok2 r2 h3
    cases x' with
    | dct kvs =>
      unfold fDGet at h4
      simp only at h4
      cases e : keyD y' with
      | none => rw [e] at h4; exact h4.elim
      | some ky =>
        rw [e] at h4
        obtain ⟨d, e1, h5⟩ := h4
        obtain ⟨b, ks, rfl, g1, g2, g3⟩ := q1
        obtain ⟨v, e2, r⟩ := g2.val e1
        refine ⟨b, v, rfl, ?_, k _ _ _ _ (t1.trans t2) ok2 r h5⟩
        rw [keyD_v q2 e, ← e2]
        exact DGet.k g1
    | _ => exact h4.elim⟩
/-! ### slices -/
def rSlX (K : PySem.W.Frag) : V → Option Int → Option Int → Hp → VK → Prop := fun x lo hi H Q => rSlL K x lo hi H Q ∨ rSlA K x lo hi H Q ∨ rSlS x lo hi H Q
theorem sl_any {X : Cx} : SlR X (rSlX X.K) := sl_list.or (sl_tupA.or sl_str)
def cutD (ds : List D) (lo hi : Option Int) : List D := (ds.drop (HT.sIx ds.length 0 lo)).take (HT.sIx ds.length ds.length hi - HT.sIx ds.length 0 lo)
theorem cut_rep {Hv : Hp} {vs : List V} {ds : List D} (r : RepL K Hv vs ds) {lo hi : Option Int} : RepL K Hv (cutV vs lo hi) (cutD ds lo hi) := by
  unfold cutV cutD
  rw [r.len]
  exact (r.drop _).take _
theorem cutD_len (ds : List D) (lo hi : Option Int) : (cutD ds lo hi).length ≤ ds.length := by
  unfold cutD
  rw [List.length_take, List.length_drop]
  omega
theorem cutD_all (ds : List D) {lo hi : Option Int} (h : HT.sIx ds.length 0 lo = 0 ∧ HT.sIx ds.length ds.length hi = ds.length) : cutD ds lo hi = ds := by
  unfold cutD
  rw [h.1, h.2, List.drop_zero, Nat.sub_zero, List.take_length]
def fSl (x : D) (lo hi : Option Int) (s : S) (Q : QD) : Prop := match x with
  | .lst ds => Q (.lst (cutD ds lo hi)) s
  | .tup ds => Q (.tup (cutD ds lo hi)) s
  | .str z => z.length ≤ sizeLine ∧ Q (.str (cutS z lo hi)) s
  | _ => False
def wSl (we : WE) (wl wh : WO) : WE := fun Γ s Q => we Γ s fun d s1 => wl Γ s1 fun lo s2 => wh Γ s2 fun hi s3 => seeP s3 d fun d' => fSl d' lo hi s3 Q
instance {te : TE} {tl th : TO} {we : WE} {wl wh : WO} [l : LE K te we] [ll : LO K tl wl] [lh : LO K th wh] : LE K (tSl (rSlX K) te tl th) (wSl we wl wh) := ⟨fun {F s H σ Γ Q Q0} a h k =>
  l.go a h fun v1 H1 d1 s1 t1 ok1 r1 h1 => ll.go (a.to t1 ok1) h1 fun lo H2 s2 t2 ok2 h2 => lh.go (a.to (t1.trans t2) ok2) h2 fun hi H3 s3 t3 ok3 h3 => by
    obtain ⟨x', h4, q1⟩ := see ok3 (r1.mono (t2.trans t3).ex) h3
    have tt := (t1.trans t2).trans t3
    have k' : KE K F s3 H3 Q Q0 := fun v H4 d s4 t4 => k v H4 d s4 (tt.trans t4)
    unfold fSl at h4
    split at h4
    · obtain ⟨b, xs, rfl, g1, g2, g3⟩ := q1
      exact .inl ⟨b, xs, rfl, SqL.of g1, new_lst ok3 (cut_rep g2) (Nat.le_trans (cutD_len _ _ _) g3) h4 k'⟩
    · rename_i ds
      obtain ⟨b, xs, rfl, g1, g2, g3⟩ := q1.tup vis_ex
      refine .inr (.inl ⟨b, xs, rfl, g1, fun hw => k' _ _ _ _ Tr.refl ok3 ?_ h4, fun _ => new_tup ok3 (cut_rep g2) (Nat.le_trans (cutD_len _ _ _) g3) h4 k'⟩)
      rw [g2.len] at hw
      rw [cutD_all _ hw]
      exact q1
    · cases q1
      exact .inr (.inr ⟨_, rfl, h4.1, k' _ _ _ _ Tr.refl ok3 .str h4.2⟩)
    · exact h4.elim⟩
def wNoPart : WO := fun _ s Q => Q none s
instance : LO K tNoPart wNoPart := ⟨fun {F s H σ Γ Q Q0} a h k => k none H s Tr.refl a.ok h⟩
def asI (d : D) (k : Int → Prop) : Prop := match d with
  | .int i => k i
  | _ => False
def wPart (w : WE) : WO := fun Γ s Q => w Γ s fun d s1 => asI d fun i => Q (some i) s1
instance {te : TE} {w : WE} [l : LE K te w] : LO K (tPart te) (wPart w) := ⟨fun {F s H σ Γ Q Q0} a h k => l.go a h fun v H1 d s1 t1 ok1 r1 h1 => by
  cases d with
  | int i => cases r1; exact ⟨i, rfl, k _ H1 s1 t1 ok1 h1⟩
  | _ => exact h1.elim⟩
/-! ### built-ins -/
inductive RepWL (K : PySem.W.Frag) (Hv H : Hp) : List V → List D → Prop
  | nil : RepWL K Hv H [] []
  | cons {v : V} {d : D} {vs : List V} {ds : List D} : RepW K Hv H v d → RepWL K Hv H vs ds → RepWL K Hv H (v :: vs) (d :: ds)
def seeA (s : S) : List D → (List D → Prop) → Prop
  | [], k => k []
  | d :: r, k => seeP s d fun d' => seeA s r fun r' => k (d' :: r')
theorem sees (ok : OkS K F s H) : ∀ {vs : List V} {ds : List D}, RepL K (vis F s H) vs ds → ∀ {k : List D → Prop}, seeA s ds k → ∃ ds', k ds' ∧ RepWL K (vis F s H) H vs ds'
  | _, _, .nil, k, h => ⟨_, h, .nil⟩
  | _, _, .cons q r, k, h => by
    obtain ⟨d', h1, q1⟩ := see ok q h
    obtain ⟨ds', h2, r2⟩ := sees ok r h1
    exact ⟨_, h2, .cons q1 r2⟩
abbrev FA := List D → S → QD → Prop
class LC (K : PySem.W.Frag) (r : List V → Hp → VK → Prop) (f : outParam FA) : Prop where
  go : ∀ {F : Fr} {s : S} {H : Hp} {vs : List V} {ds : List D} {Q : QD} {Q0 : VK}, OkS K F s H → RepWL K (vis F s H) H vs ds → f ds s Q → KE K F s H Q Q0 → r vs H Q0
def wCB (f : FA) (wa : WA) : WE := fun Γ s Q => wa Γ s fun ds s1 => seeA s1 ds fun ds' => f ds' s1 Q
instance {r : List V → Hp → VK → Prop} {f : FA} {ta : TA} {wa : WA} [lc : LC K r f] [l : LA K ta wa] : LE K (tCB r ta) (wCB f wa) := ⟨fun {F s H σ Γ Q Q0} a h k => l.go a h fun vs H1 ds s1 t1 ok1 r1 h1 => by
  obtain ⟨ds', h2, r2⟩ := sees ok1 r1 h1
  exact lc.go ok1 r2 h2 fun v H2 d s2 t2 => k v H2 d s2 (t1.trans t2)⟩
/-- of one argument -/
def f1 (g : F1) : FA := fun ds s Q => match ds with
  | [d] => g d s Q
  | _ => False
def f2 (g : F2) : FA := fun ds s Q => match ds with
  | [d, e] => g d e s Q
  | _ => False
theorem wl1 {Hv : Hp} {vs : List V} {d : D} (r : RepWL K Hv H vs [d]) : ∃ v, vs = [v] ∧ RepW K Hv H v d := by
  cases r with
  | cons r q => cases q; exact ⟨_, rfl, r⟩
theorem wl2 {Hv : Hp} {vs : List V} {d e : D} (r : RepWL K Hv H vs [d, e]) : ∃ v w, vs = [v, w] ∧ RepW K Hv H v d ∧ RepW K Hv H w e := by
  cases r with
  | cons r q =>
    obtain ⟨w, rfl, r2⟩ := wl1 q
    exact ⟨_, w, rfl, r, r2⟩
abbrev rLen0 (K : PySem.W.Frag) : List V → Hp → VK → Prop := fun xs H Q => ∃ x n, xs = [x] ∧ L2.LenV K x H n ∧ Q (.int (n : Nat)) H
abbrev rLenD : List V → Hp → VK → Prop := fun xs H Q => ∃ d kvs, xs = [V.ref d] ∧ H d = some (.dK kvs) ∧ Q (.int (kvs.length : Nat)) H
def fLen : F1 := fun x s Q => match x with
  | .lst ds => Q (.int (ds.length : Nat)) s
  | .tup ds => Q (.int (ds.length : Nat)) s
  | .str z => z.length ≤ sizeLine ∧ Q (.int (z.length : Nat)) s
  | .lck ns => Q (.int (ns.length : Nat)) s
  | _ => False
instance : LC K (rLen0 K) (f1 fLen) := ⟨fun {F s H vs ds Q Q0} ok r h k => by
  unfold f1 at h
  split at h
  · obtain ⟨v, rfl, rr⟩ := wl1 r
    clear r
    have r := rr
    clear rr
    unfold fLen at h
    split at h
    · obtain ⟨a, xs, rfl, h1, h2, h3⟩ := r
      rw [← h2.len] at h
      exact ⟨_, xs.length, rfl, .inl ⟨xs, SqL.of h1, rfl⟩, k _ _ _ _ Tr.refl ok .int h⟩
    · obtain ⟨a, xs, rfl, h1, h2, h3⟩ := r.tup vis_ex
      rw [← h2.len] at h
      exact ⟨_, xs.length, rfl, .inr ⟨xs, h1, rfl⟩, k _ _ _ _ Tr.refl ok .int h⟩
    · cases r
      exact ⟨_, _, rfl, ⟨h.1, rfl⟩, k _ _ _ _ Tr.refl ok .int h.2⟩
    · cases r with
      | lck q => exact ⟨_, _, rfl, .inl ⟨_, ex_l vis_ex q, (List.length_map _).symm⟩, k _ _ _ _ Tr.refl ok .int h⟩
    · exact h.elim
  · exact h.elim⟩
abbrev rInt1 : List V → Hp → VK → Prop := fun xs H Q => (∃ i, xs = [V.int i] ∧ Q (.int i) H) ∨ ∃ k, xs = [V.bl k] ∧ Q (.int (if k then 1 else 0)) H
def fInt : F1 := fun x s Q => match x with
  | .int i => Q (.int i) s
  | _ => False
instance : LC K rInt1 (f1 fInt) := ⟨fun {F s H vs ds Q Q0} ok r h k => by
  unfold f1 at h
  split at h
  · obtain ⟨v, rfl, rr⟩ := wl1 r
    clear r
    have r := rr
    clear rr
    unfold fInt at h
    split at h
    · cases r; exact .inl ⟨_, rfl, k _ _ _ _ Tr.refl ok .int h⟩
    · exact h.elim
  · exact h.elim⟩
abbrev rMax2 : List V → Hp → VK → Prop := fun xs H Q => ∃ i j, xs = [V.int i, V.int j] ∧ Q (.int (if j > i then j else i)) H
abbrev rMin2 : List V → Hp → VK → Prop := fun xs H Q => ∃ i j, xs = [V.int i, V.int j] ∧ Q (.int (if j < i then j else i)) H
def fMax2 : F2 := fun x y s Q => match x, y with
  | .int i, .int j => Q (.int (max i j)) s
  | _, _ => False
def fMin2 : F2 := fun x y s Q => match x, y with
  | .int i, .int j => Q (.int (min i j)) s
  | _, _ => False
theorem max_eq (i j : Int) : (if j > i then j else i) = max i j := by
  split <;> omega
theorem min_eq (i j : Int) : (if j < i then j else i) = min i j := by
  split <;> omega
instance : LC K Da.rMax2 (f2 fMax2) := ⟨fun {F s H vs ds Q Q0} ok r h k => by
  unfold f2 at h
  split at h
  · obtain ⟨v, w, rfl, rr, q⟩ := wl2 r
    clear r
    have r := rr
    clear rr
    unfold fMax2 at h
    split at h
    · cases r; cases q; exact ⟨_, _, rfl, by rw [max_eq]; exact k _ _ _ _ Tr.refl ok .int h⟩
    · exact h.elim
  · exact h.elim⟩
instance : LC K Da.rMin2 (f2 fMin2) := ⟨fun {F s H vs ds Q Q0} ok r h k => by
  unfold f2 at h
  split at h
  · obtain ⟨v, w, rfl, rr, q⟩ := wl2 r
    clear r
    have r := rr
    clear rr
    unfold fMin2 at h
    split at h
    · cases r; cases q; exact ⟨_, _, rfl, by rw [min_eq]; exact k _ _ _ _ Tr.refl ok .int h⟩
    · exact h.elim
  · exact h.elim⟩
abbrev rAbs : List V → Hp → VK → Prop := fun xs H Q => ∃ i, xs = [V.int i] ∧ Q (.int (if i < 0 then -i else i)) H
def fAbs : F1 := fun x s Q => match x with
  | .int i => Q (.int (if i < 0 then -i else i)) s
  | _ => False
instance : LC K rAbs (f1 fAbs) := ⟨fun {F s H vs ds Q Q0} ok r h k => by
  unfold f1 at h
  split at h
  · obtain ⟨v, rfl, rr⟩ := wl1 r
    clear r
    have r := rr
    clear rr
    unfold fAbs at h
    split at h
    · cases r; exact ⟨_, rfl, k _ _ _ _ Tr.refl ok .int h⟩
    · exact h.elim
  · exact h.elim⟩
def Ints (d : D) (k : List Int → Prop) : Prop := ∃ ns : List Int, d = .lst (ns.map D.int) ∧ k ns
theorem ints_of {Hv : Hp} {v : V} {d : D} {k : List Int → Prop} (r : RepW K Hv H v d) (h : Ints d k) : ∃ a ns, v = .ref a ∧ SqL K H a (ns.map V.int) ∧ k ns := by
  obtain ⟨ns, rfl, h⟩ := h
  obtain ⟨a, xs, rfl, h1, h2, h3⟩ := r
  rw [h2.of_ints] at h1
  exact ⟨a, ns, rfl, SqL.of h1, h⟩
def fSum : F1 := fun x s Q => Ints x fun ns => Q (.int ns.sum) s
instance : LC K (rSum K) (f1 fSum) := ⟨fun {F s H vs ds Q Q0} ok r h k => by
  unfold f1 at h
  split at h
  · obtain ⟨v, rfl, rr⟩ := wl1 r
    clear r
    have r := rr
    clear rr
    obtain ⟨a, ns, rfl, h1, h2⟩ := ints_of r h
    exact ⟨a, ns, rfl, h1, k _ _ _ _ Tr.refl ok .int h2⟩
  · exact h.elim⟩
def fMaxL : F1 := fun x s Q => Ints x fun ns => 0 < ns.length ∧ ∀ m, m ∈ ns → (∀ y, y ∈ ns → y ≤ m) → Q (.int m) s
instance : LC K (rMax K) (f1 fMaxL) := ⟨fun {F s H vs ds Q Q0} ok r h k => by
  unfold f1 at h
  split at h
  · obtain ⟨v, rfl, rr⟩ := wl1 r
    clear r
    have r := rr
    clear rr
    obtain ⟨a, ns, rfl, h1, h2, h3⟩ := ints_of r h
    exact ⟨a, ns, rfl, h1, h2, fun m hm hl => k _ _ _ _ Tr.refl ok .int (h3 m hm hl)⟩
  · exact h.elim⟩
def fMinL : F1 := fun x s Q => Ints x fun ns => 0 < ns.length ∧ ∀ m, m ∈ ns → (∀ y, y ∈ ns → m ≤ y) → Q (.int m) s
instance : LC K (rMin K) (f1 fMinL) := ⟨fun {F s H vs ds Q Q0} ok r h k => by
  unfold f1 at h
  split at h
  · obtain ⟨v, rfl, rr⟩ := wl1 r
    clear r
    have r := rr
    clear rr
    obtain ⟨a, ns, rfl, h1, h2, h3⟩ := ints_of r h
    exact ⟨a, ns, rfl, h1, h2, fun m hm hl => k _ _ _ _ Tr.refl ok .int (h3 m hm hl)⟩
  · exact h.elim⟩
def Bls (d : D) (k : List Bool → Prop) : Prop := ∃ ns : List Bool, d = .lst (ns.map D.bl) ∧ k ns
theorem bls_of {Hv : Hp} {v : V} {d : D} {k : List Bool → Prop} (r : RepW K Hv H v d) (h : Bls d k) : ∃ a ns, v = .ref a ∧ SqL K H a (ns.map V.bl) ∧ k ns := by
  obtain ⟨ns, rfl, h⟩ := h
  obtain ⟨a, xs, rfl, h1, h2, h3⟩ := r
  rw [h2.of_bls] at h1
  exact ⟨a, ns, rfl, SqL.of h1, h⟩
def fAll : F1 := fun x s Q => Bls x fun bs => Q (.bl (bs.all id)) s
def fAny : F1 := fun x s Q => Bls x fun bs => Q (.bl (bs.any id)) s
instance : LC K (rAll K) (f1 fAll) := ⟨fun {F s H vs ds Q Q0} ok r h k => by
  unfold f1 at h
  split at h
  · obtain ⟨v, rfl, rr⟩ := wl1 r
    clear r
    have r := rr
    clear rr
    obtain ⟨a, ns, rfl, h1, h2⟩ := bls_of r h
    exact ⟨a, ns, rfl, h1, k _ _ _ _ Tr.refl ok .bl h2⟩
  · exact h.elim⟩
instance : LC K (rAny K) (f1 fAny) := ⟨fun {F s H vs ds Q Q0} ok r h k => by
  unfold f1 at h
  split at h
  · obtain ⟨v, rfl, rr⟩ := wl1 r
    clear r
    have r := rr
    clear rr
    obtain ⟨a, ns, rfl, h1, h2⟩ := bls_of r h
    exact ⟨a, ns, rfl, h1, k _ _ _ _ Tr.refl ok .bl h2⟩
  · exact h.elim⟩
abbrev rListO (K : PySem.W.Frag) : List V → Hp → VK → Prop := fun xs H Q => ∃ p ys, xs = [V.ref p] ∧ (SqL K H p ys ∨ SqT K H p ys) ∧ ∀ l, H l = none → Q (.ref l) (upd H l (.lst ys))
def fList : F1 := fun x s Q => match x with
  | .lst ds => Q (.lst ds) s
  | .tup ds => Q (.lst ds) s
  | _ => False
instance : LC K (rListO K) (f1 fList) := ⟨fun {F s H vs ds Q Q0} ok r h k => by
  unfold f1 at h
  split at h
  · obtain ⟨v, rfl, rr⟩ := wl1 r
    clear r
    have r := rr
    clear rr
    unfold fList at h
    split at h
    · obtain ⟨a, xs, rfl, h1, h2, h3⟩ := r
      exact ⟨a, xs, rfl, .inl (SqL.of h1), new_lst ok h2 h3 h k⟩
    · obtain ⟨a, xs, rfl, h1, h2, h3⟩ := r.tup vis_ex
      exact ⟨a, xs, rfl, .inr h1, new_lst ok h2 h3 h k⟩
    · exact h.elim
  · exact h.elim⟩
def fTuple : F1 := fun x s Q => match x with
  | .lst ds => Q (.tup ds) s
  | .tup ds => Q (.tup ds) s
  | _ => False
instance : LC K (Nr.rTup K) (f1 fTuple) := ⟨fun {F s H vs ds Q Q0} ok r h k => by
  unfold f1 at h
  split at h
  · obtain ⟨v, rfl, rr⟩ := wl1 r
    clear r
    have r := rr
    clear rr
    unfold fTuple at h
    split at h
    · obtain ⟨a, xs, rfl, h1, h2, h3⟩ := r
      exact ⟨a, xs, rfl, .inl ⟨SqL.of h1, new_tup ok h2 h3 h k⟩⟩
    · obtain ⟨a, xs, rfl, h1, h2, h3⟩ := r.tup vis_ex
      exact ⟨a, xs, rfl, .inr ⟨h1, k _ _ _ _ Tr.refl ok r h⟩⟩
    · exact h.elim
  · exact h.elim⟩
end
end Da

/-! C.m(e, ..), m a static method of the own class C (own). -/
namespace Sm
open PySem PySem.Spec PyProof.Rows L2
/-- C.m is a static method: its record at p, its def at g -/
structure SMet (K : PySem.W.Frag) (C : Addr) (mc : Value) (m : Str) (p g : Addr) : Prop where
  rd : PySem.W.readsIn K C mc = true
  ga : PySem.W.specialIn K (.ref C) "__getattribute__" = some (some (.builtin "type.__getattribute__"))
  at_ : PySem.W.findCls K (.ref C) mc m = some (.get (.builtin "staticmethod.__get__") (.ref p) .none (.ref C))
  rc : ∃ rest, PySem.W.recIn K p "staticmethod" = some (.ref g :: rest)
  kp : PySem.W.keepIn K (.ref g) = true
def tSMeth (C : Addr) (sp : Sp) (dvs : List V) (E : XK) (ta : TE) (t : TA) : TE := fun σ H Q => ta σ H fun x H1 => x = .ref C ∧ t σ H1 fun vs H2 => sp (vs ++ dvs) H2 Q E
theorem i_smeth {C : Addr} {sp : Sp} {dvs : List V} {E : XK} {ta : TE} {t : TA} {σ : L2.St} {H : Hp} {Q : VK} (q : ta σ H fun x H1 => x = .ref C ∧ t σ H1 fun vs H2 => sp (vs ++ dvs) H2 Q E) : tSMeth C sp dvs E ta t σ H Q := q
section
variable {X : Cx} {x1 ob : Expr} {xs : List Expr} {m : Str} {cpos apos : Pos} {ta : TE} {t : TA} {CX : CXT} {k : Nat} {g p C : Addr} {mc : Value} {fd : FuncData} {ps : List Str} {sp : Sp} {dvs : List V} {ds : List Value} {E : XK}
theorem pe_smeth {pl : Sem Bool} (he : PE X ob ta) (c : SMet X.K C mc m p g) (F : FnOk X.prog X.w X.K X.mg X.base CX k g fd ps sp) (hr : Room k X.A) (hb : Binds X.K fd ps ds) (hd : Vals dvs ds) (hx : Passes CX X E) (ha : PA X (x1 :: xs) t)
    (s1 : starEach (x1 :: xs) X.env = (false, eval x1 X.env) :: starEach xs X.env := by rfl) (s2 : (backTo cpos (starEach xs X.env)).any (·.1) = false := by rfl)
    (s3 : eval (.Call (.Attribute ob m apos) (x1 :: xs) [] cpos) X.env = (do let ov ← eval ob X.env; standAt apos.atName; let (g, fst) ← holding [ov] (getMethod ov m pl); callWith cpos g fst (backTo cpos (starEach (x1 :: xs) X.env)) (backToKw cpos (keywordEach [] X.env))) := by rfl) :
    PE X (.Call (.Attribute ob m apos) (x1 :: xs) [] cpos) (tSMeth C sp dvs E ta t) := by
  refine ⟨fun pins s σ H Q I h => ?_⟩
  refine PySem.W.methodCall_KW (pl := pl) (thn (he.run pins s σ H _ I h) fun u s4 ⟨x, H1, I1, rx, ex, q⟩ => ?_) s3
  subst ex
  obtain rfl : u = Value.ref C := rx
  obtain ⟨rest, hp⟩ := c.rc
  refine PySem.W.method_cls I1.kIn c.ga (PySem.W.cls_bind I1.kIn c.rd c.at_ (wpAny_call (PySem.W.sm_get (s := { s4 with toks := s4.toks + 1 }) I1.kIn hp (PySem.W.handed_on rfl ?_))))
  have I2 := I1.tok (s4.toks + 1)
  refine PySem.W.callWith_K (first := []) (h₀ := X.base) I.ok.mod.kin c.kp (thn (ha.run cpos pins _ σ H1 _ I2 q) fun us s5 ⟨vs, H2, I3, r, q2⟩ => ⟨I3.kIn, ?_⟩) s1 s2
  exact run_fn (us := us) (vs := vs) F hr hb hd hx I3 r q2
end
end Sm

/-! Readings over data: defs, calls, instances (own). -/
namespace Da
open PySem PySem.Spec PyProof.Rows L2 Evl Hd
/-- what is raised: its class, its field -/
abbrev XD := Addr → Option (Str × D) → Nat → Prop
abbrev DSp := Option (Addr × Addr) → List D → Nat → (D → Nat → Prop) → XD → Prop
abbrev st0 (n : Nat) (pn : Option (Addr × Addr)) : S := ⟨[], n, pn⟩
def XRep (K : PySem.W.Frag) (Hv H : Hp) (dx : Option Addr) : Option (Str × D) → Prop
  | none => dx = none
  | some (f, d) => ∃ a v, dx = some a ∧ H a = some (.xd [(f, v)]) ∧ Rep K Hv v d
def upSp (K : PySem.W.Frag) (dsp : DSp) : Sp := fun vs H Q E => ∃ (F : Fr) (args : List D) (pn : Option (Addr × Addr)) (n : Nat) (Qd : D → Nat → Prop) (Xd : XD), RepL K (vis F (st0 n pn) H) vs args ∧ OkS K F (st0 n pn) H ∧ dsp pn args n Qd Xd ∧
  (∀ v H' d n', Tr F (st0 n pn) H (st0 n' pn) H' → OkS K F (st0 n' pn) H' → Rep K (vis F (st0 n' pn) H') v d → Qd d n' → Q v H') ∧
  ∀ C dx e H' n', Tr F (st0 n pn) H (st0 n' pn) H' → OkS K F (st0 n' pn) H' → XRep K (vis F (st0 n' pn) H') H' dx e → Xd C e n' → E (.ref C) dx H'
def hidF (F : Fr) (s : S) : Fr := fun a => F a || s.hidM a
section
variable {K : PySem.W.Frag} {F : Fr} {s : S} {H H' : Hp}
theorem vis_call {n : Nat} : vis (hidF F s) (st0 n s.pn) H = vis F s H := by
  funext a
  unfold vis
  have : (st0 n s.pn).hid (hidF F s) a = s.hid F a := by
    unfold S.hid hidF
    show (F a || s.hidM a || false || (st0 n s.pn).hidP a) = _
    rw [Bool.or_false]
    rfl
  rw [this]
theorem ok_call (ok : OkS K F s H) : OkS K (hidF F s) (st0 s.n s.pn) H := by
  refine ⟨fun e he => (nomatch he), List.nodup_nil, fun p q e => ⟨(ok.pen p q e).1, fun e he => (nomatch he)⟩, fun a ha => ?_, fun e he => (nomatch he), fun p q e => ?_⟩
  · unfold hidF at ha
    rw [Bool.or_eq_true] at ha
    rcases ha with ha | ha
    · exact ok.fr a ha
    · unfold S.hidM at ha
      obtain ⟨e, he, h2⟩ := List.any_eq_true.mp ha
      rw [Bool.and_eq_true, beq_iff_eq] at h2
      rw [← h2.2]
      exact (ok.ents e he).some
  · obtain ⟨h1, h2⟩ := ok.frP p q e
    have h3 := (ok.pen p q e).2
    unfold hidF
    rw [h1, h2]
    constructor
    · show s.hidM p = false
      unfold S.hidM
      rw [List.any_eq_false]
      intro e he
      simp [(h3 e he).1]
    · show s.hidM q = false
      unfold S.hidM
      rw [List.any_eq_false]
      intro e he
      simp [(h3 e he).2]
theorem ent_uniq : ∀ {l : List Ent} {x y : Ent}, (l.map (·.a)).Nodup → x ∈ l → y ∈ l → x.a = y.a → x = y
  | [], _, _, _, hx, _, _ => nomatch hx
  | z :: r, x, y, hnd, hx, hy, hxy => by
    rw [List.map_cons, List.nodup_cons] at hnd
    rcases List.mem_cons.mp hx with hx | hx <;> rcases List.mem_cons.mp hy with hy | hy
    · rw [hx, hy]
    · exact absurd (List.mem_map.mpr ⟨y, hy, by rw [← hxy, hx]⟩) hnd.1
    · exact absurd (List.mem_map.mpr ⟨x, hx, by rw [hxy, hy]⟩) hnd.1
    · exact ent_uniq hnd.2 hx hy hxy
/-- an object of one's own that is frozen is seen -/
theorem ent_seen (ok : OkS K F s H) {e : Ent} (he : e ∈ s.M) (hf : e.fz = true) : s.hid F e.a = false := by
  unfold S.hid
  have h1 := ok.frM e he
  have h2 : s.hidM e.a = false := by
    unfold S.hidM
    rw [List.any_eq_false]
    intro e' he' hx
    rw [Bool.and_eq_true, Bool.not_eq_true', beq_iff_eq] at hx
    have := ent_uniq ok.nd he' he hx.2
    rw [this, hf] at hx
    cases hx.1
  have h3 : s.hidP e.a = false := by
    unfold S.hidP
    cases q : s.pn with
    | none => rfl
    | some pq =>
      obtain ⟨p, r⟩ := pq
      obtain ⟨h3, h4⟩ := (ok.pen p r q).2 e he
      simp [h3, h4]
  rw [h1, h2, h3]
  rfl
theorem call_out (ok : OkS K F s H) {n' : Nat} (t : Tr (hidF F s) (st0 s.n s.pn) H (st0 n' s.pn) H') (ok' : OkS K (hidF F s) (st0 n' s.pn) H') : OkS K F (s.at n') H' ∧ Tr F s H (s.at n') H' ∧ vis (hidF F s) (st0 n' s.pn) H' = vis F (s.at n') H' := by
  have hv : vis (hidF F s) (st0 n' s.pn) H' = vis F (s.at n') H' := vis_call (s := s.at n')
  have ex : Ex (vis F s H) (vis F (s.at n') H') := by
    have := t.ex
    rw [vis_call, hv] at this
    exact this
  refine ⟨⟨fun e he => ?_, ok.nd, fun p q e => ⟨(ok'.pen p q e).1, (ok.pen p q e).2⟩, fun a ha => ok'.fr a ?_, ok.frM, ok.frP⟩, ⟨ex, fun a ha => t.fr a ?_, rfl⟩, hv⟩
  · refine (ok.ents e he).mono ex ?_
    cases hf : e.fz with
    | false =>
      refine t.fr e.a ?_
      unfold hidF
      have : s.hidM e.a = true := by
        unfold S.hidM
        exact List.any_eq_true.mpr ⟨e, he, by rw [hf]; simp⟩
      rw [this, Bool.or_true]
    | true =>
      have h1 := ent_seen ok he hf
      cases hh : H e.a with
      | none => exact absurd hh (ok.ents e he).some
      | some o => exact (vis_iff.mp (ex _ _ (vis_iff.mpr ⟨h1, hh⟩))).2
  · unfold hidF; rw [ha]; rfl
  · unfold hidF; rw [ha]; rfl
/-- a call of a def by its promise over data -/
theorem call_data {dsp : DSp} {vs : List V} {args : List D} (ok : OkS K F s H) (r : RepL K (vis F s H) vs args) {Qd : D → Nat → Prop} {Xd : XD} (h : dsp s.pn args s.n Qd Xd) {Q : VK} {E : XK}
    (hq : ∀ v H' d n', Tr F s H (s.at n') H' → OkS K F (s.at n') H' → Rep K (vis F (s.at n') H') v d → Qd d n' → Q v H')
    (hx : ∀ C dx e H' n', Tr F s H (s.at n') H' → OkS K F (s.at n') H' → XRep K (vis F (s.at n') H') H' dx e → Xd C e n' → E (.ref C) dx H') : upSp K dsp vs H Q E := by
  refine ⟨hidF F s, args, s.pn, s.n, Qd, Xd, by rw [vis_call]; exact r, ok_call ok, h, fun v H' d n' t ok' r' q => ?_, fun C dx e H' n' t ok' r' q => ?_⟩
  · obtain ⟨o1, o2, o3⟩ := call_out ok t ok'
    rw [o3] at r'
    exact hq v H' d n' o2 o1 r' q
  · obtain ⟨o1, o2, o3⟩ := call_out ok t ok'
    rw [o3] at r'
    exact hx C dx e H' n' o2 o1 r' q
/-! ### in expressions -/
abbrev XF : XD := fun _ _ _ => False
/-- values that stand for data, whatever the heap -/
class Dflt (K : PySem.W.Frag) (dvs : List V) (ds : outParam (List D)) : Prop where
  rep : ∀ H : Hp, RepL K H dvs ds
instance : Dflt K [] [] := ⟨fun _ => .nil⟩
def wCall (dsp : DSp) (dds : List D) (wa : WA) : WE := fun Γ s Q => wa Γ s fun ds s1 => escA s1 ds fun ds' s2 => dsp s2.pn (ds' ++ dds) s2.n (fun d n' => Q d (s2.at n')) XF
instance {dsp : DSp} {dvs : List V} {dds : List D} {E : XK} {ta : TA} {wa : WA} [df : Dflt K dvs dds] [l : LA K ta wa] : LE K (tCall (upSp K dsp) dvs E ta) (wCall dsp dds wa) := ⟨fun {F s H σ Γ Q Q0} a h k => l.go a h fun vs H1 ds s1 t1 ok1 r1 h1 => by
  obtain ⟨ds', s2, h2, ok2, t2, r2⟩ := escs ok1 r1 h1
  exact call_data ok2 (r2.app (df.rep _)) h2 (fun v H' d n' t3 ok3 r3 q => k v H' d _ ((t1.trans t2).trans t3) ok3 r3 q) (fun _ _ _ _ _ _ _ _ q => q.elim)⟩
def lookF : List (Str × D) → Str → Option D
  | [], _ => none
  | (k', d) :: r, k => match decide (k' = k) with
    | true => some d
    | false => lookF r k
theorem lookF_eq : ∀ {fs : List (Str × D)} {k : Str}, fs.lookup k = lookF fs k
  | [], _ => rfl
  | (k', d) :: r, k => by
    rw [List.lookup_cons]
    unfold lookF
    by_cases e : k' = k
    · subst e; simp
    · have : (k == k') = false := by simpa using fun z => e z.symm
      rw [this, decide_eq_false e]
      exact lookF_eq
def wFld (K : PySem.W.Frag) (f : Str) (w : WE) : WE := fun Γ s Q => w Γ s fun x s1 => seeP s1 x fun x' => match x' with
  | .obj C fs => ∃ d, lookF fs f = some d ∧ (Cls K C ∧ NoAttr K C f) ∧ Q d s1
  | _ => False
instance {f : Str} {te : TE} {w : WE} [l : LE K te w] : LE K (tFld K te f) (wFld K f w) := ⟨fun {F s H σ Γ Q Q0} a h k => l.go a h fun v H1 d s1 t1 ok1 r1 h1 => by
  obtain ⟨x', h2, q⟩ := see ok1 r1 h1
  cases x' with
  | obj C gs =>
    obtain ⟨d, h3, ⟨h4, h5⟩, h6⟩ := h2
    obtain ⟨b, dx, fs, rfl, g1, g2⟩ := q
    obtain ⟨u, g3, g4⟩ := g2.look (lookF_eq.trans h3)
    exact ⟨b, C, dx, fs, u, rfl, g1, h4, h5, g3, k _ _ _ _ t1 ok1 g4 h6⟩
  | _ => exact h2.elim⟩
def asObj (C : Addr) (d : D) (k : List (Str × D) → Prop) : Prop := match d with
  | .obj C' fs => C' = C ∧ k fs
  | _ => False
def wMeth (C : Addr) (m : Str) (dsp : DSp) (dds : List D) (w : WE) (wa : WA) : WE := fun Γ s Q => w Γ s fun x s1 => escP s1 x fun x' s2 => asObj C x' fun fs => lookF fs m = none ∧ wa Γ s2 fun ds s3 => escA s3 ds fun ds' s4 =>
  dsp s4.pn (x' :: (ds' ++ dds)) s4.n (fun d n' => Q d (s4.at n')) XF
instance {C : Addr} {m : Str} {dsp : DSp} {dvs : List V} {dds : List D} {E : XK} {te : TE} {w : WE} {ta : TA} {wa : WA} [df : Dflt K dvs dds] [le : LE K te w] [l : LA K ta wa] : LE K (tMeth C m (upSp K dsp) dvs E te ta) (wMeth C m dsp dds w wa) := ⟨fun {F s H σ Γ Q Q0} a h k => le.go a h fun v H1 d s1 t1 ok1 r1 h1 => by
  obtain ⟨x', s2, h2, ok2, t2, r2⟩ := esc ok1 r1 h1
  cases x' with
  | obj C' gs =>
    obtain ⟨rfl, h3, h4⟩ := h2
    cases r2 with
    | @obj b _ dx fs _ g1 g2 =>
      refine ⟨b, dx, fs, rfl, vis_ex _ _ g1, g2.look_none (lookF_eq.trans h3), l.go (a.to (t1.trans t2) ok2) h4 fun vs H3 ds s3 t3 ok3 r3 h5 => ?_⟩
      obtain ⟨ds', s4, h6, ok4, t4, r4⟩ := escs ok3 r3 h5
      exact call_data ok4 (.cons (.obj ((t3.trans t4).ex _ _ g1) (g2.mono (t3.trans t4).ex)) (r4.app (df.rep _))) h6 (fun v H' d n' t5 ok5 r5 q => k v H' d _ ((((t1.trans t2).trans t3).trans t4).trans t5) ok5 r5 q) (fun _ _ _ _ _ _ _ _ q => q.elim)
  | _ => exact h2.elim⟩
def wProp (C : Addr) (dsp : DSp) (dds : List D) (w : WE) : WE := fun Γ s Q => w Γ s fun x s1 => escP s1 x fun x' s2 => asObj C x' fun fs => dsp s2.pn (x' :: dds) s2.n (fun d n' => Q d (s2.at n')) XF
instance {C : Addr} {dsp : DSp} {dvs : List V} {dds : List D} {E : XK} {te : TE} {w : WE} [df : Dflt K dvs dds] [le : LE K te w] : LE K (tProp C (upSp K dsp) dvs E te) (wProp C dsp dds w) := ⟨fun {F s H σ Γ Q Q0} a h k => le.go a h fun v H1 d s1 t1 ok1 r1 h1 => by
  obtain ⟨x', s2, h2, ok2, t2, r2⟩ := esc ok1 r1 h1
  cases x' with
  | obj C' gs =>
    obtain ⟨rfl, h3⟩ := h2
    cases r2 with
    | @obj b _ dx fs _ g1 g2 =>
      exact ⟨b, dx, fs, rfl, vis_ex _ _ g1, call_data ok2 (.cons (.obj g1 g2) (df.rep _)) h3 (fun v H' d n' t5 ok5 r5 q => k v H' d _ ((t1.trans t2).trans t5) ok5 r5 q) (fun _ _ _ _ _ _ _ _ q => q.elim)⟩
  | _ => exact h2.elim⟩
def isCls (C : Addr) (d : D) (k : Prop) : Prop := match d with
  | .val v => v = .ref C ∧ k
  | _ => False
def wSMeth (C : Addr) (dsp : DSp) (dds : List D) (w : WE) (wa : WA) : WE := fun Γ s Q => w Γ s fun x s1 => isCls C x (wa Γ s1 fun ds s3 => escA s3 ds fun ds' s4 => dsp s4.pn (ds' ++ dds) s4.n (fun d n' => Q d (s4.at n')) XF)
instance {C : Addr} {dsp : DSp} {dvs : List V} {dds : List D} {E : XK} {te : TE} {w : WE} {ta : TA} {wa : WA} [df : Dflt K dvs dds] [le : LE K te w] [l : LA K ta wa] : LE K (Sm.tSMeth C (upSp K dsp) dvs E te ta) (wSMeth C dsp dds w wa) := ⟨fun {F s H σ Γ Q Q0} a h k => le.go a h fun v H1 d s1 t1 ok1 r1 h1 => by
  cases d with
  | val u =>
    cases r1
    obtain ⟨h2, h3⟩ := h1
    refine ⟨h2, l.go (a.to t1 ok1) h3 fun vs H3 ds s3 t3 ok3 r3 h5 => ?_⟩
    obtain ⟨ds', s4, h6, ok4, t4, r4⟩ := escs ok3 r3 h5
    exact call_data ok4 (r4.app (df.rep _)) h6 (fun v H' d n' t5 ok5 r5 q => k v H' d _ (((t1.trans t3).trans t4).trans t5) ok5 r5 q) (fun _ _ _ _ _ _ _ _ q => q.elim)
  | _ => exact h1.elim⟩
/-! ### new instances -/
abbrev DIn := Option (Addr × Addr) → List D → Nat → (List (Str × D) → Nat → Prop) → XD → Prop
abbrev st1 (x C : Addr) (fs : List (Str × D)) (n : Nat) (pn : Option (Addr × Addr)) : S := ⟨[⟨0, x, .obj C fs, false⟩], n, pn⟩
def upIn (K : PySem.W.Frag) (C : Addr) (dsp : DIn) : Sp := fun vs H Q E => ∃ (F : Fr) (x : Addr) (rest : List V) (args : List D) (pn : Option (Addr × Addr)) (n : Nat) (Qd : List (Str × D) → Nat → Prop) (Xd : XD), vs = .ref x :: rest ∧ RepL K (vis F (st1 x C [] n pn) H) rest args ∧ OkS K F (st1 x C [] n pn) H ∧ dsp pn args n Qd Xd ∧
  (∀ H' fs n', Tr F (st1 x C [] n pn) H (st1 x C fs n' pn) H' → OkS K F (st1 x C fs n' pn) H' → Qd fs n' → Q .non H') ∧
  ∀ C' dx e H' n', Tr F (st1 x C [] n pn) H (st0 n' pn) H' → OkS K F (st0 n' pn) H' → XRep K (vis F (st0 n' pn) H') H' dx e → Xd C' e n' → E (.ref C') dx H'
def wMake (C : Addr) (dsp : DIn) (dds : List D) (wa : WA) : WE := fun Γ s Q => wa Γ s fun ds s1 => escA s1 ds fun ds' s2 => dsp s2.pn (ds' ++ dds) s2.n (fun fs n' => Q (.obj C fs) (s2.at n')) XF
theorem make_data {C : Addr} {dsp : DIn} {vs : List V} {args : List D} (ok : OkS K F s H) (r : RepL K (vis F s H) vs args) {Qd : List (Str × D) → Nat → Prop} (h : dsp s.pn args s.n Qd XF) {Q : VK} {E : XK}
    (hq : ∀ v H' fs n', Tr F s H (s.at n') H' → OkS K F (s.at n') H' → Rep K (vis F (s.at n') H') v (.obj C fs) → Qd fs n' → Q v H') : ∀ x dx, H x = none → H dx = none → dx ≠ x →
    upIn K C dsp (.ref x :: vs) (upd (upd H dx (.own x)) x (.ins C dx [])) (fun v H2 => v = .non ∧ Q (.ref x) H2) E := by
  intro x dx hx hdx hne
  obtain ⟨ok1, t1, v1⟩ := (ok_call ok).new (o := .own x) hdx
  have hx1 : upd H dx (.own x) x = none := by rw [upd_ne (Ne.symm hne)]; exact hx
  obtain ⟨ok2, t2⟩ := ok1.own (k := 0) (o := .ins C dx []) (m := .obj C []) hx1 (fun Hv _ => ⟨dx, [], upd_same, .nil⟩)
  have r2 := r
  rw [← vis_call (n := s.n)] at r2
  refine ⟨hidF F s, x, vs, args, s.pn, s.n, Qd, XF, rfl, r2.mono (t1.trans t2).ex, ok2, h, fun H' fs n' t3 ok3 q => ⟨rfl, ?_⟩, fun _ _ _ _ _ _ _ _ q => q.elim⟩
  obtain ⟨ok4, t4⟩ := ok3.drop 0
  have t5 := ((t1.trans t2).trans t3).trans t4
  obtain ⟨o1, o2, o3⟩ := call_out ok t5 ok4
  refine hq _ H' fs n' o2 o1 ?_ q
  obtain ⟨dx', vs', g1, g2⟩ := ok3.ents _ List.mem_cons_self
  have g3 : vis (hidF F s) (st0 n' s.pn) H' x = some (.ins C dx' vs') := by
    refine vis_iff.mpr ⟨?_, g1⟩
    have := (ok_call ok).new_hid hx
    unfold S.hid at this ⊢
    exact this
  rw [← o3]
  exact .obj g3 (g2.mono t4.ex)
instance {C : Addr} {dsp : DIn} {dvs : List V} {dds : List D} {E : XK} {ta : TA} {wa : WA} [df : Dflt K dvs dds] [l : LA K ta wa] : LE K (tMake C (upIn K C dsp) dvs E ta) (wMake C dsp dds wa) := ⟨fun {F s H σ Γ Q Q0} a h k => l.go a h fun vs H1 ds s1 t1 ok1 r1 h1 => by
  obtain ⟨ds', s2, h2, ok2, t2, r2⟩ := escs ok1 r1 h1
  exact make_data ok2 (r2.app (df.rep _)) h2 (fun v H' fs n' t3 ok3 r3 q => k v H' _ _ ((t1.trans t2).trans t3) ok3 r3 q)⟩
theorem vals_one {v : V} {us : List Value} (h : Vals [v] us) : ∃ u, us = [u] ∧ RelV v u := by
  cases h with
  | cons r t => cases t; exact ⟨_, rfl, r⟩
/-! ### isinstance -/
class ObjC (K : PySem.W.Frag) (C : Addr) : Prop where
  ty : ∀ {H : Hp} {a dx : Addr} {fs : List (Str × V)}, H a = some (.ins C dx fs) → TyX K H (.ref a) (.ref C)
def Kit (K : PySem.W.Frag) (t u : Value) (b : Bool) : Prop := PySem.W.kitOne K t u = some b
def wty (K : PySem.W.Frag) (d : D) (k : Value → Prop) : Prop := match d with
  | .non => k (.type "NoneType")
  | .int _ => k (.type "int")
  | .str _ => k (.type "str")
  | .bl _ => k (.type "bool")
  | .lst _ => k (.type "list")
  | .tup _ => k (.type "tuple")
  | .dct _ => k (.type "dict")
  | .obj C _ => ObjC K C ∧ k (.ref C)
  | _ => False
theorem sqt_ty {a : Addr} {xs : List V} (h : SqT K H a xs) : TyX K H (.ref a) (.type "tuple") := by
  rcases h with (h | ⟨o, h⟩) | ⟨o, its, n, h1, h2, h3⟩
  · exact .base (.tup h)
  · exact .fTuple h
  · exact .kTuple h1 h2
theorem wty_of {x : V} {d : D} {k : Value → Prop} (r : RepW K (vis F s H) H x d) (h : wty K d k) : ∃ t, TyX K H x t ∧ k t := by
  cases d with
  | non => cases r; exact ⟨_, .base .non, h⟩
  | int i => cases r; exact ⟨_, .base (.int _), h⟩
  | str i => cases r; exact ⟨_, .base (.str _), h⟩
  | bl i => cases r; exact ⟨_, .base (.bl _), h⟩
  | lst ds => obtain ⟨a, xs, rfl, h1, _⟩ := r; exact ⟨_, .base (.lst h1), h⟩
  | tup ds => obtain ⟨a, xs, rfl, h1, _⟩ := r.tup vis_ex; exact ⟨_, sqt_ty h1, h⟩
  | dct ds => obtain ⟨a, xs, rfl, h1, _⟩ := r; exact ⟨_, .base (.dK h1), h⟩
  | obj C fs => obtain ⟨a, dx, xs, rfl, h1, _⟩ := r; exact ⟨_, h.1.ty h1, h.2⟩
  | _ => exact h.elim
def wcls (d : D) (k : Value → Prop) : Prop := match d with
  | .val (.ty n) => k (.type n)
  | .val (.ref C) => k (.ref C)
  | _ => False
def fIsi (K : PySem.W.Frag) : F2 := fun x c s Q => wty K x fun t => wcls c fun u => ∃ b, Kit K t u b ∧ Q (.bl b) s
instance : LC K (rIsi K) (f2 (fIsi K)) := ⟨fun {F s H vs ds Q Q0} ok r h k => by
  unfold f2 at h
  split at h
  · obtain ⟨v, w, rfl, r1, q1⟩ := wl2 r
    obtain ⟨t, ht, h2⟩ := wty_of r1 h
    rename_i d e
    cases e with
    | val u =>
      obtain rfl : w = u := q1
      cases w with
      | ty n =>
        obtain ⟨b, h3, h4⟩ := h2
        exact ⟨_, _, t, _, b, rfl, .ty n, ht, h3, k _ _ _ _ Tr.refl ok .bl h4⟩
      | ref C =>
        obtain ⟨b, h3, h4⟩ := h2
        exact ⟨_, _, t, _, b, rfl, .own C, ht, h3, k _ _ _ _ Tr.refl ok .bl h4⟩
      | _ => exact h2.elim
    | _ => exact h2.elim
  · exact h.elim⟩
end
end Da

/-! Readings over data: loops, comprehensions, one's own objects, whole defs (own). -/
namespace Da
open PySem PySem.Spec PyProof.Rows L2 Evl Hd
/-! ### what is walked -/
inductive Src where
  | seq (ds : List D)
  | rng (lo : Int) (n : Nat)
  | chr (z : Str)
  | enu (ds : List D)
  | zip (ds es : List D)
def Src.at : Src → Nat → Option D
  | .seq ds, i => ds[i]?
  | .rng lo n, i => if i < n then some (.int (lo + i)) else none
  | .chr z, i => (z.cps[i]?).map fun c => .str ⟨#[c]⟩
  | .enu ds, i => (ds[i]?).map fun d => .tup [.int i, d]
  | .zip ds es, i => match ds[i]?, es[i]? with
    | some d, some e => some (.tup [d, e])
    | _, _ => none
def Src.n : Src → Nat
  | .seq ds => ds.length
  | .rng _ n => n
  | .chr z => z.cps.size
  | .enu ds => ds.length
  | .zip ds es => min ds.length es.length
structure WalkD (K : PySem.W.Frag) (F : Fr) (s : S) (H : Hp) (J : It) (src : Src) : Prop where
  w : ∃ (G : Hp → Prop) (Y : Nat → Hp → V → Hp → Prop), Walk J src.n G Y ∧ (∀ F2 s2 H2, Ex (vis F s H) (vis F2 s2 H2) → OkS K F2 s2 H2 → G H2) ∧
    ∀ F2 i s2 H2 x H3, i < src.n → Ex (vis F s H) (vis F2 s2 H2) → OkS K F2 s2 H2 → Y i H2 x H3 → ∃ d, src.at i = some d ∧ Tr F2 s2 H2 s2 H3 ∧ OkS K F2 s2 H3 ∧ Rep K (vis F2 s2 H3) x d ∧ ∀ b, H2 b ≠ none → H3 b = H2 b
abbrev WI := Ga → S → (Src → S → Prop) → Prop
class LI (K : PySem.W.Frag) (wi : TI) (ws : outParam WI) : Prop where
  go : ∀ {F : Fr} {s : S} {H : Hp} {σ : L2.St} {Γ : Ga} {Q : Src → S → Prop} {R : It → Hp → Prop}, At K F s H σ Γ → ws Γ s Q → (∀ src H' s' J, Tr F s H s' H' → OkS K F s' H' → WalkD K F s' H' J src → Q src s' → R J H') → wi σ H R
section
variable {K : PySem.W.Frag} {F : Fr} {s : S} {H : Hp}
theorem walk_seq {J : It} {a : Addr} {xs : List V} {ds : List D} (hw : (J = Itl K a ∧ vis F s H a = some (.lst xs)) ∨ (J = Itt K a ∧ SqT K (vis F s H) a xs)) (r : RepL K (vis F s H) xs ds) : WalkD K F s H J (.seq ds) := by
  have item : ∀ F2 i s2 H2 x H3, i < ds.length → Ex (vis F s H) (vis F2 s2 H2) → OkS K F2 s2 H2 → YAt xs i H2 x H3 → ∃ d, (Src.seq ds).at i = some d ∧ Tr F2 s2 H2 s2 H3 ∧ OkS K F2 s2 H3 ∧ Rep K (vis F2 s2 H3) x d ∧ ∀ b, H2 b ≠ none → H3 b = H2 b := fun F2 i s2 H2 x H3 hi e ok y => by
    obtain ⟨rfl, hx⟩ := y
    obtain ⟨d, h1, h2⟩ := r.get' hx
    exact ⟨d, h1, Tr.refl, ok, h2.mono e, fun _ _ => rfl⟩
  rcases hw with ⟨rfl, hw⟩ | ⟨rfl, hw⟩
  · refine ⟨⟨fun H2 => SqL K H2 a xs, YAt xs, ?_, fun F2 s2 H2 e _ => SqL.of (vis_ex _ _ (e _ _ hw)), item⟩⟩
    have := walk_list (K := K) (a := a) (xs := xs)
    rw [r.len] at this
    exact this
  · refine ⟨⟨fun H2 => SqT K H2 a xs, YAt xs, ?_, fun F2 s2 H2 e _ => ex_t vis_ex (ex_t e hw), item⟩⟩
    have := walk_tup (K := K) (a := a) (xs := xs)
    rw [r.len] at this
    exact this
def asSeq (d : D) (k : Src → Prop) : Prop := match d with
  | .lst ds => k (.seq ds)
  | .tup ds => k (.seq ds)
  | _ => False
def wiSeq (w : WE) : WI := fun Γ s Q => w Γ s fun d s1 => escP s1 d fun d' s2 => asSeq d' fun src => Q src s2
instance {te : TE} {w : WE} [l : LE K te w] : LI K (Nr.iSeq K te) (wiSeq w) := ⟨fun {F s H σ Γ Q R} a h k => l.go a h fun v H1 d s1 t1 ok1 r1 h1 => by
  obtain ⟨d', s2, h2, ok2, t2, r2⟩ := esc ok1 r1 h1
  cases d' with
  | lst ds =>
    cases r2 with
    | @lst b xs _ g1 g2 g3 => exact ⟨b, rfl, .inl ⟨⟨xs, SqL.of (vis_ex _ _ g1)⟩, k _ _ _ _ (t1.trans t2) ok2 (walk_seq (.inl ⟨rfl, g1⟩) g2) h2⟩⟩
  | tup ds =>
    cases r2 with
    | @tup b xs _ g1 g2 g3 => exact ⟨b, rfl, .inr ⟨⟨xs, ex_t vis_ex g1⟩, k _ _ _ _ (t1.trans t2) ok2 (walk_seq (.inr ⟨rfl, g1⟩) g2) h2⟩⟩
  | _ => exact h2.elim⟩
theorem walk_rng {lo : Int} {n : Nat} : WalkD K F s H (Itr lo n) (.rng lo n) := by
  refine ⟨⟨fun _ => True, _, walk_range, fun _ _ _ _ _ => trivial, fun F2 i s2 H2 x H3 hi e ok y => ?_⟩⟩
  obtain ⟨rfl, rfl⟩ := y
  exact ⟨.int (lo + i), if_pos hi, Tr.refl, ok, .int, fun _ _ => rfl⟩
def wiRng1 (w : WA) : WI := fun Γ s Q => w Γ s fun ds s1 => match ds with
  | [.int j] => (-(2 ^ 62) ≤ j ∧ j < 2 ^ 62) ∧ Q (.rng 0 j.toNat) s1
  | _ => False
instance {ta : TA} {w : WA} [l : LA K ta w] : LI K (iRng1 ta) (wiRng1 w) := ⟨fun {F s H σ Γ Q R} a h k => l.go a h fun vs H1 ds s1 t1 ok1 r1 h1 => by
  split at h1
  · rename_i j
    cases r1 with
    | cons r q => cases q; cases r; exact ⟨j, rfl, h1.1.1, h1.1.2, k _ _ _ _ t1 ok1 walk_rng h1.2⟩
  · exact h1.elim⟩
def wiRng2 (w : WA) : WI := fun Γ s Q => w Γ s fun ds s1 => match ds with
  | [.int i, .int j] => (-(2 ^ 62) ≤ i ∧ i < 2 ^ 62 ∧ -(2 ^ 62) ≤ j ∧ j < 2 ^ 62) ∧ Q (.rng i (j - i).toNat) s1
  | _ => False
instance {ta : TA} {w : WA} [l : LA K ta w] : LI K (iRng2 ta) (wiRng2 w) := ⟨fun {F s H σ Γ Q R} a h k => l.go a h fun vs H1 ds s1 t1 ok1 r1 h1 => by
  split at h1
  · rename_i i j
    cases r1 with
    | cons r q => cases q with
      | cons r2 q => cases q; cases r; cases r2; exact ⟨i, j, rfl, h1.1, k _ _ _ _ t1 ok1 walk_rng h1.2⟩
  · exact h1.elim⟩
def asStr (d : D) (k : Str → Prop) : Prop := match d with
  | .str z => k z
  | _ => False
def wiStr (w : WE) : WI := fun Γ s Q => w Γ s fun d s1 => asStr d fun z => Q (.chr z) s1
instance {te : TE} {w : WE} [l : LE K te w] : LI K (iStr te) (wiStr w) := ⟨fun {F s H σ Γ Q R} a h k => l.go a h fun v H1 d s1 t1 ok1 r1 h1 => by
  cases d with
  | str z =>
    cases r1
    refine ⟨z, rfl, k _ _ _ _ t1 ok1 ⟨⟨fun _ => True, _, walk_str, fun _ _ _ _ _ => trivial, fun F2 i s2 H2 x H3 hi e ok y => ?_⟩⟩ h1⟩
    obtain ⟨rfl, c, hc, rfl⟩ := y
    exact ⟨.str ⟨#[c]⟩, by show (z.cps[i]?).map _ = _; rw [hc]; rfl, Tr.refl, ok, .str, fun _ _ => rfl⟩
  | _ => exact h1.elim⟩
theorem new_pair {F2 : Fr} {s2 : S} {H2 H3 : Hp} {T : Addr} {x y : V} {d e : D} (ok : OkS K F2 s2 H2) (hT : H2 T = none) (h3 : H3 = upd H2 T (.tup [x, y])) (rx : Rep K (vis F2 s2 H2) x d) (ry : Rep K (vis F2 s2 H2) y e) :
    Tr F2 s2 H2 s2 H3 ∧ OkS K F2 s2 H3 ∧ Rep K (vis F2 s2 H3) (.ref T) (.tup [d, e]) ∧ ∀ b, H2 b ≠ none → H3 b = H2 b := by
  subst h3
  obtain ⟨ok1, t1, v1⟩ := ok.new (o := .tup [x, y]) hT
  exact ⟨t1, ok1, .tup (SqT.of v1) (.cons (rx.mono t1.ex) (.cons (ry.mono t1.ex) .nil)) (by show 2 ≤ sizeLine; decide), fun b hb => upd_ne fun z => hb (by rw [z]; exact hT)⟩
def wiEnum (w : WA) : WI := fun Γ s Q => w Γ s fun ds s1 => match ds with
  | [d] => escP s1 d fun d' s2 => match d' with
    | .lst es => Q (.enu es) s2
    | _ => False
  | _ => False
instance {ta : TA} {w : WA} [l : LA K ta w] : LI K (iEnum K ta) (wiEnum w) := ⟨fun {F s H σ Γ Q R} a h k => l.go a h fun vs H1 ds s1 t1 ok1 r1 h1 => by
  split at h1
  · rename_i d
    cases r1 with
    | cons r q =>
      cases q
      obtain ⟨d', s2, h2, ok2, t2, r2⟩ := esc ok1 r h1
      cases d' with
      | lst es =>
        cases r2 with
        | @lst b xs _ g1 g2 g3 =>
          refine ⟨b, xs, rfl, SqL.of (vis_ex _ _ g1), k _ _ _ _ (t1.trans t2) ok2 ⟨⟨fun H2 => SqL K H2 b xs, _, by have := walk_enum (K := K) (a := b) (xs := xs); rw [g2.len] at this; exact this, fun F2 s2 H2 e _ => SqL.of (vis_ex _ _ (e _ _ g1)), fun F2 i s2 H2 x H3 hi e ok y => ?_⟩⟩ h2⟩
          obtain ⟨T, u, v, rfl, hT, h3, e1, e2⟩ := y
          cases e1
          obtain ⟨dd, h4, h5⟩ := g2.get' e2
          obtain ⟨q1, q2, q3, q4⟩ := new_pair ok hT h3 .int (h5.mono e)
          exact ⟨_, by show (es[i]?).map _ = _; rw [h4]; rfl, q1, q2, q3, q4⟩
      | _ => exact h2.elim
  · exact h1.elim⟩
/-- a walk over enumerate of a tuple -/
theorem walk_enumT {a : Addr} {xs : List V} : Walk (En.IteT K a) xs.length (fun H => SqT K H a xs) (YPair (fun i => some (.int (i : Nat))) (fun i => xs[i]?)) := by
  refine ⟨fun i _ hi q => ⟨xs, xs[i], q, by simp [hi]⟩, fun _ q => ⟨xs, q, Nat.le_refl _⟩, fun i H v H' _ q y => ?_⟩
  obtain ⟨T, x, h1, h2, h3, h4⟩ := y
  exact ⟨T, .int (i : Nat), x, h1, h2, h3, rfl, h4 xs q⟩
def wiEnumT (w : WA) : WI := fun Γ s Q => w Γ s fun ds s1 => match ds with
  | [.tup es] => Q (.enu es) s1
  | _ => False
instance {ta : TA} {w : WA} [l : LA K ta w] : LI K (En.iEnumT K ta) (wiEnumT w) := ⟨fun {F s H σ Γ Q R} a h k => l.go a h fun vs H1 ds s1 t1 ok1 r1 h1 => by
  split at h1
  · rename_i es
    cases r1 with
    | cons r q =>
      cases q
      cases r with
      | @tup b xs _ g1 g2 g3 =>
        refine ⟨b, xs, rfl, ex_t vis_ex g1, k _ _ _ _ t1 ok1 ⟨⟨fun H2 => SqT K H2 b xs, _, by have := walk_enumT (K := K) (a := b) (xs := xs); rw [g2.len] at this; exact this, fun F2 s2 H2 e _ => ex_t vis_ex (ex_t e g1), fun F2 i s2 H2 x H3 hi e ok y => ?_⟩⟩ h1⟩
        obtain ⟨T, u, v, rfl, hT, h3, e1, e2⟩ := y
        cases e1
        obtain ⟨dd, h4, h5⟩ := g2.get' e2
        obtain ⟨q1, q2, q3, q4⟩ := new_pair ok hT h3 .int (h5.mono e)
        exact ⟨_, by show (es[i]?).map _ = _; rw [h4]; rfl, q1, q2, q3, q4⟩
  · exact h1.elim⟩
/-! ### for -/
@[irreducible] def ForB (wg : WG) (wb : WS) (e : DE) (Γ : Ga) (src : Src) (s1 : S) : Prop := ∃ Inv : Nat → Ga → S → Prop, Inv 0 Γ s1 ∧
  (∀ i d Γ' s', i < src.n → src.at i = some d → Inv i Γ' s' → wg d Γ' s' fun Γ2 s2 => wb { e with nx := Inv (i + 1), ct := Inv (i + 1), bk := e.nx } Γ2 s2) ∧ ∀ Γ' s', Inv src.n Γ' s' → e.nx Γ' s'
theorem for_inv {wg : WG} {wb : WS} {e : DE} {Γ : Ga} {src : Src} {s1 : S} (Inv : Nat → Ga → S → Prop) (h0 : Inv 0 Γ s1)
  (step : ∀ i d Γ' s', i < src.n → src.at i = some d → Inv i Γ' s' → wg d Γ' s' fun Γ2 s2 => wb { e with nx := Inv (i + 1), ct := Inv (i + 1), bk := e.nx } Γ2 s2) (fin : ∀ Γ' s', Inv src.n Γ' s' → e.nx Γ' s') : ForB wg wb e Γ src s1 := by
  unfold ForB
  exact ⟨Inv, h0, step, fin⟩
theorem ForB.out {wg : WG} {wb : WS} {e : DE} {Γ : Ga} {src : Src} {s1 : S} (h : ForB wg wb e Γ src s1) : ∃ Inv : Nat → Ga → S → Prop, Inv 0 Γ s1 ∧
  (∀ i d Γ' s', i < src.n → src.at i = some d → Inv i Γ' s' → wg d Γ' s' fun Γ2 s2 => wb { e with nx := Inv (i + 1), ct := Inv (i + 1), bk := e.nx } Γ2 s2) ∧ ∀ Γ' s', Inv src.n Γ' s' → e.nx Γ' s' := by
  unfold ForB at h
  exact h
def wFor (ws : WI) (wg : WG) (wb : WS) : WS := fun e Γ s => ws Γ s fun src s1 => ForB wg wb e Γ src s1
instance {wi : TI} {g : TG} {tb : TS} {ws : WI} {wg : WG} {wb : WS} [li : LI K wi ws] [lg : LG K g wg] [lb : LS K tb wb] : LS K (tFor wi g tb) (wFor ws wg wb) := ⟨fun {F s H σ Γ e D0} a h k => li.go a h fun src H1 s1 J t1 ok1 wd h1 => by
  obtain ⟨Inv, i0, step, fin⟩ := h1.out
  obtain ⟨G, Y, W, hG, hY⟩ := wd.w
  refine for_it W (fun i σ' H' => ∃ Γ' s', Tr F s1 H1 s' H' ∧ At K F s' H' σ' Γ' ∧ Inv i Γ' s') ⟨Γ, s1, Tr.refl, a.to t1 ok1, i0⟩ (fun i σ' H' _ ⟨Γ', s', t, a', _⟩ => hG F s' H' t.ex a'.ok) ?_ ?_
  · rintro i x σ' H' H2 hi ⟨Γ', s', t, a', inv⟩ y
    obtain ⟨d, hd, t2, ok2, r2, _⟩ := hY F i s' H' x H2 hi t.ex a'.ok y
    have a2 := a'.to t2 ok2
    refine lg.go a2 r2 (step i d Γ' s' hi hd inv) fun σ3 H3 Γ3 s3 t3 a3 h3 => lb.go a3 h3 ?_
    have tt := ((t1.trans t).trans t2).trans t3
    have tn := (t.trans t2).trans t3
    exact ⟨fun σ4 H4 Γ4 s4 t4 a4 h4 => ⟨Γ4, s4, tn.trans t4, a4, h4⟩, fun v H4 d s4 t4 => k.rt v H4 d s4 (tt.trans t4), fun σ4 H4 Γ4 s4 t4 => k.nx σ4 H4 Γ4 s4 (tt.trans t4), fun σ4 H4 Γ4 s4 t4 a4 h4 => ⟨Γ4, s4, tn.trans t4, a4, h4⟩⟩
  · rintro σ' H' ⟨Γ', s', t, a', inv⟩
    exact k.nx _ _ _ _ (t1.trans t) a' (fin Γ' s' inv)⟩
/-! ### while -/
@[irreducible] def WhB (wc : WT) (wb : WS) (e : DE) (Γ : Ga) (s : S) : Prop := ∃ W : Nat → Ga → S → Prop, (∃ m, W m Γ s) ∧ ∀ m Γ' s', W m Γ' s' → wc Γ' s' fun b s2 => Br b (∃ N : Ga → S → Prop, (∀ Γ3 s3, N Γ3 s3 → ∃ m', m' < m ∧ W m' Γ3 s3) ∧ wb { e with nx := N, ct := N, bk := e.nx } Γ' s2) (e.nx Γ' s2)
theorem while_inv {wc : WT} {wb : WS} {e : DE} {Γ : Ga} {s : S} (W : Nat → Ga → S → Prop) (m0 : Nat) (h0 : W m0 Γ s)
  (step : ∀ m Γ' s', W m Γ' s' → wc Γ' s' fun b s2 => Br b (∃ N : Ga → S → Prop, (∀ Γ3 s3, N Γ3 s3 → ∃ m', m' < m ∧ W m' Γ3 s3) ∧ wb { e with nx := N, ct := N, bk := e.nx } Γ' s2) (e.nx Γ' s2)) : WhB wc wb e Γ s := by
  unfold WhB
  exact ⟨W, ⟨m0, h0⟩, step⟩
theorem WhB.out {wc : WT} {wb : WS} {e : DE} {Γ : Ga} {s : S} (h : WhB wc wb e Γ s) : ∃ W : Nat → Ga → S → Prop, (∃ m, W m Γ s) ∧ ∀ m Γ' s', W m Γ' s' → wc Γ' s' fun b s2 => Br b (∃ N : Ga → S → Prop, (∀ Γ3 s3, N Γ3 s3 → ∃ m', m' < m ∧ W m' Γ3 s3) ∧ wb { e with nx := N, ct := N, bk := e.nx } Γ' s2) (e.nx Γ' s2) := by
  unfold WhB at h
  exact h
def wWhile (wc : WT) (wb : WS) : WS := fun e Γ s => WhB wc wb e Γ s
instance {tc : TT} {tb : TS} {wc : WT} {wb : WS} [lc : LT K tc wc] [lb : LS K tb wb] : LS K (tWhile tc tb) (wWhile wc wb) := ⟨fun {F s H σ Γ e D0} a h k => by
  obtain ⟨W, ⟨m0, w0⟩, step⟩ := h.out
  refine ⟨fun m σ' H' => ∃ Γ' s', Tr F s H s' H' ∧ At K F s' H' σ' Γ' ∧ W m Γ' s', ⟨m0, Γ, s, Tr.refl, a, w0⟩, ?_⟩
  rintro m σ' H' ⟨Γ', s', t, a', w⟩
  refine lc.go a' (step m Γ' s' w) fun b H2 s2 t2 ok2 h2 => h2.ite (fun _ h3 => ?_) (fun _ h3 => k.nx _ _ _ _ (t.trans t2) (a'.to t2 ok2) h3)
  obtain ⟨N, hN, hb⟩ := h3
  refine ⟨fun σ3 H3 => ∃ Γ3 s3, Tr F s H s3 H3 ∧ At K F s3 H3 σ3 Γ3 ∧ N Γ3 s3, fun σ3 H3 ⟨Γ3, s3, t3, a3, n3⟩ => let ⟨m', hm, w'⟩ := hN Γ3 s3 n3; ⟨m', hm, Γ3, s3, t3, a3, w'⟩, lb.go (a'.to t2 ok2) hb ?_⟩
  have tt := t.trans t2
  exact ⟨fun σ4 H4 Γ4 s4 t4 a4 h4 => ⟨Γ4, s4, tt.trans t4, a4, h4⟩, fun v H4 d s4 t4 => k.rt v H4 d s4 (tt.trans t4), fun σ4 H4 Γ4 s4 t4 => k.nx σ4 H4 Γ4 s4 (tt.trans t4), fun σ4 H4 Γ4 s4 t4 a4 h4 => ⟨Γ4, s4, tt.trans t4, a4, h4⟩⟩⟩
/-! ### comprehensions -/
/-- which slots a target fills -/
class LGn (g : TG) (is : outParam (List Nat)) : Prop where
  go : ∀ {vs : List Nat} {v : V} {σ : L2.St} {H : Hp} {Q : L2.St → Hp → Prop}, (∀ i ∈ is, i ∈ vs) → g v (wipe σ vs) H Q → g v (wipe σ vs) H fun σ2 H2 => wipe σ2 vs = wipe σ vs ∧ Q σ2 H2
theorem wipe_get : ∀ {vs : List Nat} {σ : L2.St} {j : Nat}, (wipe σ vs)[j]? = if j ∈ vs ∧ j < σ.length then some none else σ[j]?
  | [], σ, j => by simp [wipe]
  | v :: vs, σ, j => by
    show ((wipe σ vs).set v none)[j]? = _
    by_cases e : v = j
    · subst e
      by_cases hl : v < σ.length
      · rw [List.getElem?_set_self (by rw [wipe_length]; exact hl), if_pos ⟨List.mem_cons_self, hl⟩]
      · rw [if_neg fun z => hl z.2, List.getElem?_eq_none (by rw [List.length_set, wipe_length]; omega), List.getElem?_eq_none (by omega)]
    · rw [List.getElem?_set_ne e, wipe_get]
      by_cases h : j ∈ vs ∧ j < σ.length
      · rw [if_pos h, if_pos ⟨List.mem_cons_of_mem _ h.1, h.2⟩]
      · rw [if_neg h, if_neg fun z => h ⟨(List.mem_cons.mp z.1).resolve_left (Ne.symm e), z.2⟩]
theorem wipe_eq {vs : List Nat} {σ σ2 : L2.St} (hl : σ2.length = σ.length) (h : ∀ j, j ∉ vs → σ2[j]? = σ[j]?) : wipe σ2 vs = wipe σ vs := by
  apply List.ext_getElem?
  intro j
  rw [wipe_get, wipe_get, hl]
  by_cases hj : j ∈ vs ∧ j < σ.length
  · rw [if_pos hj, if_pos hj]
  · rw [if_neg hj, if_neg hj]
    by_cases hj2 : j ∈ vs
    · have : ¬ j < σ.length := fun z => hj ⟨hj2, z⟩
      rw [List.getElem?_eq_none (by omega), List.getElem?_eq_none (by omega)]
    · exact h j hj2
/-- targets that only store -/
def Keeps (vs : List Nat) (σ σ2 : L2.St) : Prop := σ2.length = σ.length ∧ ∀ j, j ∉ vs → σ2[j]? = σ[j]?
class LGk (g : TG) (is : outParam (List Nat)) : Prop where
  go : ∀ {v : V} {σ : L2.St} {H : Hp} {Q : L2.St → Hp → Prop}, g v σ H Q → g v σ H fun σ2 H2 => Keeps is σ σ2 ∧ Q σ2 H2
class LGks (g : TGs) (is : outParam (List Nat)) : Prop where
  go : ∀ {vs : List V} {σ : L2.St} {H : Hp} {Q : L2.St → Hp → Prop}, g vs σ H Q → g vs σ H fun σ2 H2 => Keeps is σ σ2 ∧ Q σ2 H2
theorem Keeps.refl {σ : L2.St} : Keeps [] σ σ := ⟨rfl, fun _ _ => rfl⟩
theorem Keeps.trans {a b : List Nat} {σ σ1 σ2 : L2.St} (h : Keeps a σ σ1) (q : Keeps b σ1 σ2) : Keeps (a ++ b) σ σ2 :=
  ⟨q.1.trans h.1, fun j hj => (q.2 j fun z => hj (List.mem_append_right _ z)).trans (h.2 j fun z => hj (List.mem_append_left _ z))⟩
instance {i : Nat} : LGk (gName i) [i] := ⟨fun {v σ H Q} h => ⟨⟨by rw [List.length_set], fun j hj => List.getElem?_set_ne fun z => hj (by rw [z]; exact List.mem_cons_self)⟩, h⟩⟩
instance : LGks gNil [] := ⟨fun {vs σ H Q} h => ⟨h.1, Keeps.refl, h.2⟩⟩
class Mono2 (g : TG) : Prop where
  go : ∀ {v : V} {σ : L2.St} {H : Hp} {Q Q' : L2.St → Hp → Prop}, (∀ σ2 H2, Q σ2 H2 → Q' σ2 H2) → g v σ H Q → g v σ H Q'
class Mono2s (g : TGs) : Prop where
  go : ∀ {vs : List V} {σ : L2.St} {H : Hp} {Q Q' : L2.St → Hp → Prop}, (∀ σ2 H2, Q σ2 H2 → Q' σ2 H2) → g vs σ H Q → g vs σ H Q'
instance {i : Nat} : Mono2 (gName i) := ⟨fun h q => h _ _ q⟩
instance : Mono2s gNil := ⟨fun h q => ⟨q.1, h _ _ q.2⟩⟩
instance {g : TG} {u : TGs} [m : Mono2 g] [mu : Mono2s u] : Mono2s (gCons g u) := ⟨fun h ⟨v, r, e, q⟩ => ⟨v, r, e, m.go (fun _ _ q2 => mu.go h q2) q⟩⟩
instance {K : PySem.W.Frag} {n : Nat} {u : TGs} [mu : Mono2s u] : Mono2 (gTup K n u) := ⟨fun h ⟨a, xs, e, q1, q2, q⟩ => ⟨a, xs, e, q1, q2, mu.go h q⟩⟩
instance {g : TG} {u : TGs} {is js : List Nat} [l : LGk g is] [lu : LGks u js] [m : Mono2 g] [mu : Mono2s u] : LGks (gCons g u) (is ++ js) := ⟨fun {vs σ H Q} ⟨v, r, e, q⟩ => ⟨v, r, e, m.go (fun _ _ ⟨k1, q2⟩ => mu.go (fun _ _ ⟨k2, q3⟩ => ⟨k1.trans k2, q3⟩) (lu.go q2)) (l.go q)⟩⟩
instance {K : PySem.W.Frag} {n : Nat} {u : TGs} {js : List Nat} [lu : LGks u js] : LGk (gTup K n u) js := ⟨fun {v σ H Q} ⟨a, xs, e, q1, q2, q⟩ => ⟨a, xs, e, q1, q2, lu.go q⟩⟩
def subN : List Nat → List Nat → Bool
  | [], _ => true
  | i :: r, vs => match vs.any (Nat.beq i) with
    | true => subN r vs
    | false => false
theorem subN_mem : ∀ {is vs : List Nat}, subN is vs = true → ∀ i ∈ is, i ∈ vs
  | i :: r, vs, h, j, hj => by
    unfold subN at h
    split at h
    · rename_i hb
      rcases List.mem_cons.mp hj with e | hj
      · obtain ⟨x, hx, he⟩ := List.any_eq_true.mp hb
        rw [e, Nat.eq_of_beq_eq_true he]
        exact hx
      · exact subN_mem h j hj
    · cases h
/-- walks that are of any length, walks over things at hand -/
def Src.ok : Src → Prop → Prop
  | .rng _ n, k => n ≤ sizeLine ∧ k
  | .chr z, k => z.cps.size ≤ sizeLine ∧ k
  | .seq ds, k => ds.length ≤ sizeLine → k
  | .enu ds, k => ds.length ≤ sizeLine → k
  | .zip ds _, k => ds.length ≤ sizeLine → k
@[irreducible] def LcB (wg : WG) (wt : WT) (we : WE) (vs : List Nat) (Γ : Ga) (Q : QD) (src : Src) (s1 : S) : Prop := src.n ≤ sizeLine ∧ ∃ Inv : Nat → List D → S → Prop, Inv 0 [] s1 ∧
    (∀ i d acc s', i < src.n → src.at i = some d → acc.length ≤ i → Inv i acc s' → wg d (wipeG Γ vs) s' fun Γ2 s2 => wt Γ2 s2 fun b s3 => Br b (we Γ2 s3 fun y s4 => escP s4 y fun y' s5 => Inv (i + 1) (acc ++ [y']) s5) (Inv (i + 1) acc s3)) ∧
    ∀ acc s', acc.length ≤ src.n → Inv src.n acc s' → Q (.lst acc) s'
theorem lc_inv {wg : WG} {wt : WT} {we : WE} {vs : List Nat} {Γ : Ga} {Q : QD} {src : Src} {s1 : S} (Inv : Nat → List D → S → Prop) (hn : src.n ≤ sizeLine) (h0 : Inv 0 [] s1)
    (step : ∀ i d acc s', i < src.n → src.at i = some d → acc.length ≤ i → Inv i acc s' → wg d (wipeG Γ vs) s' fun Γ2 s2 => wt Γ2 s2 fun b s3 => Br b (we Γ2 s3 fun y s4 => escP s4 y fun y' s5 => Inv (i + 1) (acc ++ [y']) s5) (Inv (i + 1) acc s3))
    (fin : ∀ acc s', acc.length ≤ src.n → Inv src.n acc s' → Q (.lst acc) s') : LcB wg wt we vs Γ Q src s1 := by
  unfold LcB
  exact ⟨hn, Inv, h0, step, fin⟩
theorem LcB.out {wg : WG} {wt : WT} {we : WE} {vs : List Nat} {Γ : Ga} {Q : QD} {src : Src} {s1 : S} (h : LcB wg wt we vs Γ Q src s1) : src.n ≤ sizeLine ∧ ∃ Inv : Nat → List D → S → Prop, Inv 0 [] s1 ∧
    (∀ i d acc s', i < src.n → src.at i = some d → acc.length ≤ i → Inv i acc s' → wg d (wipeG Γ vs) s' fun Γ2 s2 => wt Γ2 s2 fun b s3 => Br b (we Γ2 s3 fun y s4 => escP s4 y fun y' s5 => Inv (i + 1) (acc ++ [y']) s5) (Inv (i + 1) acc s3)) ∧
    ∀ acc s', acc.length ≤ src.n → Inv src.n acc s' → Q (.lst acc) s' := by
  unfold LcB at h
  exact h
def wLc (ws : WI) (is : List Nat) (wg : WG) (wt : WT) (we : WE) (vs : List Nat) : WE := fun Γ s Q => match subN is vs with
  | false => False
  | true => ws Γ s fun src s1 => LcB wg wt we vs Γ Q src s1
/-- a list that is being made is hidden -/
def hidA (F : Fr) (a : Addr) : Fr := fun b => F b || b == a
theorem hidA_vis {D0 : Addr} {a : Addr} {o : HO} (h : vis (hidA F D0) s H a = some o) : vis F s H a = some o := by
  obtain ⟨h1, h2⟩ := vis_iff.mp h
  refine vis_iff.mpr ⟨?_, h2⟩
  unfold S.hid hidA at h1
  unfold S.hid
  simp only [Bool.or_eq_false_iff] at h1 ⊢
  exact ⟨⟨h1.1.1.1, h1.1.2⟩, h1.2⟩
theorem vis_hidA {D0 : Addr} {a : Addr} {o : HO} (n : a ≠ D0) (h : vis F s H a = some o) : vis (hidA F D0) s H a = some o := by
  obtain ⟨h1, h2⟩ := vis_iff.mp h
  refine vis_iff.mpr ⟨?_, h2⟩
  unfold S.hid at h1
  unfold S.hid hidA
  simp only [Bool.or_eq_false_iff] at h1 ⊢
  exact ⟨⟨⟨h1.1.1, by simpa using n⟩, h1.1.2⟩, h1.2⟩
/-- as OkS, the list at D0 (which H knows) hidden besides -/
theorem OkS.hide (ok : OkS K F s H) {D0 : Addr} {o : HO} (hn : H D0 = none) : OkS K (hidA F D0) s (upd H D0 o) ∧ Ex (vis F s H) (vis (hidA F D0) s (upd H D0 o)) := by
  have ne : ∀ a, H a ≠ none → a ≠ D0 := fun a ha z => ha (by rw [z]; exact hn)
  have ex : Ex (vis F s H) (vis (hidA F D0) s (upd H D0 o)) := fun a u e => by
    have h1 := (vis_iff.mp e).2
    have nn := ne a (by rw [h1]; exact fun z => nomatch z)
    exact vis_hidA nn (vis_iff.mpr ⟨(vis_iff.mp e).1, by rw [upd_ne nn]; exact h1⟩)
  refine ⟨⟨fun e he => (ok.ents e he).mono ex (upd_ne (ne _ (ok.ents e he).some)), ok.nd, fun p q e => ?_, fun a ha => ?_, fun e he => ?_, fun p q e => ?_⟩, ex⟩
  · obtain ⟨⟨z, hz, hzn⟩, hm⟩ := ok.pen p q e
    have hz2 := hz
    obtain ⟨_, ns, h4, h5, _⟩ := hz2
    exact ⟨⟨z, ok.pen_upd hz (Ne.symm (ne p (by rw [h4]; exact fun z => nomatch z))) (Ne.symm (ne q (by rw [h5]; exact fun z => nomatch z))), hzn⟩, hm⟩
  · unfold hidA at ha
    rw [Bool.or_eq_true, beq_iff_eq] at ha
    by_cases e : a = D0
    · rw [e, upd_same]; exact fun z => nomatch z
    · rw [upd_ne e]
      exact ok.fr a (ha.resolve_right e)
  · have := ne _ (ok.ents e he).some
    unfold hidA
    rw [ok.frM e he]
    simpa using this
  · obtain ⟨h1, h2⟩ := ok.frP p q e
    obtain ⟨⟨z, ⟨_, ns, h4, h5, _⟩, _⟩, _⟩ := ok.pen p q e
    have n1 := ne p (by rw [h4]; exact fun z => nomatch z)
    have n2 := ne q (by rw [h5]; exact fun z => nomatch z)
    unfold hidA
    rw [h1, h2]
    exact ⟨by simpa using n1, by simpa using n2⟩
/-- the hidden list is changed -/
theorem OkS.hupd {D0 : Addr} (ok : OkS K (hidA F D0) s H) {o : HO} : OkS K (hidA F D0) s (upd H D0 o) ∧ vis (hidA F D0) s (upd H D0 o) = vis (hidA F D0) s H := by
  have hv : vis (hidA F D0) s (upd H D0 o) = vis (hidA F D0) s H := by
    funext a
    unfold vis
    by_cases e : a = D0
    · have : s.hid (hidA F D0) a = true := by unfold S.hid hidA; rw [e]; simp
      rw [this, if_pos rfl, if_pos rfl]
    · rw [upd_ne e]
  have hF : hidA F D0 D0 = true := by unfold hidA; simp
  refine ⟨⟨fun e he => ?_, ok.nd, fun p q e => ?_, fun a ha => ?_, ok.frM, ok.frP⟩, hv⟩
  · have ne : e.a ≠ D0 := fun z => by
      have := ok.frM e he
      rw [z, hF] at this
      cases this
    exact (ok.ents e he).mono (by rw [hv]; exact Ex.refl _) (upd_ne ne)
  · obtain ⟨⟨z, hz, hzn⟩, hm⟩ := ok.pen p q e
    obtain ⟨h1, h2⟩ := ok.frP p q e
    exact ⟨⟨z, ok.pen_upd hz (fun z => by rw [← z, hF] at h1; cases h1) (fun z => by rw [← z, hF] at h2; cases h2), hzn⟩, hm⟩
  · by_cases e : a = D0
    · rw [e, upd_same]; exact fun z => nomatch z
    · rw [upd_ne e]; exact ok.fr a ha
/-- it is seen from now on -/
theorem OkS.unhide {D0 : Addr} (ok : OkS K (hidA F D0) s H) : OkS K F s H ∧ Ex (vis (hidA F D0) s H) (vis F s H) := by
  have ex : Ex (vis (hidA F D0) s H) (vis F s H) := fun a o h => hidA_vis h
  refine ⟨⟨fun e he => (ok.ents e he).mono ex rfl, ok.nd, ok.pen, fun a ha => ok.fr a (by unfold hidA; rw [ha]; rfl), fun e he => ?_, fun p q e => ?_⟩, ex⟩
  · have := ok.frM e he
    unfold hidA at this
    rw [Bool.or_eq_false_iff] at this
    exact this.1
  · obtain ⟨h1, h2⟩ := ok.frP p q e
    unfold hidA at h1 h2
    rw [Bool.or_eq_false_iff] at h1 h2
    exact ⟨h1.1, h2.1⟩
theorem unhide_at {D0 : Addr} (ok : OkS K (hidA F D0) s H) {o : HO} (h : H D0 = some o) (hF : F D0 = false) : vis F s H D0 = some o := by
  refine vis_iff.mpr ⟨?_, h⟩
  have hD : hidA F D0 D0 = true := by unfold hidA; simp
  unfold S.hid
  have h2 : s.hidM D0 = false := by
    unfold S.hidM
    rw [List.any_eq_false]
    intro e he
    have : e.a ≠ D0 := fun z => by
      have := ok.frM e he
      rw [z, hD] at this
      cases this
    simp [this]
  have h3 : s.hidP D0 = false := by
    unfold S.hidP
    cases e : s.pn with
    | none => rfl
    | some pq =>
      obtain ⟨p, q⟩ := pq
      obtain ⟨h1, h2⟩ := ok.frP p q e
      have n1 : D0 ≠ p := fun z => by rw [← z, hD] at h1; cases h1
      have n2 : D0 ≠ q := fun z => by rw [← z, hD] at h2; cases h2
      simp [n1, n2]
  rw [hF, h2, h3]
  rfl
instance {wi : TI} {g : TG} {tt : TT} {te : TE} {vs is : List Nat} {ws : WI} {wg : WG} {wt : WT} {we : WE} [li : LI K wi ws] [lk : LGk g is] [m2 : Mono2 g] [lg : LG K g wg] [lt : LT K tt wt] [le : LE K te we] : LE K (tLc wi g tt te vs) (wLc ws is wg wt we vs) := ⟨fun {F s H σ Γ Q Q0} a h k => by
  unfold wLc at h
  cases hs : subN is vs with
  | false => rw [hs] at h; exact h.elim
  | true =>
    rw [hs] at h
    refine li.go a h fun src H1 s1 J t1 ok1 wd h1 => ?_
    obtain ⟨hn, Inv, i0, step, fin⟩ := h1.out
    obtain ⟨G, Y, W, hG, hY⟩ := wd.w
    intro D0 hD
    obtain ⟨okh, exh⟩ := ok1.hide (o := .lst []) hD
    have hFD : F D0 = false := by
      cases e : F D0 with
      | false => rfl
      | true => exact absurd hD (ok1.fr D0 e)
    refine lc_it W (fun i H' => ∃ acc s' us, Ex (vis F s1 H1) (vis (hidA F D0) s' H') ∧ (∀ b, F b = true → H' b = H1 b) ∧ s'.pn = s1.pn ∧ OkS K (hidA F D0) s' H' ∧ H' D0 = some (.lst us) ∧ RepL K (vis (hidA F D0) s' H') us acc ∧ acc.length ≤ i ∧ Inv i acc s') ⟨[], s1, [], exh, fun b hb => upd_ne fun z => (by rw [z, hFD] at hb; cases hb), rfl, okh, upd_same, .nil, Nat.zero_le _, i0⟩ (fun i H' _ ⟨acc, s', us, e1, _, _, ok, _⟩ => hG _ s' H' e1 ok) ?_ ?_
    · rintro i x H' H2 hi ⟨acc, s', us, e1, e2, e3, ok, e4, e5, e6, inv⟩ y
      obtain ⟨d, hd, t2, ok2, r2, keep⟩ := hY _ i s' H' x H2 hi e1 ok y
      have g2 : RepG K (vis (hidA F D0) s' H2) (wipe σ vs) (wipeG Γ vs) := ((a.g.mono t1.ex).mono (e1.trans t2.ex)).wipe
      have hD2 : H2 D0 = some (.lst us) := by rw [keep D0 (by rw [e4]; exact fun z => nomatch z)]; exact e4
      have q := lg.go ⟨g2, ok2⟩ r2 (step i d acc s' hi hd e6 inv) fun σ3 H3 Γ3 s3 t3 a3 h3 => (⟨Γ3, s3, t3, a3, h3⟩ : ∃ Γ3 s3, Tr (hidA F D0) s' H2 s3 H3 ∧ At K (hidA F D0) s3 H3 σ3 Γ3 ∧ wt Γ3 s3 fun b s3 => Br b (we Γ3 s3 fun y s4 => escP s4 y fun y' s5 => Inv (i + 1) (acc ++ [y']) s5) (Inv (i + 1) acc s3))
      refine m2.go (fun σ3 H3 ⟨kp, Γ3, s3, t3, a3, h3⟩ => ⟨?_, ?_⟩) (lk.go q)
      · exact (wipe_eq kp.1 (fun j hj => kp.2 j fun z => hj (subN_mem hs j z))).trans (wipe_eq (wipe_length σ vs) (fun j hj => by rw [wipe_get, if_neg fun z => hj z.1]))
      have hFD0 : hidA F D0 D0 = true := by unfold hidA; simp
      have fr0 : ∀ b, F b = true → hidA F D0 b = true := fun b hb => by unfold hidA; rw [hb]; rfl
      refine lt.go a3 h3 fun b H4 s4 t4 ok4 h4 => h4.ite (fun _ h5 => ?_) (fun _ h5 => ?_)
      · refine le.go (a3.to t4 ok4) h5 fun v H5 dv s5 t5 ok5 r5 h6 => ?_
        obtain ⟨y', s6, h7, ok6, t6, r6⟩ := esc ok5 r5 h6
        have tt := ((t2.trans t3).trans (t4.trans t5)).trans t6
        have hD5 : H5 D0 = some (.lst us) := by rw [tt.fr D0 hFD0, e4]
        obtain ⟨ok7, hv⟩ := ok6.hupd (o := .lst (us ++ [v]))
        refine ⟨us, hD5, ?_, acc ++ [y'], s6, us ++ [v], by rw [hv]; exact e1.trans tt.ex, fun b hb => ?_, tt.pn.trans e3, ok7, upd_same, ?_, by rw [List.length_append]; exact Nat.succ_le_succ e6, h7⟩
        · rw [e5.len]; omega
        · rw [upd_ne fun z => (by rw [z, hFD] at hb; cases hb), tt.fr b (fr0 b hb), e2 b hb]
        · rw [hv]
          exact (e5.mono tt.ex).app (.cons r6 .nil)
      · have tt := (t2.trans t3).trans t4
        exact ⟨acc, s4, us, e1.trans tt.ex, fun b hb => by rw [tt.fr b (fr0 b hb), e2 b hb], tt.pn.trans e3, ok4, by rw [tt.fr D0 hFD0, e4], e5.mono tt.ex, by omega, h5⟩
    · rintro H' ⟨acc, s', us, e1, e2, e3, ok, e4, e5, e6, inv⟩
      obtain ⟨ok8, ex8⟩ := ok.unhide
      refine k _ _ _ _ (t1.trans ⟨e1.trans ex8, e2, e3⟩) ok8 (.lst (unhide_at ok e4 hFD) (e5.mono ex8) (Nat.le_trans e6 hn)) (fin acc s' e6 inv)⟩
end
end Da

/-! Readings over data: one's own objects, whole defs (own). -/
namespace Da
open PySem PySem.Spec PyProof.Rows L2 Evl Hd
section
variable {K : PySem.W.Frag} {F : Fr} {s s' : S} {H H' : Hp}
/-! ### new objects that are changed later -/
/-- the hidden object at p becomes one of one's own -/
theorem OkS.adopt {p : Addr} (ok : OkS K (hidA F p) s H) (hF : F p = false) {m : MO} (r : RepO K (vis (hidA F p) s H) H p m) (h : Nat) : OkS K F (s.own h p m) H ∧ vis F (s.own h p m) H = vis (hidA F p) s H := by
  have hv : vis F (s.own h p m) H = vis (hidA F p) s H := by
    funext a
    unfold vis
    have : (s.own h p m).hid F a = s.hid (hidA F p) a := by
      unfold S.hid hidA
      show (F a || (List.any (⟨h, p, m, false⟩ :: s.M) fun e => !e.fz && e.a == a) || s.hidP a) = (F a || a == p || s.hidM a || s.hidP a)
      rw [List.any_cons]
      have e : (p == a) = (a == p) := by
        by_cases z : p = a
        · subst z; rfl
        · rw [beq_eq_false_iff_ne.mpr z, beq_eq_false_iff_ne.mpr (Ne.symm z)]
      show (F a || ((!false && p == a) || s.hidM a) || s.hidP a) = _
      rw [e, Bool.not_false, Bool.true_and, Bool.or_assoc (F a) (a == p)]
    rw [this]
  have hD : hidA F p p = true := by unfold hidA; simp
  have nm : ∀ e ∈ s.M, e.a ≠ p := fun e he z => by
    have := ok.frM e he
    rw [z, hD] at this
    cases this
  refine ⟨⟨fun e he => ?_, ?_, fun a b e => ?_, fun a ha => ok.fr a (by unfold hidA; rw [ha]; rfl), fun e he => ?_, fun a b e => ?_⟩, hv⟩
  · rw [hv]
    rcases List.mem_cons.mp he with he | he
    · rw [he]; exact r
    · exact ok.ents e he
  · show ((⟨h, p, m, false⟩ :: s.M : List Ent).map (·.a)).Nodup
    rw [List.map_cons, List.nodup_cons]
    refine ⟨fun z => ?_, ok.nd⟩
    obtain ⟨e, he, ee⟩ := List.mem_map.mp z
    exact nm e he ee
  · obtain ⟨h1, h2⟩ := ok.pen a b e
    obtain ⟨h3, h4⟩ := ok.frP a b e
    refine ⟨h1, fun e he => ?_⟩
    rcases List.mem_cons.mp he with he | he
    · rw [he]
      exact ⟨fun z => (by rw [← z, hD] at h3; cases h3), fun z => (by rw [← z, hD] at h4; cases h4)⟩
    · exact h2 e he
  · rcases List.mem_cons.mp he with he | he
    · rw [he]; exact hF
    · have := ok.frM e he
      unfold hidA at this
      rw [Bool.or_eq_false_iff] at this
      exact this.1
  · obtain ⟨h3, h4⟩ := ok.frP a b e
    unfold hidA at h3 h4
    rw [Bool.or_eq_false_iff] at h3 h4
    exact ⟨h3.1, h4.1⟩
abbrev WM := Ga → S → (MO → S → Prop) → Prop
/-- what comes behind an expression that makes a new object -/
abbrev KM (K : PySem.W.Frag) (F : Fr) (s : S) (H : Hp) (Q : MO → S → Prop) (Q0 : VK) : Prop := ∀ p H' m s', F p = false → OkS K (hidA F p) s' H' → Ex (vis F s H) (vis (hidA F p) s' H') → (∀ b, F b = true → H' b = H b) → s'.pn = s.pn → RepO K (vis (hidA F p) s' H') H' p m → Q m s' → Q0 (.ref p) H'
class LEo (K : PySem.W.Frag) (te : TE) (w : outParam WM) : Prop where
  go : ∀ {F : Fr} {s : S} {H : Hp} {σ : L2.St} {Γ : Ga} {Q : MO → S → Prop} {Q0 : VK}, At K F s H σ Γ → w Γ s Q → KM K F s H Q Q0 → te σ H Q0
theorem KM.to {Q : MO → S → Prop} {Q0 : VK} (k : KM K F s H Q Q0) (t : Tr F s H s' H') : KM K F s' H' Q Q0 := fun p H2 m s2 h1 h2 h3 h4 h5 => k p H2 m s2 h1 h2 (t.ex.trans h3) (fun b hb => (h4 b hb).trans (t.fr b hb)) (h5.trans t.pn)
/-- made at once -/
theorem new_mo {Q : MO → S → Prop} {Q0 : VK} {o : HO} {m : MO} (ok : OkS K F s H) (hr : ∀ p Hv, Ex (vis F s H) Hv → RepO K Hv (upd H p o) p m) (h : Q m s) (k : KM K F s H Q Q0) : ∀ p, H p = none → Q0 (.ref p) (upd H p o) := fun p hp => by
  obtain ⟨ok1, e1⟩ := ok.hide (o := o) hp
  have hF : F p = false := by
    cases e : F p with
    | false => rfl
    | true => exact absurd hp (ok.fr p e)
  exact k p _ m s hF ok1 e1 (fun b hb => upd_ne fun z => by rw [z, hF] at hb; cases hb) rfl (hr p _ e1) h
def woLst (wa : WA) : WM := fun Γ s Q => wa Γ s fun ds s1 => ds.length ≤ sizeLine ∧ Q (.lst ds) s1
instance {ta : TA} {wa : WA} [l : LA K ta wa] : LEo K (tLst ta) (woLst wa) := ⟨fun {F s H σ Γ Q Q0} a h k => l.go a h fun vs H1 ds s1 t1 ok1 r1 h1 =>
  ⟨by rw [r1.len]; exact h1.1, new_mo (m := .lst ds) ok1 (fun p Hv e => ⟨vs, upd_same, r1.mono e, h1.1⟩) h1.2 (k.to t1)⟩⟩
def woNew : WM := fun _ s Q => Q (.dct []) s
instance : LEo K tDNewK woNew := ⟨fun {F s H σ Γ Q Q0} a h k => new_mo (m := .dct []) a.ok (fun p Hv e => ⟨[], upd_same, .nil, Nat.zero_le _⟩) h k⟩
def woList (wa : WA) : WM := fun Γ s Q => wa Γ s fun ds s1 => seeA s1 ds fun ds' => match ds' with
  | [.lst es] => Q (.lst es) s1
  | [.tup es] => Q (.lst es) s1
  | _ => False
instance {ta : TA} {wa : WA} [l : LA K ta wa] : LEo K (tCB (rListO K) ta) (woList wa) := ⟨fun {F s H σ Γ Q Q0} a h k => l.go a h fun vs H1 ds s1 t1 ok1 r1 h1 => by
  obtain ⟨ds', h2, r2⟩ := sees ok1 r1 h1
  split at h2
  · obtain ⟨v, rfl, rr⟩ := wl1 r2
    obtain ⟨b, xs, rfl, g1, g2, g3⟩ := rr
    exact ⟨b, xs, rfl, .inl (SqL.of g1), new_mo (m := .lst _) ok1 (fun p Hv e => ⟨xs, upd_same, g2.mono e, g3⟩) h2 (k.to t1)⟩
  · obtain ⟨v, rfl, rr⟩ := wl1 r2
    obtain ⟨b, xs, rfl, g1, g2, g3⟩ := rr.tup vis_ex
    exact ⟨b, xs, rfl, .inr g1, new_mo (m := .lst _) ok1 (fun p Hv e => ⟨xs, upd_same, g2.mono e, g3⟩) h2 (k.to t1)⟩
  · exact h2.elim⟩
instance {wi : TI} {g : TG} {tt : TT} {te : TE} {vs is : List Nat} {ws : WI} {wg : WG} {wt : WT} {we : WE} [li : LI K wi ws] [lk : LGk g is] [m2 : Mono2 g] [lg : LG K g wg] [lt : LT K tt wt] [le : LE K te we] : LEo K (tLc wi g tt te vs) (fun Γ s Q => wLc ws is wg wt we vs Γ s fun d s1 => asL d fun ds => Q (.lst ds) s1) := ⟨fun {F s H σ Γ Q Q0} a h k => by
  unfold wLc at h
  cases hs : subN is vs with
  | false => rw [hs] at h; exact h.elim
  | true =>
    rw [hs] at h
    refine li.go a h fun src H1 s1 J t1 ok1 wd h1 => ?_
    obtain ⟨hn, Inv, i0, step, fin⟩ := h1.out
    obtain ⟨G, Y, W, hG, hY⟩ := wd.w
    intro D0 hD
    obtain ⟨okh, exh⟩ := ok1.hide (o := .lst []) hD
    have hFD : F D0 = false := by
      cases e : F D0 with
      | false => rfl
      | true => exact absurd hD (ok1.fr D0 e)
    refine lc_it W (fun i H' => ∃ acc s' us, Ex (vis F s1 H1) (vis (hidA F D0) s' H') ∧ (∀ b, F b = true → H' b = H1 b) ∧ s'.pn = s1.pn ∧ OkS K (hidA F D0) s' H' ∧ H' D0 = some (.lst us) ∧ RepL K (vis (hidA F D0) s' H') us acc ∧ acc.length ≤ i ∧ Inv i acc s') ⟨[], s1, [], exh, fun b hb => upd_ne fun z => (by rw [z, hFD] at hb; cases hb), rfl, okh, upd_same, .nil, Nat.zero_le _, i0⟩ (fun i H' _ ⟨acc, s', us, e1, _, _, ok, _⟩ => hG _ s' H' e1 ok) ?_ ?_
    · rintro i x H' H2 hi ⟨acc, s', us, e1, e2, e3, ok, e4, e5, e6, inv⟩ y
      obtain ⟨d, hd, t2, ok2, r2, keep⟩ := hY _ i s' H' x H2 hi e1 ok y
      have g2 : RepG K (vis (hidA F D0) s' H2) (wipe σ vs) (wipeG Γ vs) := ((a.g.mono t1.ex).mono (e1.trans t2.ex)).wipe
      have hD2 : H2 D0 = some (.lst us) := by rw [keep D0 (by rw [e4]; exact fun z => nomatch z)]; exact e4
      have q := lg.go ⟨g2, ok2⟩ r2 (step i d acc s' hi hd e6 inv) fun σ3 H3 Γ3 s3 t3 a3 h3 => (⟨Γ3, s3, t3, a3, h3⟩ : ∃ Γ3 s3, Tr (hidA F D0) s' H2 s3 H3 ∧ At K (hidA F D0) s3 H3 σ3 Γ3 ∧ wt Γ3 s3 fun b s3 => Br b (we Γ3 s3 fun y s4 => escP s4 y fun y' s5 => Inv (i + 1) (acc ++ [y']) s5) (Inv (i + 1) acc s3))
      refine m2.go (fun σ3 H3 ⟨kp, Γ3, s3, t3, a3, h3⟩ => ⟨?_, ?_⟩) (lk.go q)
      · exact (wipe_eq kp.1 (fun j hj => kp.2 j fun z => hj (subN_mem hs j z))).trans (wipe_eq (wipe_length σ vs) (fun j hj => by rw [wipe_get, if_neg fun z => hj z.1]))
      have hFD0 : hidA F D0 D0 = true := by unfold hidA; simp
      have fr0 : ∀ b, F b = true → hidA F D0 b = true := fun b hb => by unfold hidA; rw [hb]; rfl
      refine lt.go a3 h3 fun b H4 s4 t4 ok4 h4 => h4.ite (fun _ h5 => ?_) (fun _ h5 => ?_)
      · refine le.go (a3.to t4 ok4) h5 fun v H5 dv s5 t5 ok5 r5 h6 => ?_
        obtain ⟨y', s6, h7, ok6, t6, r6⟩ := esc ok5 r5 h6
        have tt := ((t2.trans t3).trans (t4.trans t5)).trans t6
        have hD5 : H5 D0 = some (.lst us) := by rw [tt.fr D0 hFD0, e4]
        obtain ⟨ok7, hv⟩ := ok6.hupd (o := .lst (us ++ [v]))
        refine ⟨us, hD5, ?_, acc ++ [y'], s6, us ++ [v], by rw [hv]; exact e1.trans tt.ex, fun b hb => ?_, tt.pn.trans e3, ok7, upd_same, ?_, by rw [List.length_append]; exact Nat.succ_le_succ e6, h7⟩
        · rw [e5.len]; omega
        · rw [upd_ne fun z => (by rw [z, hFD] at hb; cases hb), tt.fr b (fr0 b hb), e2 b hb]
        · rw [hv]
          exact (e5.mono tt.ex).app (.cons r6 .nil)
      · have tt := (t2.trans t3).trans t4
        exact ⟨acc, s4, us, e1.trans tt.ex, fun b hb => by rw [tt.fr b (fr0 b hb), e2 b hb], tt.pn.trans e3, ok4, by rw [tt.fr D0 hFD0, e4], e5.mono tt.ex, by omega, h5⟩
    · rintro H' ⟨acc, s', us, e1, e2, e3, ok, e4, e5, e6, inv⟩
      exact k D0 H' (.lst acc) s' hFD ok (t1.ex.trans e1) (fun b hb => (e2 b hb).trans (t1.fr b hb)) (e3.trans t1.pn) ⟨us, e4, e5, Nat.le_trans e6 hn⟩ (fin acc s' e6 inv)⟩
def woMake (C : Addr) (dsp : DIn) (dds : List D) (wa : WA) : WM := fun Γ s Q => wa Γ s fun ds s1 => escA s1 ds fun ds' s2 => dsp s2.pn (ds' ++ dds) s2.n (fun fs n' => Q (.obj C fs) (s2.at n')) XF
/-! ### statements with one's own objects -/
def tAsgO (h : Nat) (te : TE) (g : TG) : TS := tAsg te g
theorem ps_own {X : Cx} {st : Stmt} {te : TE} {g : TG} (h : Nat) (p : PS X st (tAsg te g)) : PS X st (tAsgO h te g) := p
def wAsgO (h i : Nat) (wo : WM) : WS := fun e Γ s => wo (setG Γ i none) (s.drop h) fun m s1 => ∀ a, e.nx (setG (setG Γ i none) i (some (.loc a h))) (s1.own h a m)
instance {h i : Nat} {te : TE} {wo : WM} [l : LEo K te wo] : LS K (tAsgO h te (gName i)) (wAsgO h i wo) := ⟨fun {F s H σ Γ e D0} a hh k => by
  obtain ⟨ok0, t0⟩ := a.ok.drop h
  have a0 : At K F (s.drop h) H σ (setG Γ i none) := ⟨(a.g.mono t0.ex).forget, ok0⟩
  refine l.go a0 hh fun p H' m s' hF ok ex fr pn r h1 => ?_
  obtain ⟨ok2, hv⟩ := ok.adopt hF r h
  have t2 : Tr F s H (s'.own h p m) H' := ⟨t0.ex.trans (by rw [hv]; exact ex), fun b hb => fr b hb, pn⟩
  refine k.nx _ _ _ _ t2 ⟨?_, ok2⟩ (h1 p)
  rw [hv]
  exact (a0.g.mono ex).set .loc⟩
/-- an expression within another one: its object is one's own -/
def tOwn (h : Nat) (te : TE) : TE := te
theorem pe_own {X : Cx} {e : Expr} {te : TE} (h : Nat) (p : PE X e te) : PE X e (tOwn h te) := p
def wOwn (h : Nat) (wo : WM) : WE := fun Γ s Q => wo Γ (s.drop h) fun m s1 => ∀ a, Q (.loc a h) (s1.own h a m)
instance {h : Nat} {te : TE} {wo : WM} [l : LEo K te wo] : LE K (tOwn h te) (wOwn h wo) := ⟨fun {F s H σ Γ Q Q0} a hh k => by
  obtain ⟨ok0, t0⟩ := a.ok.drop h
  refine l.go (a.to t0 ok0) hh fun p H' m s' hF ok ex fr pn r h1 => ?_
  obtain ⟨ok2, hv⟩ := ok.adopt hF r h
  have t2 : Tr F s H (s'.own h p m) H' := ⟨t0.ex.trans (by rw [hv]; exact ex), fun b hb => fr b hb, pn⟩
  exact k _ _ _ _ t2 ok2 .loc (h1 p)⟩
def mutP (s : S) (d : D) (k : Nat → MO → Prop) : Prop := match d with
  | .loc a h => match mget s.M h with
    | some e => e.a = a ∧ (match e.fz with
      | false => k h e.o
      | true => False)
    | none => False
  | _ => False
theorem mutP_of {v : V} {d : D} (r : Rep K (vis F s H) v d) {k : Nat → MO → Prop} (h : mutP s d k) : ∃ n e, mget s.M n = some e ∧ e.fz = false ∧ v = .ref e.a ∧ k n e.o ∧ d = .loc e.a n := by
  cases d with
  | loc a n =>
    cases r
    unfold mutP at h
    simp only at h
    cases q : mget s.M n with
    | none => rw [q] at h; exact h.elim
    | some e =>
      rw [q] at h
      obtain ⟨rfl, h2⟩ := h
      cases f : e.fz with
      | true =>
        simp only [f] at h2
      | false =>
        simp only [f] at h2
        exact ⟨n, e, q, f, rfl, h2, rfl⟩
  | _ => exact h.elim
def moL (m : MO) (k : List D → Prop) : Prop := match m with
  | .lst ds => k ds
  | _ => False
def arg1 (ds : List D) (k : D → Prop) : Prop := match ds with
  | [d] => k d
  | _ => False
def wApp (wo : WE) (wa : WA) : WE := fun Γ s Q => wo Γ s fun o s1 => mutP s1 o fun _ m0 => moL m0 fun _ => wa Γ s1 fun args s2 => arg1 args fun d => escP s2 d fun d' s3 => mutP s3 o fun h m => moL m fun ds => ds.length < sizeLine ∧ Q .non (s3.put h (.lst (ds ++ [d'])))
instance {to : TE} {ta : TA} {wo : WE} {wa : WA} [lo : LE K to wo] [l : LA K ta wa] : LE K (tBM K "list" rAppend to ta) (wApp wo wa) := ⟨fun {F s H σ Γ Q Q0} a h k => lo.go a h fun v1 H1 d1 s1 t1 ok1 r1 h1 => by
  obtain ⟨n, e, q1, q2, rfl, h2, rfl⟩ := mutP_of r1 h1
  cases hm : e.o with
  | lst ds0 =>
    rw [hm] at h2
    have h0 := ok1.ents e (mget_mem q1).1
    rw [hm] at h0
    obtain ⟨us0, u1, _, _⟩ := h0
    refine ⟨.inl ⟨rfl, us0, SqL.of u1⟩, l.go (a.to t1 ok1) h2 fun vs H2 ds s2 t2 ok2 r2 h3 => ?_⟩
    unfold arg1 at h3
    split at h3
    · cases r2 with
      | cons r q =>
        cases q
        obtain ⟨d', s3, h4, ok3, t3, r3⟩ := esc ok2 r h3
        obtain ⟨n', e', q3, q4, hv, h5, hd⟩ := mutP_of (K := K) (F := F) (H := H2) (v := .ref e.a) (d := .loc e.a n) .loc h4
        injection hd with ea en
        subst en
        cases hm2 : e'.o with
        | lst ds1 =>
          rw [hm2] at h5
          obtain ⟨h6, h7⟩ := h5
          have h8 := ok3.ents e' (mget_mem q3).1
          rw [hm2] at h8
          obtain ⟨us, u2, u3, u4⟩ := h8
          obtain ⟨ok4, t4⟩ := ok3.put (o := .lst (us ++ [_])) (m := .lst (ds1 ++ [d'])) q3 q4 (fun Hv ex => ⟨_, upd_same, (u3.mono ex).app (.cons (r3.mono ex) .nil), by rw [List.length_append]; exact h6⟩)
          refine ⟨e.a, us, _, rfl, rfl, by rw [ea]; exact u2, by rw [u3.len]; exact h6, ?_⟩
          rw [ea]
          exact k _ _ _ _ (((t1.trans t2).trans t3).trans t4) ok4 .non h7
        | nk _ _ _ => rw [hm2] at h5; exact h5.elim
        | dct _ => rw [hm2] at h5; exact h5.elim
        | obj _ _ => rw [hm2] at h5; exact h5.elim
    · exact h3.elim
  | nk _ _ _ => rw [hm] at h2; exact h2.elim
  | dct _ => rw [hm] at h2; exact h2.elim
  | obj _ _ => rw [hm] at h2; exact h2.elim⟩
def wgSet (wo wi : WE) : WG := fun d Γ s Q => escP s d fun d' s0 => wo Γ s0 fun o s1 => wi Γ s1 fun i s2 => asI i fun z => mutP s2 o fun h m => moL m fun ds => ∃ j, ixN ds.length z = some j ∧ Q Γ (s2.put h (.lst (ds.set j d')))
instance {to ti : TE} {wo wi : WE} [lo : LE K to wo] [li : LE K ti wi] : LG K (gSub to ti rSetL) (wgSet wo wi) := ⟨fun {F s H σ Γ v d Q Q0} a r h k => by
  obtain ⟨d', s0, h0, ok0, t0, r0⟩ := esc a.ok r h
  refine lo.go (a.to t0 ok0) h0 fun v1 H1 d1 s1 t1 ok1 r1 h1 => li.go (a.to (t0.trans t1) ok1) h1 fun v2 H2 d2 s2 t2 ok2 r2 h2 => ?_
  cases d2 with
  | int z =>
    cases r2
    have h2 : mutP s2 d1 fun h m => moL m fun ds => ∃ j, ixN ds.length z = some j ∧ Q Γ (s2.put h (.lst (ds.set j d'))) := h2
    obtain ⟨n, e, q1, q2, rfl, h3, rfl⟩ := mutP_of (r1.mono t2.ex) h2
    cases hm : e.o with
    | lst ds =>
      rw [hm] at h3
      obtain ⟨j, h4, h5⟩ := h3
      have h8 := ok2.ents e (mget_mem q1).1
      rw [hm] at h8
      obtain ⟨us, u2, u3, u4⟩ := h8
      obtain ⟨ok4, t4⟩ := ok2.put (o := .lst (us.set j v)) (m := .lst (ds.set j d')) q1 q2 (fun Hv ex => ⟨_, upd_same, (u3.mono ex).set (r0.mono ((t1.trans t2).ex.trans ex)), by rw [List.length_set]; exact u4⟩)
      have tt := ((t0.trans t1).trans t2).trans t4
      exact ⟨e.a, us, z, j, rfl, rfl, u2, by rw [u3.len]; exact h4, k _ _ _ _ tt (a.to tt ok4) h5⟩
    | nk _ _ _ => rw [hm] at h3; exact h3.elim
    | dct _ => rw [hm] at h3; exact h3.elim
    | obj _ _ => rw [hm] at h3; exact h3.elim
  | _ => exact h2.elim⟩
def wExt (wo : WE) (wa : WA) : WE := fun Γ s Q => wo Γ s fun o s1 => mutP s1 o fun _ m0 => moL m0 fun _ => wa Γ s1 fun args s2 => arg1 args fun d => seeP s2 d fun d' => asL d' fun es => mutP s2 o fun h m => moL m fun ds => ds.length + es.length ≤ sizeLine ∧ Q .non (s2.put h (.lst (ds ++ es)))
instance {to : TE} {ta : TA} {wo : WE} {wa : WA} [lo : LE K to wo] [l : LA K ta wa] : LE K (tBM K "list" rExtend to ta) (wExt wo wa) := ⟨fun {F s H σ Γ Q Q0} a h k => lo.go a h fun v1 H1 d1 s1 t1 ok1 r1 h1 => by
  obtain ⟨n, e, q1, q2, rfl, h2, rfl⟩ := mutP_of r1 h1
  cases hm : e.o with
  | lst ds0 =>
    rw [hm] at h2
    have h0 := ok1.ents e (mget_mem q1).1
    rw [hm] at h0
    obtain ⟨us0, u1, _, _⟩ := h0
    refine ⟨.inl ⟨rfl, us0, SqL.of u1⟩, l.go (a.to t1 ok1) h2 fun vs H2 ds s2 t2 ok2 r2 h3 => ?_⟩
    unfold arg1 at h3
    split at h3
    · cases r2 with
      | cons r q =>
        cases q
        obtain ⟨d', h4, r3⟩ := see ok2 r h3
        cases d' with
        | lst es =>
          obtain ⟨b, zs, rfl, z1, z2, z3⟩ := r3
          have h4 : mutP s2 (.loc e.a n) fun h m => moL m fun ds => ds.length + es.length ≤ sizeLine ∧ Q .non (s2.put h (.lst (ds ++ es))) := h4
          obtain ⟨n', e', q3, q4, hv, h5, hd⟩ := mutP_of (K := K) (F := F) (H := H2) (v := .ref e.a) (d := .loc e.a n) .loc h4
          injection hd with ea en
          subst en
          cases hm2 : e'.o with
          | lst ds1 =>
            rw [hm2] at h5
            obtain ⟨h6, h7⟩ := h5
            have h8 := ok2.ents e' (mget_mem q3).1
            rw [hm2] at h8
            obtain ⟨us, u2, u3, u4⟩ := h8
            obtain ⟨ok4, t4⟩ := ok2.put (o := .lst (us ++ zs)) (m := .lst (ds1 ++ es)) q3 q4 (fun Hv ex => ⟨_, upd_same, (u3.mono ex).app (z2.mono ex), by rw [List.length_append]; exact h6⟩)
            refine ⟨e.a, b, us, zs, rfl, rfl, by rw [ea]; exact u2, z1, by rw [u3.len, z2.len]; exact h6, ?_⟩
            rw [ea]
            exact k _ _ _ _ ((t1.trans t2).trans t4) ok4 .non h7
          | nk _ _ _ => rw [hm2] at h5; exact h5.elim
          | dct _ => rw [hm2] at h5; exact h5.elim
          | obj _ _ => rw [hm2] at h5; exact h5.elim
        | _ => exact h4.elim
    · exact h3.elim
  | nk _ _ _ => rw [hm] at h2; exact h2.elim
  | dct _ => rw [hm] at h2; exact h2.elim
  | obj _ _ => rw [hm] at h2; exact h2.elim⟩
def wPop (wo : WE) : WE := fun Γ s Q => wo Γ s fun o s1 => mutP s1 o fun h m => moL m fun ds => ∃ d, ds[ds.length - 1]? = some d ∧ Q d (s1.put h (.lst ds.dropLast))
instance {to : TE} {wo : WE} [lo : LE K to wo] : LE K (tBM0 K "list" rPop to) (wPop wo) := ⟨fun {F s H σ Γ Q Q0} a h k => lo.go a h fun v1 H1 d1 s1 t1 ok1 r1 h1 => by
  obtain ⟨n, e, q1, q2, rfl, h2, rfl⟩ := mutP_of r1 h1
  cases hm : e.o with
  | lst ds =>
    rw [hm] at h2
    obtain ⟨d, h3, h4⟩ := h2
    have h0 := ok1.ents e (mget_mem q1).1
    rw [hm] at h0
    obtain ⟨us, u1, u3, u4⟩ := h0
    obtain ⟨v, g1, g2⟩ := u3.get h3
    obtain ⟨ok4, t4⟩ := ok1.put (o := .lst us.dropLast) (m := .lst ds.dropLast) q1 q2 (fun Hv ex => ⟨_, upd_same, (u3.mono ex).dropLast, by rw [List.length_dropLast]; omega⟩)
    refine ⟨.inl ⟨rfl, us, SqL.of u1⟩, e.a, us, v, rfl, rfl, u1, by rw [u3.len]; exact g1, k _ _ _ _ (t1.trans t4) ok4 (g2.mono t4.ex) h4⟩
  | nk _ _ _ => rw [hm] at h2; exact h2.elim
  | dct _ => rw [hm] at h2; exact h2.elim
  | obj _ _ => rw [hm] at h2; exact h2.elim⟩
/-! ### fields -/
def putFD (f : Str) (d : D) : List (Str × D) → List (Str × D)
  | [] => [(f, d)]
  | (g, x) :: r => match decide (g = f) with
    | true => (g, d) :: r
    | false => (g, x) :: putFD f d r
theorem putF_rep {Hv : Hp} {f : Str} {v : V} {d : D} (q : Rep K Hv v d) : ∀ {fs : List (Str × V)} {gs : List (Str × D)}, RepF K Hv fs gs → RepF K Hv (putF f v fs) (putFD f d gs)
  | _, _, .nil => .cons q .nil
  | _, _, @RepF.cons _ _ g u x vs ds r1 r2 => by
    unfold putF putFD
    by_cases e : g = f
    · rw [if_pos e, decide_eq_true e]
      exact .cons q r2
    · rw [if_neg e, decide_eq_false e]
      exact .cons r1 (putF_rep q r2)
theorem RepF.len {Hv : Hp} : ∀ {fs : List (Str × V)} {gs : List (Str × D)}, RepF K Hv fs gs → fs.length = gs.length
  | _, _, .nil => rfl
  | _, _, .cons _ r => congrArg (· + 1) (RepF.len r)
def moO (m : MO) (k : Addr → List (Str × D) → Prop) : Prop := match m with
  | .obj C fs => k C fs
  | _ => False
def wSetF (K : PySem.W.Frag) (f : Str) (wo wv : WE) : WS := fun e Γ s => wv Γ s fun d s1 => wo Γ s1 fun o s2 => escP s2 d fun d' s3 => mutP s3 o fun h m => moO m fun C fs => ((Cls K C ∧ NoAttr K C f) ∧ fs.length < 1000) ∧ e.nx Γ (s3.put h (.obj C (putFD f d' fs)))
instance {f : Str} {to tv : TE} {wo wv : WE} [lo : LE K to wo] [lv : LE K tv wv] : LS K (sFld K to tv f) (wSetF K f wo wv) := ⟨fun {F s H σ Γ e D0} a h k => lv.go a h fun v1 H1 d1 s1 t1 ok1 r1 h1 => lo.go (a.to t1 ok1) h1 fun v2 H2 d2 s2 t2 ok2 r2 h2 => by
  obtain ⟨d', s3, h3, ok3, t3, r3⟩ := esc ok2 (r1.mono t2.ex) h2
  obtain ⟨n, x, q1, q2, rfl, h4, rfl⟩ := mutP_of (r2.mono t3.ex) h3
  cases hm : x.o with
  | obj C fs =>
    rw [hm] at h4
    obtain ⟨⟨⟨c1, c2⟩, c3⟩, h5⟩ := h4
    have h0 := ok3.ents x (mget_mem q1).1
    rw [hm] at h0
    obtain ⟨dx, us, u1, u2⟩ := h0
    obtain ⟨ok4, t4⟩ := ok3.put (o := .ins C dx (putF f v1 us)) (m := .obj C (putFD f d' fs)) q1 q2 (fun Hv ex => ⟨dx, _, upd_same, putF_rep (r3.mono ex) (u2.mono ex)⟩)
    have tt := ((t1.trans t2).trans t3).trans t4
    exact ⟨x.a, C, dx, us, rfl, u1, c1, c2, by rw [u2.len]; exact c3, k.nx _ _ _ _ tt (a.to tt ok4) h5⟩
  | nk _ _ _ => rw [hm] at h4; exact h4.elim
  | lst _ => rw [hm] at h4; exact h4.elim
  | dct _ => rw [hm] at h4; exact h4.elim⟩
/-! ### dicts -/
def putKD (kvs : List (Key × D)) (k : Key) (d : D) : List (Key × D) := match kvs with
  | [] => [(k, d)]
  | (k', x) :: r => if k' = k then (k', d) :: r else (k', x) :: putKD r k d
def moD (m : MO) (k : List (Key × D) → Prop) : Prop := match m with
  | .dct kvs => k kvs
  | _ => False
theorem any_rep {Hv : Hp} {k : Key} : ∀ {ks : List (Key × V)} {gs : List (Key × D)}, RepK K Hv ks gs → (ks.any fun kv => decide (kv.1 = k)) = (gs.any fun kv => decide (kv.1 = k))
  | _, _, .nil => rfl
  | _, _, .cons _ r => by rw [List.any_cons, List.any_cons, any_rep r]
theorem map_rep {Hv : Hp} {k : Key} {v : V} {d : D} (q : Rep K Hv v d) : ∀ {ks : List (Key × V)} {gs : List (Key × D)}, RepK K Hv ks gs → RepK K Hv (ks.map fun kv => if kv.1 = k then (kv.1, v) else kv) (gs.map fun kv => if kv.1 = k then (kv.1, d) else kv)
  | _, _, .nil => .nil
  | _, _, @RepK.cons _ _ k' u x vs ds r1 r2 => by
    rw [List.map_cons, List.map_cons]
    by_cases e : k' = k
    · rw [if_pos e, if_pos e]; exact .cons q (map_rep q r2)
    · rw [if_neg e, if_neg e]; exact .cons r1 (map_rep q r2)
theorem appK_rep {Hv : Hp} : ∀ {ks ls : List (Key × V)} {gs hs : List (Key × D)}, RepK K Hv ks gs → RepK K Hv ls hs → RepK K Hv (ks ++ ls) (gs ++ hs)
  | _, _, _, _, .nil, s => s
  | _, _, _, _, .cons h r, s => .cons h (appK_rep r s)
/-- as the layer puts a pair -/
def putKE (kvs : List (Key × D)) (k : Key) (d : D) : List (Key × D) := if (kvs.any fun kv => decide (kv.1 = k)) = true then kvs.map (fun kv => if kv.1 = k then (kv.1, d) else kv) else kvs ++ [(k, d)]
theorem putK_rep {Hv : Hp} {k : Key} {v : V} {d : D} (q : Rep K Hv v d) {ks : List (Key × V)} {gs : List (Key × D)} (r : RepK K Hv ks gs) : RepK K Hv (putK ks k v) (putKE gs k d) := by
  unfold putK putKE
  rw [any_rep r]
  split
  · exact map_rep q r
  · exact appK_rep r (.cons q .nil)
theorem putKE_len (gs : List (Key × D)) (k : Key) (d : D) : (putKE gs k d).length ≤ gs.length + 1 := by
  unfold putKE
  split
  · rw [List.length_map]; omega
  · rw [List.length_append]; exact Nat.le_refl _
def wDPut (wd wy wv : WE) : WS := fun e Γ s => wv Γ s fun d s1 => wd Γ s1 fun o s2 => wy Γ s2 fun y s3 => escP s3 d fun d' s4 => mutP s4 o fun h m => moD m fun kvs => match keyD y with
  | some ky => kvs.length < sizeLine ∧ e.nx Γ (s4.put h (.dct (putKE kvs ky d')))
  | none => False
instance {td ty tv : TE} {wd wy wv : WE} [ld : LE K td wd] [ly : LE K ty wy] [lv : LE K tv wv] : LS K (sDPut td ty tv) (wDPut wd wy wv) := ⟨fun {F s H σ Γ e D0} a h k => lv.go a h fun v1 H1 d1 s1 t1 ok1 r1 h1 => ld.go (a.to t1 ok1) h1 fun v2 H2 d2 s2 t2 ok2 r2 h2 => ly.go (a.to (t1.trans t2) ok2) h2 fun v3 H3 d3 s3 t3 ok3 r3 h3 => by
  obtain ⟨d', s4, h4, ok4, t4, r4⟩ := esc ok3 (r1.mono (t2.trans t3).ex) h3
  obtain ⟨n, x, q1, q2, rfl, h5, rfl⟩ := mutP_of (r2.mono (t3.trans t4).ex) h4
  cases hm : x.o with
  | dct kvs =>
    rw [hm] at h5
    unfold moD at h5
    simp only at h5
    cases hk : keyD d3 with
    | none => rw [hk] at h5; exact h5.elim
    | some ky =>
      rw [hk] at h5
      obtain ⟨c1, h6⟩ := h5
      have h0 := ok4.ents x (mget_mem q1).1
      rw [hm] at h0
      obtain ⟨us, u1, u2, u3⟩ := h0
      have hy := keyD_v (r3.w vis_ex) hk
      obtain ⟨ok5, t5⟩ := ok4.put (o := .dK (putK us ky v1)) (m := .dct (putKE kvs ky d')) q1 q2 (fun Hv ex => ⟨_, upd_same, putK_rep (r4.mono ex) (u2.mono ex), by have := putKE_len kvs ky d'; omega⟩)
      have tt := (((t1.trans t2).trans t3).trans t4).trans t5
      refine ⟨x.a, _, rfl, ?_, k.nx _ _ _ _ tt (a.to tt ok5) h6⟩
      rw [hy]
      exact DPut.k u1 (by rw [u2.len]; exact c1)
  | nk _ _ _ => rw [hm] at h5; exact h5.elim
  | lst _ => rw [hm] at h5; exact h5.elim
  | obj _ _ => rw [hm] at h5; exact h5.elim⟩
/-! ### whole defs -/
def deOf (Q : D → Nat → Prop) : DE := ⟨fun _ s => Q .non s.n, fun d s => Q d s.n, fun _ _ => False, fun _ _ => False⟩
def startG (N : List Str) (args : List D) : Ga := args.map some ++ List.replicate (N.length - args.length) none
theorem look_app : ∀ {a b : Ga} {i : Nat}, look (a ++ b) i = if i < a.length then look a i else look b (i - a.length)
  | [], b, i => by simp
  | x :: r, b, 0 => by simp [look]
  | x :: r, b, i + 1 => by
    show look (r ++ b) i = _
    rw [look_app]
    by_cases h : i < r.length
    · rw [if_pos h, if_pos (by simp; omega)]; rfl
    · rw [if_neg h, if_neg (by simp; omega)]
      congr 1
      simp
theorem look_rep : ∀ {n i : Nat}, look (List.replicate n none) i = none
  | 0, _ => rfl
  | n + 1, 0 => rfl
  | n + 1, i + 1 => look_rep (n := n)
theorem look_map : ∀ {ds : List D} {i : Nat}, look (ds.map some) i = ds[i]?
  | [], i => by cases i <;> rfl
  | _ :: _, 0 => rfl
  | d :: r, i + 1 => look_map (ds := r)
theorem start_rep {Hv : Hp} {N : List Str} {vs : List V} {args : List D} (r : RepL K Hv vs args) : RepG K Hv (L2.start N vs) (startG N args) := by
  refine ⟨by unfold L2.start startG; simp [r.len], fun i d h => ?_⟩
  unfold startG at h
  rw [look_app] at h
  by_cases hi : i < (args.map some).length
  · rw [if_pos hi, look_map] at h
    obtain ⟨v, h1, h2⟩ := r.get h
    refine ⟨v, ?_, h2⟩
    unfold L2.start
    have : i < vs.length := (List.getElem?_eq_some_iff.mp h1).1
    rw [List.getElem?_append_left (by simpa using this), List.getElem?_map, h1]
    rfl
  · rw [if_neg hi, look_rep] at h
    cases h
def S.done (s : S) : S := { s with M := [] }
theorem OkS.done {K : PySem.W.Frag} {F : Fr} {s : S} {H : Hp} (ok : OkS K F s H) : OkS K F s.done H ∧ Tr F s H s.done H :=
  ok.less (fun e he => nomatch he) List.nodup_nil rfl (Nat.le_refl _)
theorem done_eq (s : S) {n : Nat} {pn : Option (Addr × Addr)} (h : s.pn = pn) : s.done = st0 s.n pn := by
  subst h; rfl
theorem up_len {dsp : DSp} {m : Nat} (hl : ∀ pn args n Q X, dsp pn args n Q X → args.length = m) {vs : List V} {Q : VK} {E : XK} (h : upSp K dsp vs H Q E) : vs.length = m := by
  obtain ⟨F, args, pn, n, Qd, Xd, r, _, h, _⟩ := h
  rw [r.len]
  exact hl _ _ _ _ _ h
/-- a body without raises -/
theorem go_up {dsp : DSp} {N : List Str} {t : TS} {w : WS} {vs : List V} {Q : VK} {E : XK} (h : upSp K dsp vs H Q E) [l : LS K t w] (hw : ∀ pn args n Qd Xd, dsp pn args n Qd Xd → w (deOf Qd) (startG N args) (st0 n pn)) : t { nx := fun _ H' => Q .non H', rt := Q } (L2.start N vs) H := by
  obtain ⟨F, args, pn, n, Qd, Xd, r, ok, h, k, _⟩ := h
  have fin : ∀ v H' d s', Tr F (st0 n pn) H s' H' → OkS K F s' H' → Rep K (vis F s' H') v d → Qd d s'.n → Q v H' := fun v H' d s' t ok' r' q => by
    obtain ⟨o1, o2⟩ := ok'.done
    have e : s'.done = st0 s'.n pn := done_eq s' (n := n) t.pn
    rw [e] at o1 o2
    exact k v H' d s'.n (t.trans o2) o1 (r'.mono o2.ex) q
  exact l.go (σ := L2.start N vs) ⟨start_rep r, ok⟩ (hw pn args n Qd Xd h) ⟨fun σ' H' Γ' s' t a' q => fin _ H' .non s' t a'.ok .non q, fun v H' d s' t ok' r' q => fin v H' d s' t ok' r' q, fun _ _ _ _ _ _ q => q.elim, fun _ _ _ _ _ _ q => q.elim⟩
def startI (N : List Str) (x : Addr) (args : List D) : Ga := startG N (.loc x 0 :: args)
def deIn (x C : Addr) (Q : List (Str × D) → Nat → Prop) : DE := ⟨fun _ s => mutP s (.loc x 0) fun _ m => moO m fun C' fs => C' = C ∧ Q fs s.n, fun d s => match d with
  | .non => mutP s (.loc x 0) fun _ m => moO m fun C' fs => C' = C ∧ Q fs s.n
  | _ => False, fun _ _ => False, fun _ _ => False⟩
/-- the body of an __init__ -/
theorem go_in {C : Addr} {dsp : DIn} {N : List Str} {t : TS} {w : WS} {vs : List V} {Q : VK} {E : XK} (h : upIn K C dsp vs H Q E) [l : LS K t w] (hw : ∀ x pn args n Qd Xd, dsp pn args n Qd Xd → w (deIn x C Qd) (startI N x args) (st1 x C [] n pn)) : t { nx := fun _ H' => Q .non H', rt := Q } (L2.start N vs) H := by
  obtain ⟨F, x, rest, args, pn, n, Qd, Xd, rfl, r, ok, h, k, _⟩ := h
  have fin : ∀ H' s', Tr F (st1 x C [] n pn) H s' H' → OkS K F s' H' → (mutP s' (.loc x 0) fun _ m => moO m fun C' fs => C' = C ∧ Qd fs s'.n) → Q .non H' := fun H' s' t ok' q => by
    obtain ⟨m, e, q1, q2, q3, q4, q5⟩ := mutP_of (K := K) (F := F) (H := H') (v := .ref x) .loc q
    injection q5 with ea en
    subst en
    obtain ⟨hm1, hm2⟩ := mget_mem q1
    obtain ⟨eh, ea2, eo, ef⟩ := e
    simp only at ea hm2 q2 q4
    subst ea hm2 q2
    cases eo with
    | obj C' fs =>
      obtain ⟨rfl, q4⟩ := q4
      have hless := ok'.less (s' := st1 x C' fs s'.n pn) (fun e he => ⟨e, by rw [List.mem_singleton.mp he]; exact hm1, rfl, rfl, id⟩) (by simp) t.pn.symm (Nat.le_refl _)
      exact k H' fs s'.n (t.trans hless.2) hless.1 q4
    | nk _ _ _ => exact q4.elim
    | lst _ => exact q4.elim
    | dct _ => exact q4.elim
  exact l.go (σ := L2.start N (.ref x :: rest)) ⟨start_rep (.cons .loc r), ok⟩ (hw x pn args n Qd Xd h) ⟨fun σ' H' Γ' s' t a' q => fin H' s' t a'.ok q, fun v H' d s' t ok' r' q => by
    cases d with
    | non => cases r'; exact fin H' s' t ok' q
    | _ => exact q.elim, fun _ _ _ _ _ _ q => q.elim, fun _ _ _ _ _ _ q => q.elim⟩
theorem in_len {C : Addr} {dsp : DIn} {m : Nat} (hl : ∀ pn args n Q X, dsp pn args n Q X → args.length = m) {vs : List V} {Q : VK} {E : XK} (h : upIn K C dsp vs H Q E) : vs.length = m + 1 := by
  obtain ⟨F, x, rest, args, pn, n, Qd, Xd, rfl, r, _, h, _⟩ := h
  rw [List.length_cons, r.len, hl _ _ _ _ _ h]
end
end Da
namespace Da
open PySem PySem.Spec PyProof.Rows L2 Evl Hd
/-! ### promises by the number of arguments -/
abbrev R0 := Option (Addr × Addr) → Nat → (D → Nat → Prop) → XD → Prop
abbrev R1 := Option (Addr × Addr) → D → Nat → (D → Nat → Prop) → XD → Prop
abbrev R2' := Option (Addr × Addr) → D → D → Nat → (D → Nat → Prop) → XD → Prop
abbrev R3 := Option (Addr × Addr) → D → D → D → Nat → (D → Nat → Prop) → XD → Prop
abbrev R4 := Option (Addr × Addr) → D → D → D → D → Nat → (D → Nat → Prop) → XD → Prop
def sp0 (f : R0) : DSp := fun pn args n Q X => match args with
  | [] => f pn n Q X
  | _ => False
def sp1 (f : R1) : DSp := fun pn args n Q X => match args with
  | [a] => f pn a n Q X
  | _ => False
def sp2 (f : R2') : DSp := fun pn args n Q X => match args with
  | [a, b] => f pn a b n Q X
  | _ => False
def sp3 (f : R3) : DSp := fun pn args n Q X => match args with
  | [a, b, c] => f pn a b c n Q X
  | _ => False
def sp4 (f : R4) : DSp := fun pn args n Q X => match args with
  | [a, b, c, d] => f pn a b c d n Q X
  | _ => False
section
variable {K : PySem.W.Frag} {H : Hp} {vs : List V} {Q : VK} {E : XK}
theorem sp0_of {f : R0} {pn args n Q X} (h : sp0 f pn args n Q X) : args = [] ∧ f pn n Q X := by
  unfold sp0 at h; split at h
  · exact ⟨rfl, h⟩
  · exact h.elim
theorem sp1_of {f : R1} {pn args n Q X} (h : sp1 f pn args n Q X) : ∃ a, args = [a] ∧ f pn a n Q X := by
  unfold sp1 at h; split at h
  · exact ⟨_, rfl, h⟩
  · exact h.elim
theorem sp2_of {f : R2'} {pn args n Q X} (h : sp2 f pn args n Q X) : ∃ a b, args = [a, b] ∧ f pn a b n Q X := by
  unfold sp2 at h; split at h
  · exact ⟨_, _, rfl, h⟩
  · exact h.elim
theorem sp3_of {f : R3} {pn args n Q X} (h : sp3 f pn args n Q X) : ∃ a b c, args = [a, b, c] ∧ f pn a b c n Q X := by
  unfold sp3 at h; split at h
  · exact ⟨_, _, _, rfl, h⟩
  · exact h.elim
theorem sp4_of {f : R4} {pn args n Q X} (h : sp4 f pn args n Q X) : ∃ a b c d, args = [a, b, c, d] ∧ f pn a b c d n Q X := by
  unfold sp4 at h; split at h
  · exact ⟨_, _, _, _, rfl, h⟩
  · exact h.elim
theorem up_len0 {f : R0} (h : upSp K (sp0 f) vs H Q E) : vs.length = 0 := up_len (fun _ _ _ _ _ h => by rw [(sp0_of h).1]; rfl) h
theorem up_len1 {f : R1} (h : upSp K (sp1 f) vs H Q E) : vs.length = 1 := up_len (fun _ _ _ _ _ h => by obtain ⟨_, e, _⟩ := sp1_of h; rw [e]; rfl) h
theorem up_len2 {f : R2'} (h : upSp K (sp2 f) vs H Q E) : vs.length = 2 := up_len (fun _ _ _ _ _ h => by obtain ⟨_, _, e, _⟩ := sp2_of h; rw [e]; rfl) h
theorem up_len3 {f : R3} (h : upSp K (sp3 f) vs H Q E) : vs.length = 3 := up_len (fun _ _ _ _ _ h => by obtain ⟨_, _, _, e, _⟩ := sp3_of h; rw [e]; rfl) h
theorem up_len4 {f : R4} (h : upSp K (sp4 f) vs H Q E) : vs.length = 4 := up_len (fun _ _ _ _ _ h => by obtain ⟨_, _, _, _, e, _⟩ := sp4_of h; rw [e]; rfl) h
variable {N : List Str} {t : TS} {w : WS}
theorem go_up0 {f : R0} (h : upSp K (sp0 f) vs H Q E) [l : LS K t w] (hw : ∀ pn n Qd Xd, f pn n Qd Xd → w (deOf Qd) (startG N []) (st0 n pn)) : t { nx := fun _ H' => Q .non H', rt := Q } (L2.start N vs) H :=
  go_up h fun pn args n Qd Xd q => by obtain ⟨rfl, q⟩ := sp0_of q; exact hw pn n Qd Xd q
theorem go_up1 {f : R1} (h : upSp K (sp1 f) vs H Q E) [l : LS K t w] (hw : ∀ pn a n Qd Xd, f pn a n Qd Xd → w (deOf Qd) (startG N [a]) (st0 n pn)) : t { nx := fun _ H' => Q .non H', rt := Q } (L2.start N vs) H :=
  go_up h fun pn args n Qd Xd q => by obtain ⟨a, rfl, q⟩ := sp1_of q; exact hw pn a n Qd Xd q
theorem go_up2 {f : R2'} (h : upSp K (sp2 f) vs H Q E) [l : LS K t w] (hw : ∀ pn a b n Qd Xd, f pn a b n Qd Xd → w (deOf Qd) (startG N [a, b]) (st0 n pn)) : t { nx := fun _ H' => Q .non H', rt := Q } (L2.start N vs) H :=
  go_up h fun pn args n Qd Xd q => by obtain ⟨a, b, rfl, q⟩ := sp2_of q; exact hw pn a b n Qd Xd q
theorem go_up3 {f : R3} (h : upSp K (sp3 f) vs H Q E) [l : LS K t w] (hw : ∀ pn a b c n Qd Xd, f pn a b c n Qd Xd → w (deOf Qd) (startG N [a, b, c]) (st0 n pn)) : t { nx := fun _ H' => Q .non H', rt := Q } (L2.start N vs) H :=
  go_up h fun pn args n Qd Xd q => by obtain ⟨a, b, c, rfl, q⟩ := sp3_of q; exact hw pn a b c n Qd Xd q
theorem go_up4 {f : R4} (h : upSp K (sp4 f) vs H Q E) [l : LS K t w] (hw : ∀ pn a b c d n Qd Xd, f pn a b c d n Qd Xd → w (deOf Qd) (startG N [a, b, c, d]) (st0 n pn)) : t { nx := fun _ H' => Q .non H', rt := Q } (L2.start N vs) H :=
  go_up h fun pn args n Qd Xd q => by obtain ⟨a, b, c, d, rfl, q⟩ := sp4_of q; exact hw pn a b c d n Qd Xd q
end
end Da
namespace Da
open PySem PySem.Spec PyProof.Rows L2 Evl Hd
/-! ### draws -/
/-- a number below m: one draw more -/
@[irreducible] def dDraw : R2' := fun pn a b n Q _ => ∃ p q, pn = some (p, q) ∧ a = .val (.ref p) ∧ ∃ m, b = .int m ∧ (n < 549755813888 ∧ 0 < m ∧ m < 1606938044258990275541962092341162602522202993782792835301376) ∧ ∀ r, 0 ≤ r → r < m → Q (.int r) (n + 1)
theorem i_draw {p q : Addr} {m : Int} {n : Nat} {Q : D → Nat → Prop} {X : XD} (h : n < 549755813888 ∧ 0 < m ∧ m < 1606938044258990275541962092341162602522202993782792835301376) (k : ∀ r, 0 ≤ r → r < m → Q (.int r) (n + 1)) : dDraw (some (p, q)) (.val (.ref p)) (.int m) n Q X := by
  delta dDraw
  exact ⟨p, q, rfl, rfl, m, rfl, h, k⟩
theorem draw_up {K : PySem.W.Frag} {vs : List V} {H : Hp} {Q : VK} {E : XK} (h : upSp K (sp2 dDraw) vs H Q E) : ∃ (p q : Addr) (m s : Int), vs = [.ref p, .int m] ∧ Pen H p q s ∧ s < 1099511627776 ∧ 0 < m ∧ m < 1606938044258990275541962092341162602522202993782792835301376 ∧ ∀ r H', 0 ≤ r → r < m → Pen H' p q (s + 1) → But2 p q H H' → Q (.int r) H' := by
  obtain ⟨F, args, pn, n, Qd, Xd, r, ok, h, k, _⟩ := h
  obtain ⟨a, b, rfl, hd⟩ := sp2_of h
  delta dDraw at hd
  obtain ⟨p, q, rfl, rfl, m, rfl, ⟨n1, m0, m1⟩, h⟩ := hd
  obtain ⟨⟨z, hz, hzn⟩, _⟩ := ok.pen p q rfl
  cases r with
  | cons r1 r2 =>
    cases r2 with
    | cons r2 r3 =>
      cases r3
      cases r1
      cases r2
      have hzn : z ≤ (n : Int) := hzn
      refine ⟨p, q, m, z, rfl, hz, by omega, m0, m1, fun r H' r0 r1 pen' but => ?_⟩
      obtain ⟨f1, f2⟩ := ok.frP p q rfl
      have nf : ∀ a, F a = true → a ≠ p ∧ a ≠ q := fun a ha => ⟨fun e => (by rw [e, f1] at ha; cases ha), fun e => (by rw [e, f2] at ha; cases ha)⟩
      have fr : ∀ a, F a = true → H' a = H a := fun a ha => but a (nf a ha).1 (nf a ha).2
      refine k (.int r) H' (.int r) (n + 1) ⟨fun a o e => ?_, fr, rfl⟩ ⟨fun e he => (nomatch he), List.nodup_nil, fun p' q' e => ?_, fun a ha => by rw [fr a ha]; exact ok.fr a ha, fun e he => (nomatch he), ok.frP⟩ .int (h r r0 r1)
      · obtain ⟨h1, h2⟩ := vis_iff.mp e
        have h3 := h1
        unfold S.hid S.hidP at h3
        simp only [Bool.or_eq_false_iff, beq_eq_false_iff_ne] at h3
        exact vis_iff.mpr ⟨h1, by rw [but a h3.2.1 h3.2.2]; exact h2⟩
      · cases e
        exact ⟨⟨z + 1, pen', by show z + 1 ≤ ((n + 1 : Nat) : Int); omega⟩, fun e he => (nomatch he)⟩
end Da

/-! The layer's rules with the written part as a letter of its own, so that a reading says nothing of the context (own). -/
namespace Da
open PySem PySem.Spec PyProof.Rows L2 Evl Hd RZ
section
variable {X : Cx} {K : PySem.W.Frag} (hK : X.K = K)
include hK
theorem gK {e : Expr} {v : V} {d : D} (h : ∀ H, Rep K H v d) (p : PE X e (tC v)) : PE X e (tCg v d h) := p
theorem addK : OpR X (binaryOp .Add) (rAddA K) := by subst hK; exact op_addA
theorem mulK : OpR X (binaryOp .Mult) (rMulA K) := by subst hK; exact op_mulA
theorem eqK (hu : X.A.units + 64 < cLine) : OpR X (compareOp .Eq) (rEqA K) := by subst hK; exact op_eqA hu
theorem neK (hu : X.A.units + 64 < cLine) : OpR X (compareOp .NotEq) (rNeA K) := by subst hK; exact op_neA hu
theorem inK (hu : X.A.units + 65 < cLine) : OpR X (compareOp .In) (rInA K false) := by subst hK; exact op_inA hu
theorem ninK (hu : X.A.units + 65 < cLine) : OpR X (compareOp .NotIn) (rInA K true) := by subst hK; exact op_ninA hu
theorem ixK : IxR X (rIx K) := by subst hK; exact ix_seq
theorem slK : SlR X (rSlX K) := by subst hK; exact sl_any
theorem lenK : CallR X (.builtin "len") (rLen0 K) := by subst hK; exact call_len
theorem listK : CallR X (.type "list") (rListO K) := by subst hK; exact call_list_of
theorem tupleK : CallR X (.type "tuple") (Nr.rTup K) := by subst hK; exact Nr.call_tupR
theorem sumK (hc : X.calm = true) : CallR X (.builtin "sum") (rSum K) := by subst hK; exact cr_sum hc
theorem allK (hc : X.calm = true) : CallR X (.builtin "all") (rAll K) := by subst hK; exact cr_all hc
theorem anyK (hc : X.calm = true) : CallR X (.builtin "any") (rAny K) := by subst hK; exact cr_any hc
theorem maxK (hc : X.calm = true) : CallR X (.builtin "max") (L2.rMax K) := by subst hK; exact cr_max hc
theorem minK (hc : X.calm = true) : CallR X (.builtin "min") (L2.rMin K) := by subst hK; exact cr_min hc
theorem isiK : CallR X (.builtin "isinstance") (rIsi K) := by subst hK; exact call_isi
theorem fldK {e : Expr} {f : Str} {ta : TE} {pos : Pos} (he : PE X e ta) (hb : attributeBase e f X.env (eval e X.env) = eval e X.env) : PE X (.Attribute e f pos) (tFld K ta f) := by subst hK; exact pe_fld he hb
theorem bm0K {T name : _} {id : String} {r : V → List V → Hp → VK → Prop} {o : Expr} {to : TE} {apos cpos : Pos} (pa : PlainAttrs T) (slot : Slot T name id) (hty : typeOf (.builtin id) = pure (.type "method_descriptor")) (hm : MtR X id r) (ho : PE X o to)
    (hbase : attributeBase o name X.env (eval o X.env) = eval o X.env := by rfl) (hline : (apos.endLine == cpos.line) = true := by rfl) : PE X (.Call (.Attribute o name apos) [] [] cpos) (tBM0 K T r to) := by subst hK; exact pe_bm0 pa slot hty hm ho hbase hline
theorem bmK {T name : _} {id : String} {r : V → List V → Hp → VK → Prop} {o e : Expr} {es : List Expr} {to : TE} {t : TA} {apos cpos : Pos} (pa : PlainAttrs T) (slot : Slot T name id) (hty : typeOf (.builtin id) = pure (.type "method_descriptor")) (hm : MtR X id r) (ho : PE X o to) (ha : PA X (e :: es) t)
    (hbase : attributeBase o name X.env (eval o X.env) = eval o X.env := by rfl)
    (hfew : ((backTo cpos (starEach (e :: es) X.env)).all (fun x => !x.1) && (backToKw cpos (keywordEach [] X.env)).all (fun x => x.1.isSome)
      && decide ((e :: es).length + ([] : List Keyword).length + (if ([] : List Keyword).isEmpty then 0 else 1) < 30)) = true := by rfl)
    (hline : (apos.endLine == cpos.line) = true := by rfl) (hs : starEach (e :: es) X.env = (false, eval e X.env) :: starEach es X.env := by rfl) (hplain : (backTo cpos (starEach es X.env)).any (·.1) = false := by rfl) :
    PE X (.Call (.Attribute o name apos) (e :: es) [] cpos) (tBM K T r to t) := by subst hK; exact pe_bm pa slot hty hm ho ha hbase hfew hline hs hplain
theorem gtupK {es : List Expr} {k : Nat} {t : TGs} {n : Nat} {pos : Pos} (hc : X.calm = true) (h : PGs X es t)
    (hn : (assignEach es X.env).length = n := by rfl) (hst : (assignEach es X.env).findIdx? (·.1) = none := by rfl) : PG X (.Tuple es k pos) (gTup K n t) := by subst hK; exact pg_tup hc h hn hst
theorem seqK {tg l : Expr} {tl : TE} (hl : PE X l tl) : PI X tg l (Nr.iSeq K tl) := by subst hK; exact Nr.pi_seq hl
theorem enumK {e : Expr} {ta : TA} {p pos tpos : Pos} {elts : List Expr} {kk : Nat} (hg : Gl X "enumerate") (hm : X.mg "enumerate" = none) (ha : PA X [e] ta) (hs : starEach [e] X.env = [(false, eval e X.env)] := by rfl) :
    PI X (.Tuple elts kk tpos) (.Call (.Name "enumerate" p) [e] [] pos) (iEnum K ta) := by subst hK; exact pi_enum hg hm ha hs
theorem enumTK {e : Expr} {ta : TA} {p pos tpos : Pos} {elts : List Expr} {kk : Nat} (hg : Gl X "enumerate") (hm : X.mg "enumerate" = none) (ha : PA X [e] ta) (hs : starEach [e] X.env = [(false, eval e X.env)] := by rfl) :
    PI X (.Tuple elts kk tpos) (.Call (.Name "enumerate" p) [e] [] pos) (En.iEnumT K ta) := by subst hK; exact En.pi_enumT hg hm ha hs
theorem zipK {e e2 : Expr} {ta : TA} {p pos tpos : Pos} {elts : List Expr} {kk : Nat} (hg : Gl X "zip") (hm : X.mg "zip" = none) (ha : PA X [e, e2] ta)
    (hs : starEach [e, e2] X.env = (false, eval e X.env) :: starEach [e2] X.env := by rfl) (hpl : (backTo pos (starEach [e2] X.env)).any (·.1) = false := by rfl) :
    PI X (.Tuple elts kk tpos) (.Call (.Name "zip" p) [e, e2] [] pos) (iZipA K ta) := by subst hK; exact pi_zipA hg hm ha hs hpl
theorem setfK {o value : Expr} {ta tv : TE} {f : Str} {pos pos' : Pos} (ha : PE X o ta) (hv : PE X value tv) (hs : swapsWith value (some (.Attribute o f pos')) pos.line X.env = pure false) : PS X (.Assign [.Attribute o f pos'] value pos) (sFld K ta tv f) := by subst hK; exact ps_fld ha hv hs
theorem starK {e : Expr} {es : List Expr} {te : TE} {t : TA} {p : Pos} (he : PE X e te) (hr : PA X es t) (hs : starEach (.Starred e p :: es) X.env = (true, eval e X.env) :: starEach es X.env := by rfl) : PA X (.Starred e p :: es) (Nr.tStar K te t) := by subst hK; exact Nr.pa_star he hr hs
theorem orTK {a b : Expr} {rest : List Expr} {ta tb : TE} {pos : Pos} (ha : PE X a ta) (hb : PE X (.BoolOp .Or (b :: rest) pos) tb) : PE X (.BoolOp .Or (a :: b :: rest) pos) (tOrT K ta tb) := by subst hK; exact pe_orT ha hb
end
/-! ### zip -/
section
variable {K : PySem.W.Frag} {F : Fr} {s : S} {H : Hp}
theorem walk_zipT {a b : Addr} {xs ys : List V} {n : Nat} (hn : n = min xs.length ys.length) : Walk (ItzT K a b) n (fun H => SqT K H a xs ∧ SqT K H b ys) (YPair (fun i => xs[i]?) (fun i => ys[i]?)) := by
  subst hn
  refine ⟨fun i _ hi q => ?_, fun _ q => ⟨xs, ys, q.1, q.2, by omega⟩, fun i H v H' _ q y => ?_⟩
  · have h1 : i < xs.length := by omega
    have h2 : i < ys.length := by omega
    exact ⟨xs, ys, xs[i], ys[i], q.1, q.2, by simp [h1], by simp [h2]⟩
  · obtain ⟨T, x, y', h1, h2, h3, h4, h5⟩ := y
    exact ⟨T, x, y', h1, h2, h3, h4 xs q.1, h5 ys q.2⟩
def zipSrc (d e : D) (k : Src → Prop) : Prop := match d, e with
  | .lst ds, .lst es => k (.zip ds es)
  | .tup ds, .tup es => k (.zip ds es)
  | _, _ => False
def wiZip (w : WA) : WI := fun Γ s Q => w Γ s fun ds s1 => escA s1 ds fun ds' s2 => match ds' with
  | [d, e] => zipSrc d e fun src => Q src s2
  | _ => False
instance {ta : TA} {w : WA} [l : LA K ta w] : LI K (iZipA K ta) (wiZip w) := ⟨fun {F s H σ Γ Q R} a h k => l.go a h fun vs H1 ds s1 t1 ok1 r1 h1 => by
  obtain ⟨ds', s2, h2, ok2, t2, r2⟩ := escs ok1 r1 h1
  split at h2
  · rename_i d e
    cases r2 with
    | cons q1 q2 =>
      cases q2 with
      | cons q2 q3 =>
        cases q3
        unfold zipSrc at h2
        split at h2
        · rename_i es fs
          cases q1 with
          | @lst b xs _ g1 g2 g3 =>
            cases q2 with
            | @lst c ys _ g4 g5 g6 =>
              refine ⟨b, c, xs, ys, rfl, .inl ⟨SqL.of (vis_ex _ _ g1), SqL.of (vis_ex _ _ g4), k _ _ _ _ (t1.trans t2) ok2 ⟨⟨_, _, walk_zip (n := (Src.zip es fs).n) (xs := xs) (ys := ys) (by rw [g2.len, g5.len]; rfl), fun F2 s2 H2 e _ => ⟨SqL.of (vis_ex _ _ (e _ _ g1)), SqL.of (vis_ex _ _ (e _ _ g4))⟩, fun F2 i s2 H2 x H3 hi e ok y => ?_⟩⟩ h2⟩⟩
              obtain ⟨T, u, v, rfl, hT, h3, e1, e2⟩ := y
              obtain ⟨dd, h4, h5⟩ := g2.get' e1
              obtain ⟨ee, h6, h7⟩ := g5.get' e2
              obtain ⟨q1, q2, q3, q4⟩ := new_pair ok hT h3 (h5.mono e) (h7.mono e)
              exact ⟨_, by show (match es[i]?, fs[i]? with | some d, some e => some (D.tup [d, e]) | _, _ => none) = _; rw [h4, h6], q1, q2, q3, q4⟩
        · rename_i es fs
          cases q1 with
          | @tup b xs _ g1 g2 g3 =>
            cases q2 with
            | @tup c ys _ g4 g5 g6 =>
              refine ⟨b, c, xs, ys, rfl, .inr ⟨ex_t vis_ex g1, ex_t vis_ex g4, k _ _ _ _ (t1.trans t2) ok2 ⟨⟨_, _, walk_zipT (n := (Src.zip es fs).n) (xs := xs) (ys := ys) (by rw [g2.len, g5.len]; rfl), fun F2 s2 H2 e _ => ⟨ex_t vis_ex (ex_t e g1), ex_t vis_ex (ex_t e g4)⟩, fun F2 i s2 H2 x H3 hi e ok y => ?_⟩⟩ h2⟩⟩
              obtain ⟨T, u, v, rfl, hT, h3, e1, e2⟩ := y
              obtain ⟨dd, h4, h5⟩ := g2.get' e1
              obtain ⟨ee, h6, h7⟩ := g5.get' e2
              obtain ⟨q1, q2, q3, q4⟩ := new_pair ok hT h3 (h5.mono e) (h7.mono e)
              exact ⟨_, by show (match es[i]?, fs[i]? with | some d, some e => some (D.tup [d, e]) | _, _ => none) = _; rw [h4, h6], q1, q2, q3, q4⟩
        · exact h2.elim
  · exact h2.elim⟩
end
end Da

/-! Readings over data: texts' methods, dicts (own). -/
namespace Da
open PySem PySem.Spec PyProof.Rows L2 Evl Hd RZ
section
variable {K : PySem.W.Frag} {F : Fr} {s : S} {H : Hp} {x y : V} {dx dy : D} {Q : QD} {Q0 : VK}
/-! ### methods of texts -/
class LM (K : PySem.W.Frag) (r : V → List V → Hp → VK → Prop) (f : outParam F2) : Prop where
  go : ∀ {F : Fr} {s : S} {H : Hp} {x y : V} {dx dy : D} {Q : QD} {Q0 : VK}, OkS K F s H → RepW K (vis F s H) H x dx → RepW K (vis F s H) H y dy → f dx dy s Q → KE K F s H Q Q0 → r x [y] H Q0
def asS (d : D) (k : Prop) : Prop := match d with
  | .str _ => k
  | _ => False
def wM1 (f : F2) (wo we : WE) : WE := fun Γ s Q => wo Γ s fun o s1 => asS o (we Γ s1 fun y s2 => seeP s2 o fun o' => seeP s2 y fun y' => f o' y' s2 Q)
instance {r : V → List V → Hp → VK → Prop} {f : F2} {to te : TE} {wo we : WE} [lr : LM K r f] [lo : LE K to wo] [le : LE K te we] : LE K (tM1 r to te) (wM1 f wo we) := ⟨fun {F s H σ Γ Q Q0} a h k =>
  lo.go a h fun v1 H1 d1 s1 t1 ok1 r1 h1 => by
    cases d1 with
    | str z =>
      have hz : v1 = .str z := by cases r1; rfl
      refine ⟨⟨z, hz⟩, le.go (a.to t1 ok1) h1 fun v2 H2 d2 s2 t2 ok2 r2 h2 => ?_⟩
      obtain ⟨x', h3, q1⟩ := see ok2 (r1.mono t2.ex) h2
      obtain ⟨y', h4, q2⟩ := see ok2 r2 h3
      exact lr.go ok2 q1 q2 h4 fun v H3 d s3 t3 ok3 r3 h5 => k v H3 d s3 ((t1.trans t2).trans t3) ok3 r3 h5
    | _ => exact h1.elim⟩
def rJoin (K : PySem.W.Frag) : V → List V → Hp → VK → Prop := fun x xs H Q => ∃ a p, ∃ ys : List Str, x = .str a ∧ xs = [.ref p] ∧ (SqL K H p (ys.map V.str) ∨ SqT K H p (ys.map V.str)) ∧ (ys.map (·.length)).sum + ys.length * a.length ≤ 16777216 ∧ Q (.str (Txt.join a ys)) H
def fJoin : F2 := fun x y s Q => match x, y with
  | .str a, .lst ds => ∃ ys : List Str, ds = ys.map D.str ∧ (ys.map (·.length)).sum + ys.length * a.length ≤ 16777216 ∧ Q (.str (Txt.join a ys)) s
  | .str a, .tup ds => ∃ ys : List Str, ds = ys.map D.str ∧ (ys.map (·.length)).sum + ys.length * a.length ≤ 16777216 ∧ Q (.str (Txt.join a ys)) s
  | _, _ => False
instance : LM K (rJoin K) fJoin := ⟨fun {F s H x y dx dy Q Q0} ok rx ry h k => by
  unfold fJoin at h
  split at h
  · obtain ⟨ys, rfl, h1, h2⟩ := h
    cases rx
    obtain ⟨a, xs, rfl, g1, g2, g3⟩ := ry
    have e := g2.of_strs
    subst e
    exact ⟨_, a, ys, rfl, rfl, .inl (SqL.of g1), h1, k _ _ _ _ Tr.refl ok .str h2⟩
  · obtain ⟨ys, rfl, h1, h2⟩ := h
    cases rx
    obtain ⟨a, xs, rfl, g1, g2, g3⟩ := ry.tup vis_ex
    have e := g2.of_strs
    subst e
    exact ⟨_, a, ys, rfl, rfl, .inr g1, h1, k _ _ _ _ Tr.refl ok .str h2⟩
  · exact h.elim⟩
theorem joinK {X : Cx} (hK : X.K = K) {o e : Expr} {to te : TE} {apos pos : Pos} (ho : PE X o to) (he : PE X e te)
    (hbase : attributeBase o "join" X.env (eval o X.env) = eval o X.env := by rfl) (hline : (apos.endLine == pos.line) = true := by rfl) (hs : starEach [e] X.env = [(false, eval e X.env)] := by rfl) :
    PE X (.Call (.Attribute o "join" apos) [e] [] pos) (tM1 (rJoin K) to te) := by subst hK; exact pe_join ho he hs hbase hline
/-! ### d.get(k, x) -/
def asD (d : D) (k : Prop) : Prop := match d with
  | .dct _ => k
  | _ => False
def getP (d y : D) (k : D → Prop) (n : Prop) : Prop := match d with
  | .dct kvs => match keyD y with
    | some ky => (∀ e, lookK kvs ky = some e → k e) ∧ (lookK kvs ky = none → n)
    | none => False
  | _ => False
def wDGet2 (wd wy wx : WE) : WE := fun Γ s Q => wd Γ s fun d s1 => seeP s1 d fun d1 => asD d1 (wy Γ s1 fun y s2 => wx Γ s2 fun z s3 => seeP s3 d fun d3 => seeP s3 y fun y' => getP d3 y' (fun e => Q e s3) (Q z s3))
instance {td ty tx : TE} {wd wy wx : WE} [ld : LE K td wd] [ly : LE K ty wy] [lx : LE K tx wx] : LE K (tDGet2 td ty tx) (wDGet2 wd wy wx) := ⟨fun {F s H σ Γ Q Q0} a h k =>
  ld.go a h fun v1 H1 d1 s1 t1 ok1 r1 h1 => by
    obtain ⟨x', h2, q1⟩ := see ok1 r1 h1
    cases x' with
    | dct kvs =>
      obtain ⟨b, ks, rfl, g1, g2, g3⟩ := q1
      refine ⟨b, rfl, .inl ⟨ks, .inl g1⟩, ly.go (a.to t1 ok1) h2 fun v2 H2 d2 s2 t2 ok2 r2 h3 => lx.go (a.to (t1.trans t2) ok2) h3 fun v3 H3 d3 s3 t3 ok3 r3 h4 => ?_⟩
      obtain ⟨x3, h5, q3⟩ := see ok3 (r1.mono (t2.trans t3).ex) h4
      obtain ⟨y3, h6, q4⟩ := see ok3 (r2.mono t3.ex) h5
      cases x3 with
      | dct kvs3 =>
        unfold getP at h6
        simp only at h6
        cases e : keyD y3 with
        | none => rw [e] at h6; exact h6.elim
        | some ky =>
          rw [e] at h6
          obtain ⟨b3, ks3, eb, f1, f2, f3⟩ := q3
          cases eb
          have ek := keyD_v q4 e
          subst ek
          refine ⟨_, DGet.k f1, ?_⟩
          cases el : lookK kvs3 ky with
          | none =>
            rw [f2.val_none el]
            exact k _ _ _ _ ((t1.trans t2).trans t3) ok3 r3 (h6.2 el)
          | some dd =>
            obtain ⟨v, e2, r⟩ := f2.val el
            rw [e2]
            exact k _ _ _ _ ((t1.trans t2).trans t3) ok3 r (h6.1 _ el)
      | _ => exact h6.elim
    | _ => exact h2.elim⟩
/-! ### written dicts -/
def rKIx (K : PySem.W.Frag) (w : World) (a : Addr) (tab : List (Str × D)) (h : ∀ x d, (x, d) ∈ tab → ∃ v, KDct K w a x v ∧ ∀ H, Rep K H v d) : R2 := rIxD K w
theorem ixT {X : Cx} {w : World} (hK : X.K = K) (hw : X.w = w) {a : Addr} {tab : List (Str × D)} (h : ∀ x d, (x, d) ∈ tab → ∃ v, KDct K w a x v ∧ ∀ H, Rep K H v d) : IxR X (rKIx K w a tab h) := by
  subst hK; subst hw; exact ix_kdict
theorem lookup_mem {tab : List (Str × D)} {z : Str} {d : D} (h : tab.lookup z = some d) : (z, d) ∈ tab := by
  induction tab with
  | nil => cases h
  | cons p r ih =>
    obtain ⟨x, e⟩ := p
    rw [List.lookup_cons] at h
    cases hb : z == x with
    | true =>
      rw [hb] at h
      cases h
      rw [eq_of_beq hb]
      exact List.mem_cons_self
    | false =>
      rw [hb] at h
      exact List.mem_cons_of_mem _ (ih h)
def fKIx (a : Addr) (tab : List (Str × D)) : F2 := fun x y s Q => match x, y with
  | .val (.ref b), .str z => b = a ∧ ∃ d, tab.lookup z = some d ∧ Q d s
  | _, _ => False
instance {w : World} {a : Addr} {tab : List (Str × D)} {hh : ∀ x d, (x, d) ∈ tab → ∃ v, KDct K w a x v ∧ ∀ H, Rep K H v d} : LR K (rKIx K w a tab hh) (fKIx a tab) := ⟨fun {F s H x y dx dy Q Q0} ok rx ry h k => by
  unfold fKIx at h
  split at h
  · cases rx
    cases ry
    obtain ⟨rfl, d, e, q⟩ := h
    obtain ⟨v, g1, g2⟩ := hh _ _ (lookup_mem e)
    exact ⟨_, _, v, rfl, rfl, g1, k _ _ _ _ Tr.refl ok (g2 _) q⟩
  · exact h.elim⟩
def rKIn (K : PySem.W.Frag) (w : World) (neg : Bool) (a : Addr) (tab : List (Str × D)) (ab : List Str) (h : ∀ x d, (x, d) ∈ tab → ∃ v, KDct K w a x v ∧ ∀ H, Rep K H v d) (h2 : ∀ x, x ∈ ab → PySem.W.nsIn K a x = some none) : R2 :=
  fun x y H Q => ∃ (z : Str) (r : Option Value), x = .str z ∧ y = .ref a ∧ PySem.W.nsIn K a z = some r ∧ Q (.bl (if neg = true then !r.isSome else r.isSome)) H
theorem kinT {X : Cx} {w : World} (hK : X.K = K) (hw : X.w = w) {a : Addr} {es : Array DictEntry} {n : Nat} {tab : List (Str × D)} {ab : List Str} (kd : KDict K w a es n) (h : ∀ x d, (x, d) ∈ tab → ∃ v, KDct K w a x v ∧ ∀ H, Rep K H v d) (h2 : ∀ x, x ∈ ab → PySem.W.nsIn K a x = some none) : OpR X (compareOp .In) (rKIn K w false a tab ab h h2) := by
  subst hK; subst hw; exact op_in_kd kd
theorem kninT {X : Cx} {w : World} (hK : X.K = K) (hw : X.w = w) {a : Addr} {es : Array DictEntry} {n : Nat} {tab : List (Str × D)} {ab : List Str} (kd : KDict K w a es n) (h : ∀ x d, (x, d) ∈ tab → ∃ v, KDct K w a x v ∧ ∀ H, Rep K H v d) (h2 : ∀ x, x ∈ ab → PySem.W.nsIn K a x = some none) : OpR X (compareOp .NotIn) (rKIn K w true a tab ab h h2) := by
  subst hK; subst hw; exact op_notIn_kd kd
def hasT (tab : List (Str × D)) (z : Str) : Bool := tab.any fun p => decide (p.1 = z)
def fKIn (neg : Bool) (a : Addr) (tab : List (Str × D)) (ab : List Str) : F2 := fun x y s Q => match x, y with
  | .str z, .val (.ref b) => b = a ∧ (hasT tab z = false → z ∈ ab) ∧ Q (.bl (if neg = true then !hasT tab z else hasT tab z)) s
  | _, _ => False
instance {w : World} {neg : Bool} {a : Addr} {tab : List (Str × D)} {ab : List Str} {hh : ∀ x d, (x, d) ∈ tab → ∃ v, KDct K w a x v ∧ ∀ H, Rep K H v d} {h2 : ∀ x, x ∈ ab → PySem.W.nsIn K a x = some none} : LR K (rKIn K w neg a tab ab hh h2) (fKIn neg a tab ab) := ⟨fun {F s H x y dx dy Q Q0} ok rx ry h k => by
  unfold fKIn at h
  split at h
  · cases rx
    cases ry
    obtain ⟨rfl, e, q⟩ := h
    rename_i z _
    cases hb : hasT tab z with
    | true =>
      obtain ⟨p, hp, hz⟩ := List.any_eq_true.mp hb
      obtain ⟨x, d⟩ := p
      have hz : x = z := of_decide_eq_true hz
      subst hz
      obtain ⟨v, ⟨es, n, u, _, _, g, _⟩, _⟩ := hh _ _ hp
      rw [hb] at q
      exact ⟨_, _, rfl, rfl, g, k _ _ _ _ Tr.refl ok .bl q⟩
    | false =>
      rw [hb] at q
      exact ⟨_, _, rfl, rfl, h2 _ (e hb), k _ _ _ _ Tr.refl ok .bl q⟩
  · exact h.elim⟩
/-! ### what is handed on with all that it holds -/
def tDeep (te : TE) : TE := te
theorem pe_deep {X : Cx} {e : Expr} {te : TE} (p : PE X e te) : PE X e (tDeep te) := p
def escK (s : S) : List (Key × D) → (List (Key × D) → S → Prop) → Prop
  | [], k => k [] s
  | (ky, d) :: r, k => escP s d fun d' s1 => escK s1 r fun r' s2 => k ((ky, d') :: r') s2
theorem escKs : ∀ {vs : List (Key × V)} {ds : List (Key × D)} {s : S} (ok : OkS K F s H) (r : RepK K (vis F s H) vs ds) {k : List (Key × D) → S → Prop} (h : escK s ds k), ∃ ds' s', k ds' s' ∧ OkS K F s' H ∧ Tr F s H s' H ∧ RepK K (vis F s' H) vs ds'
  | _, _, s, ok, .nil, k, h => ⟨_, _, h, ok, Tr.refl, .nil⟩
  | _, _, s, ok, .cons q r, k, h => by
    obtain ⟨d', s1, h1, ok1, t1, q1⟩ := esc ok q h
    obtain ⟨ds', s2, h2, ok2, t2, r2⟩ := escKs ok1 (r.mono t1.ex) h1
    exact ⟨_, _, h2, ok2, t1.trans t2, .cons (q1.mono t2.ex) r2⟩
def deepP (s : S) (d : D) (k : D → S → Prop) : Prop := match d with
  | .loc a h => match mget s.M h with
    | some e => e.a = a ∧ match e.o with
      | .dct kvs => escK (s.frz h) kvs fun kvs' s2 => k (.dct kvs') s2
      | .lst ds => escA (s.frz h) ds fun ds' s2 => k (.lst ds') s2
      | .obj _ _ => False
      | .nk _ _ _ => False
    | none => False
  | _ => False
theorem deep {v : V} {d : D} (ok : OkS K F s H) (r : Rep K (vis F s H) v d) {k : D → S → Prop} (h : deepP s d k) : ∃ d' s', k d' s' ∧ OkS K F s' H ∧ Tr F s H s' H ∧ Rep K (vis F s' H) v d' := by
  cases d with
  | loc a n =>
    cases r
    unfold deepP at h
    simp only at h
    cases e : mget s.M n with
    | none => rw [e] at h; exact h.elim
    | some x =>
      rw [e] at h
      obtain ⟨h1, h2⟩ := h
      subst h1
      obtain ⟨q1, q2⟩ := ok.frz n
      have hx := ok.ents x (mget_mem e).1
      cases ho : x.o with
      | dct kvs =>
        rw [ho] at h2 hx
        obtain ⟨ks, g1, g2, g3⟩ := hx
        obtain ⟨kvs', s2, h3, ok2, t2, r2⟩ := escKs q1 (g2.mono q2.ex) h2
        have hv := ok.frz_vis e g1
        refine ⟨_, s2, h3, ok2, q2.trans t2, .dct (t2.ex _ _ hv) r2 ?_⟩
        rw [← r2.len, g2.len]; exact g3
      | lst ds =>
        rw [ho] at h2 hx
        obtain ⟨us, g1, g2, g3⟩ := hx
        obtain ⟨ds', s2, h3, ok2, t2, r2⟩ := escs q1 (g2.mono q2.ex) h2
        have hv := ok.frz_vis e g1
        refine ⟨_, s2, h3, ok2, q2.trans t2, .lst (t2.ex _ _ hv) r2 ?_⟩
        rw [← r2.len, g2.len]; exact g3
      | nk _ _ _ => rw [ho] at h2; exact h2.elim
      | obj _ _ => rw [ho] at h2; exact h2.elim
  | _ => exact h.elim
def wDeep (w : WE) : WE := fun Γ s Q => w Γ s fun d s1 => deepP s1 d Q
instance {te : TE} {w : WE} [l : LE K te w] : LE K (tDeep te) (wDeep w) := ⟨fun {F s H σ Γ Q Q0} a h k => l.go a h fun v H1 d s1 t1 ok1 r1 h1 => by
  obtain ⟨d', s2, h2, ok2, t2, r2⟩ := deep ok1 r1 h1
  exact k _ _ _ _ (t1.trans t2) ok2 r2 h2⟩
/-! ### dict displays -/
theorem lookK_hit {k : Key} {d : D} {r : List (Key × D)} : lookK ((k, d) :: r) k = some d := by simp [lookK]
theorem lookK_skip {k k' : Key} {d e : D} {r : List (Key × D)} (n : k' ≠ k) (h : lookK r k = some e) : lookK ((k', d) :: r) k = some e := by simp [lookK, n, h]
/-- the pairs from the left -/
def wPairs : List (WE × WE) → Ga → S → (List (Key × D) → S → Prop) → Prop
  | [], _, s, Q => Q [] s
  | (wk, wv) :: r, Γ, s, Q => wk Γ s fun x s1 => wv Γ s1 fun y s2 => match keyD x with
    | some k => wPairs r Γ s2 fun ps s3 => Q ((k, y) :: ps) s3
    | none => False
class LPs (K : PySem.W.Frag) (trs : List (TE × TE)) (w : outParam (List (WE × WE))) : Prop where
  go : ∀ {F : Fr} {s : S} {H : Hp} {σ : L2.St} {Γ : Ga} {Q : List (Key × D) → S → Prop} {Q0 : List (V × V) → Hp → Prop}, At K F s H σ Γ → wPairs w Γ s Q → (∀ kvs H' ds s', Tr F s H s' H' → OkS K F s' H' → RepK K (vis F s' H') kvs ds → Q ds s' → Q0 (kvs.map fun kv => (kV kv.1, kv.2)) H') → tPairs trs σ H Q0
instance : LPs K [] [] := ⟨fun {F s H σ Γ Q Q0} a h k => k [] H [] s Tr.refl a.ok .nil h⟩
instance {tk tv : TE} {trs : List (TE × TE)} {wk wv : WE} {wr : List (WE × WE)} [lk : LE K tk wk] [lv : LE K tv wv] [lr : LPs K trs wr] : LPs K ((tk, tv) :: trs) ((wk, wv) :: wr) := ⟨fun {F s H σ Γ Q Q0} a h k =>
  lk.go a h fun v1 H1 d1 s1 t1 ok1 r1 h1 => lv.go (a.to t1 ok1) h1 fun v2 H2 d2 s2 t2 ok2 r2 h2 => by
    cases e : keyD d1 with
    | none => rw [e] at h2; exact h2.elim
    | some ky =>
      rw [e] at h2
      refine lr.go (a.to (t1.trans t2) ok2) h2 fun kvs H3 ds s3 t3 ok3 r3 h3 => ?_
      have ek := keyD_v ((r1.mono (t2.trans t3).ex).w vis_ex) e
      subst ek
      exact k ((ky, v2) :: kvs) H3 _ s3 ((t1.trans t2).trans t3) ok3 (.cons (r2.mono t3.ex) r3) h3⟩
def mergeE (kvs more : List (Key × D)) : List (Key × D) := more.foldl (fun acc kv => putKE acc kv.1 kv.2) kvs
theorem merge_rep {Hv : Hp} : ∀ {more : List (Key × V)} {es : List (Key × D)} {kvs : List (Key × V)} {ds : List (Key × D)}, RepK K Hv more es → RepK K Hv kvs ds → RepK K Hv (mergeK kvs more) (mergeE ds es)
  | _, _, _, _, .nil, q => q
  | (_, _) :: more, (_, _) :: es, _, _, .cons r t, q => merge_rep (more := more) (es := es) t (putK_rep r q)
theorem mergeE_len : ∀ {es : List (Key × D)} {ds : List (Key × D)}, (mergeE ds es).length ≤ ds.length + es.length
  | [], ds => Nat.le_refl _
  | (k, d) :: r, ds => by
    have h1 := mergeE_len (es := r) (ds := putKE ds k d)
    have h2 := putKE_len ds k d
    show (mergeE (putKE ds k d) r).length ≤ ds.length + (r.length + 1)
    omega
theorem putKE_new {ds : List (Key × D)} {k : Key} {d : D} (h : k ∉ ds.map (·.1)) : putKE ds k d = ds ++ [(k, d)] := by
  unfold putKE
  rw [if_neg]
  intro z
  obtain ⟨p, hp, e⟩ := List.any_eq_true.mp z
  exact h (List.mem_map.mpr ⟨p, hp, of_decide_eq_true e⟩)
theorem mergeE_nd : ∀ {es : List (Key × D)} {ds : List (Key × D)}, ((ds ++ es).map (·.1)).Nodup → mergeE ds es = ds ++ es
  | [], ds, _ => by rw [List.append_nil]; rfl
  | (k, d) :: r, ds, h => by
    show mergeE (putKE ds k d) r = _
    rw [putKE_new, mergeE_nd, List.append_assoc]
    · rfl
    · rw [List.append_assoc]; exact h
    · intro z
      rw [List.map_append, List.map_cons, List.nodup_append] at h
      exact h.2.2 k z k List.mem_cons_self rfl
theorem le15 {n : Nat} (h : n ≤ 15) : n ≤ sizeLine := Nat.le_trans h (by decide)
/-- a display: its keys are all unlike -/
def wDisp (w : List (WE × WE)) : WE := fun Γ s Q => wPairs w Γ s fun ps s1 => escK s1 ps fun ps' s2 => (ps'.length ≤ 15 ∧ (ps'.map (·.1)).Nodup) ∧ Q (.dct ps') s2
theorem pairs_hide {trs : List (TE × TE)} {w : List (WE × WE)} [l : LPs K trs w] {σ : L2.St} {Γ : Ga} {Qd : List (Key × D) → S → Prop} {Q0 : VK} (a : At K F s H σ Γ) (h : wPairs w Γ s Qd)
    (k : ∀ p kvs H2 ds s2, F p = false → Ex (vis F s H) (vis (hidA F p) s2 H2) → (∀ b, F b = true → H2 b = H b) → s2.pn = s.pn → OkS K (hidA F p) s2 H2 → H2 p = some (.dK []) → RepK K (vis (hidA F p) s2 H2) kvs ds → Qd ds s2 → kvs.length ≤ 15 ∧ Q0 (.ref p) (upd H2 p (.dK (mergeK [] kvs)))) : tDisp trs σ H Q0 := fun p hp => by
  obtain ⟨okh, exh⟩ := a.ok.hide (o := .dK []) hp
  have hF : F p = false := by
    cases e : F p with
    | false => rfl
    | true => exact absurd hp (a.ok.fr p e)
  have hFp : hidA F p p = true := by unfold hidA; simp
  have fr0 : ∀ b, F b = true → hidA F p b = true := fun b hb => by unfold hidA; rw [hb]; rfl
  refine l.go (σ := σ) (Γ := Γ) ⟨a.g.mono exh, okh⟩ h fun kvs H2 ds s2 t ok2 r2 h2 => ?_
  have hp2 : H2 p = some (.dK []) := by rw [t.fr p hFp]; exact upd_same
  obtain ⟨h3, h4⟩ := k p kvs H2 ds s2 hF (exh.trans t.ex) (fun b hb => by rw [t.fr b (fr0 b hb)]; exact upd_ne fun z => by rw [z, hF] at hb; cases hb) t.pn ok2 hp2 r2 h2
  exact ⟨hp2, kvs, rfl, h3, h4⟩
instance {trs : List (TE × TE)} {w : List (WE × WE)} [l : LPs K trs w] : LE K (tDisp trs) (wDisp w) := ⟨fun {F s H σ Γ Q Q0} a h k => by
  unfold wDisp at h
  refine pairs_hide (w := w) a h fun p kvs H2 ds s2 hF e1 e2 e3 ok2 hp r2 h2 => ?_
  obtain ⟨ds', s3, ⟨⟨h3, hnd⟩, h4⟩, ok3, t3, r3⟩ := escKs ok2 r2 h2
  have hl : kvs.length ≤ 15 := by rw [r3.len]; exact h3
  refine ⟨hl, ?_⟩
  obtain ⟨ok7, hv⟩ := ok3.hupd (o := .dK (mergeK [] kvs))
  obtain ⟨ok8, ex8⟩ := ok7.unhide
  have hm := merge_rep r3 (RepK.nil (K := K) (H := vis (hidA F p) s3 H2))
  rw [mergeE_nd (ds := []) hnd, List.nil_append] at hm
  have ha := unhide_at ok7 (o := .dK (mergeK [] kvs)) upd_same hF
  rw [hv] at ex8
  refine k _ _ (.dct ds') s3 ⟨(e1.trans t3.ex).trans ex8, fun b hb => ?_, t3.pn.trans e3⟩ ok8 (.dct ha (hm.mono ex8) (le15 (by assumption))) h4
  rw [upd_ne fun z => by rw [z, hF] at hb; cases hb]
  exact e2 b hb⟩
def woDisp (w : List (WE × WE)) : WM := fun Γ s Q => wPairs w Γ s fun ps s1 => (ps.length ≤ 15 ∧ (ps.map (·.1)).Nodup) ∧ Q (.dct ps) s1
instance {trs : List (TE × TE)} {w : List (WE × WE)} [l : LPs K trs w] : LEo K (tDisp trs) (woDisp w) := ⟨fun {F s H σ Γ Q Q0} a h k => by
  unfold woDisp at h
  refine pairs_hide (w := w) a h fun p kvs H2 ds s2 hF e1 e2 e3 ok2 hp r2 h2 => ?_
  obtain ⟨⟨h3, hnd⟩, h4⟩ := h2
  have hl : kvs.length ≤ 15 := by rw [r2.len]; exact h3
  refine ⟨hl, ?_⟩
  obtain ⟨ok7, hv⟩ := ok2.hupd (o := .dK (mergeK [] kvs))
  have hm := merge_rep r2 (RepK.nil (K := K) (H := vis (hidA F p) s2 H2))
  rw [mergeE_nd (ds := []) hnd, List.nil_append] at hm
  refine k p _ (.dct ds) s2 hF ok7 (by rw [hv]; exact e1) (fun b hb => ?_) e3 ⟨_, upd_same, by rw [hv]; exact hm, le15 (by assumption)⟩ h4
  rw [upd_ne fun z => by rw [z, hF] at hb; cases hb]
  exact e2 b hb⟩
/-! ### dict comprehensions -/
theorem dc_it {J : It} {n : Nat} {G : Hp → Prop} {Y : Nat → Hp → V → Hp → Prop} (w : Walk J n G Y) {g : TG} {tt : TT} {tk tv : TE} {vs : List Nat} {σ : L2.St} {H1 : Hp} {D0 : Addr} {Qd : Hp → Prop} (Pv : Nat → Hp → Prop) (h0 : Pv 0 (upd H1 D0 (.dK []))) (hG : ∀ i H, i ≤ n → Pv i H → G H)
    (hs : ∀ i x H H', i < n → Pv i H → Y i H x H' → g x (L2.wipe σ vs) H' fun σ2 H2 => L2.wipe σ2 vs = L2.wipe σ vs ∧ tt σ2 H2 fun b H3 =>
      if b = true then tk σ2 H3 fun y H4 => tv σ2 H4 fun z H5 => ∃ kvs k, y = kV k ∧ H5 D0 = some (.dK kvs) ∧ kvs.length < sizeLine ∧ Pv (i + 1) (upd H5 D0 (.dK (putK kvs k z))) else Pv (i + 1) H3) (hd : ∀ H, Pv n H → Qd H) :
    ∃ W : Nat → Nat → Hp → Prop, (∃ m, W 0 m (upd H1 D0 (.dK []))) ∧ ∀ i m H, W i m H →
      (J.stop i H ∧ Qd H) ∨ (J.go i H ∧ ∃ Nx : Hp → Prop, (∀ H', Nx H' → ∃ m', m' < m ∧ W (i + 1) m' H') ∧ ∀ x H', J.yld i H x H' → g x (L2.wipe σ vs) H' fun σ2 H2 => L2.wipe σ2 vs = L2.wipe σ vs ∧ tt σ2 H2 fun b H3 =>
        if b = true then tk σ2 H3 fun y H4 => tv σ2 H4 fun z H5 => ∃ kvs k, y = kV k ∧ H5 D0 = some (.dK kvs) ∧ kvs.length < sizeLine ∧ Nx (upd H5 D0 (.dK (putK kvs k z))) else Nx H3) := by
  refine ⟨fun i m H => m = n - i ∧ i ≤ n ∧ Pv i H, ⟨n, by simp, Nat.zero_le _, h0⟩, ?_⟩
  rintro i m H ⟨rfl, hi, p⟩
  have q := hG i H hi p
  by_cases hlt : i < n
  · refine .inr ⟨w.goes i H hlt q, Pv (i + 1), fun H' p' => ⟨n - (i + 1), by omega, rfl, hlt, p'⟩, fun x H' y => hs i x H H' hlt p (w.yields i H x H' hlt q y)⟩
  · have e : i = n := by omega
    subst e
    exact .inl ⟨w.stops H q, hd H p⟩
end
end Da

/-! Readings over data: dict comprehensions, comprehensions with two clauses (own). -/
namespace Da
open PySem PySem.Spec PyProof.Rows L2 Evl Hd RZ
section
variable {K : PySem.W.Frag} {F : Fr} {s : S} {H : Hp} {x y : V} {dx dy : D} {Q : QD} {Q0 : VK}
@[irreducible] def DcB (wg : WG) (wt : WT) (wk we : WE) (vs : List Nat) (Γ : Ga) (Q : QD) (src : Src) (s1 : S) : Prop := src.n ≤ sizeLine ∧ ∃ Inv : Nat → List (Key × D) → S → Prop, Inv 0 [] s1 ∧
    (∀ i d acc s', i < src.n → src.at i = some d → acc.length ≤ i → Inv i acc s' → wg d (wipeG Γ vs) s' fun Γ2 s2 => wt Γ2 s2 fun b s3 => Br b (wk Γ2 s3 fun y s4 => we Γ2 s4 fun z s5 => match keyD y with
      | some ky => escP s5 z fun z' s6 => Inv (i + 1) (putKE acc ky z') s6
      | none => False) (Inv (i + 1) acc s3)) ∧
    ∀ acc s', acc.length ≤ src.n → Inv src.n acc s' → Q (.dct acc) s'
theorem dc_inv {wg : WG} {wt : WT} {wk we : WE} {vs : List Nat} {Γ : Ga} {Q : QD} {src : Src} {s1 : S} (Inv : Nat → List (Key × D) → S → Prop) (hn : src.n ≤ sizeLine) (h0 : Inv 0 [] s1)
    (step : ∀ i d acc s', i < src.n → src.at i = some d → acc.length ≤ i → Inv i acc s' → wg d (wipeG Γ vs) s' fun Γ2 s2 => wt Γ2 s2 fun b s3 => Br b (wk Γ2 s3 fun y s4 => we Γ2 s4 fun z s5 => match keyD y with
      | some ky => escP s5 z fun z' s6 => Inv (i + 1) (putKE acc ky z') s6
      | none => False) (Inv (i + 1) acc s3))
    (fin : ∀ acc s', acc.length ≤ src.n → Inv src.n acc s' → Q (.dct acc) s') : DcB wg wt wk we vs Γ Q src s1 := by
  unfold DcB
  exact ⟨hn, Inv, h0, step, fin⟩
theorem DcB.out {wg : WG} {wt : WT} {wk we : WE} {vs : List Nat} {Γ : Ga} {Q : QD} {src : Src} {s1 : S} (h : DcB wg wt wk we vs Γ Q src s1) : src.n ≤ sizeLine ∧ ∃ Inv : Nat → List (Key × D) → S → Prop, Inv 0 [] s1 ∧
    (∀ i d acc s', i < src.n → src.at i = some d → acc.length ≤ i → Inv i acc s' → wg d (wipeG Γ vs) s' fun Γ2 s2 => wt Γ2 s2 fun b s3 => Br b (wk Γ2 s3 fun y s4 => we Γ2 s4 fun z s5 => match keyD y with
      | some ky => escP s5 z fun z' s6 => Inv (i + 1) (putKE acc ky z') s6
      | none => False) (Inv (i + 1) acc s3)) ∧
    ∀ acc s', acc.length ≤ src.n → Inv src.n acc s' → Q (.dct acc) s' := by
  unfold DcB at h
  exact h
/-- a dict comprehension: Inv by the turn, what is found, the state -/
def wDc (ws : WI) (is : List Nat) (wg : WG) (wt : WT) (wk we : WE) (vs : List Nat) : WE := fun Γ s Q => match subN is vs with
  | false => False
  | true => ws Γ s fun src s1 => DcB wg wt wk we vs Γ Q src s1
instance {wi : TI} {g : TG} {tt : TT} {tk te : TE} {vs is : List Nat} {ws : WI} {wg : WG} {wt : WT} {wk we : WE} [li : LI K wi ws] [lgk : LGk g is] [m2 : Mono2 g] [lg : LG K g wg] [lt : LT K tt wt] [lk : LE K tk wk] [le : LE K te we] : LE K (tDc wi g tt tk te vs) (wDc ws is wg wt wk we vs) := ⟨fun {F s H σ Γ Q Q0} a h k => by
  unfold wDc at h
  cases hs : subN is vs with
  | false => rw [hs] at h; exact h.elim
  | true =>
    rw [hs] at h
    refine li.go a h fun src H1 s1 J t1 ok1 wd h1 => ?_
    obtain ⟨hn, Inv, i0, step, fin⟩ := h1.out
    obtain ⟨G, Y, W, hG, hY⟩ := wd.w
    intro D0 hD
    obtain ⟨okh, exh⟩ := ok1.hide (o := .dK []) hD
    have hFD : F D0 = false := by
      cases e : F D0 with
      | false => rfl
      | true => exact absurd hD (ok1.fr D0 e)
    refine dc_it W (fun i H' => ∃ acc s' us, Ex (vis F s1 H1) (vis (hidA F D0) s' H') ∧ (∀ b, F b = true → H' b = H1 b) ∧ s'.pn = s1.pn ∧ OkS K (hidA F D0) s' H' ∧ H' D0 = some (.dK us) ∧ RepK K (vis (hidA F D0) s' H') us acc ∧ acc.length ≤ i ∧ Inv i acc s') ⟨[], s1, [], exh, fun b hb => upd_ne fun z => (by rw [z, hFD] at hb; cases hb), rfl, okh, upd_same, .nil, Nat.zero_le _, i0⟩ (fun i H' _ ⟨acc, s', us, e1, _, _, ok, _⟩ => hG _ s' H' e1 ok) ?_ ?_
    · rintro i x H' H2 hi ⟨acc, s', us, e1, e2, e3, ok, e4, e5, e6, inv⟩ y
      obtain ⟨d, hd, t2, ok2, r2, keep⟩ := hY _ i s' H' x H2 hi e1 ok y
      have g2 : RepG K (vis (hidA F D0) s' H2) (wipe σ vs) (wipeG Γ vs) := ((a.g.mono t1.ex).mono (e1.trans t2.ex)).wipe
      have hD2 : H2 D0 = some (.dK us) := by rw [keep D0 (by rw [e4]; exact fun z => nomatch z)]; exact e4
      have q := lg.go ⟨g2, ok2⟩ r2 (step i d acc s' hi hd e6 inv) fun σ3 H3 Γ3 s3 t3 a3 h3 => (⟨Γ3, s3, t3, a3, h3⟩ : ∃ Γ3 s3, Tr (hidA F D0) s' H2 s3 H3 ∧ At K (hidA F D0) s3 H3 σ3 Γ3 ∧ wt Γ3 s3 fun b s3 => Br b (wk Γ3 s3 fun y s4 => we Γ3 s4 fun z s5 => match keyD y with
        | some ky => escP s5 z fun z' s6 => Inv (i + 1) (putKE acc ky z') s6
        | none => False) (Inv (i + 1) acc s3))
      refine m2.go (fun σ3 H3 ⟨kp, Γ3, s3, t3, a3, h3⟩ => ⟨?_, ?_⟩) (lgk.go q)
      · exact (wipe_eq kp.1 (fun j hj => kp.2 j fun z => hj (subN_mem hs j z))).trans (wipe_eq (wipe_length σ vs) (fun j hj => by rw [wipe_get, if_neg fun z => hj z.1]))
      have hFD0 : hidA F D0 D0 = true := by unfold hidA; simp
      have fr0 : ∀ b, F b = true → hidA F D0 b = true := fun b hb => by unfold hidA; rw [hb]; rfl
      refine lt.go a3 h3 fun b H4 s4 t4 ok4 h4 => h4.ite (fun _ h5 => ?_) (fun _ h5 => ?_)
      · refine lk.go (a3.to t4 ok4) h5 fun v H5 dk s5 t5 ok5 r5 h6 => le.go (a3.to (t4.trans t5) ok5) h6 fun v6 H6 dv s6 t6 ok6 r6 h7 => ?_
        cases ek : keyD dk with
        | none => rw [ek] at h7; exact h7.elim
        | some ky =>
          rw [ek] at h7
          have eky := keyD_v ((r5.mono t6.ex).w vis_ex) ek
          obtain ⟨y', s7, h8, ok7, t7, r7⟩ := esc ok6 r6 h7
          have tt := ((t2.trans t3).trans (t4.trans (t5.trans t6))).trans t7
          have hD5 : H6 D0 = some (.dK us) := by rw [tt.fr D0 hFD0, e4]
          obtain ⟨ok8, hv⟩ := ok7.hupd (o := .dK (putK us ky v6))
          have hlen := putKE_len acc ky y'
          refine ⟨us, ky, eky, hD5, ?_, putKE acc ky y', s7, putK us ky v6, by rw [hv]; exact e1.trans tt.ex, fun b hb => ?_, tt.pn.trans e3, ok8, upd_same, ?_, by omega, h8⟩
          · rw [e5.len]; omega
          · rw [upd_ne fun z => (by rw [z, hFD] at hb; cases hb), tt.fr b (fr0 b hb), e2 b hb]
          · rw [hv]
            exact putK_rep r7 (e5.mono tt.ex)
      · have tt := (t2.trans t3).trans t4
        exact ⟨acc, s4, us, e1.trans tt.ex, fun b hb => by rw [tt.fr b (fr0 b hb), e2 b hb], tt.pn.trans e3, ok4, by rw [tt.fr D0 hFD0, e4], e5.mono tt.ex, by omega, h5⟩
    · rintro H' ⟨acc, s', us, e1, e2, e3, ok, e4, e5, e6, inv⟩
      obtain ⟨ok8, ex8⟩ := ok.unhide
      refine k _ _ _ _ (t1.trans ⟨e1.trans ex8, e2, e3⟩) ok8 (.dct (unhide_at ok e4 hFD) (e5.mono ex8) (Nat.le_trans e6 hn)) (fin acc s' e6 inv)⟩
/-! ### ranges made into lists -/
abbrev WR := Ga → S → (Int → Int → S → Prop) → Prop
class LRg (K : PySem.W.Frag) (te : L2.St → Hp → (Int → Int → Hp → Prop) → Prop) (w : outParam WR) : Prop where
  go : ∀ {F : Fr} {s : S} {H : Hp} {σ : L2.St} {Γ : Ga} {Q : Int → Int → S → Prop} {Q0 : Int → Int → Hp → Prop}, At K F s H σ Γ → w Γ s Q → (∀ a b H' s', Tr F s H s' H' → OkS K F s' H' → Q a b s' → Q0 a b H') → te σ H Q0
def wRg1 (w : WE) : WR := fun Γ s Q => w Γ s fun d s1 => asI d fun n => Q 0 n s1
def wRg2 (wa wb : WE) : WR := fun Γ s Q => wa Γ s fun d s1 => wb Γ s1 fun e s2 => asI d fun i => asI e fun j => Q i j s2
theorem asI_of {Hv : Hp} {v : V} {d : D} {k : Int → Prop} (h : asI d k) (r : Rep K Hv v d) : ∃ i, v = .int i ∧ k i := by
  cases d with
  | int i => cases r; exact ⟨i, rfl, h⟩
  | _ => exact h.elim
instance {ta : TE} {w : WE} [l : LE K ta w] : LRg K (tRg1 ta) (wRg1 w) := ⟨fun {F s H σ Γ Q Q0} a h k => l.go a h fun v H1 d s1 t1 ok1 r1 h1 => by
  obtain ⟨i, e, h2⟩ := asI_of h1 r1
  exact ⟨i, e, k _ _ _ _ t1 ok1 h2⟩⟩
instance {ta tb : TE} {wa wb : WE} [l : LE K ta wa] [lb : LE K tb wb] : LRg K (tRg2 ta tb) (wRg2 wa wb) := ⟨fun {F s H σ Γ Q Q0} a h k => l.go a h fun v H1 d s1 t1 ok1 r1 h1 => lb.go (a.to t1 ok1) h1 fun v2 H2 d2 s2 t2 ok2 r2 h2 => by
  obtain ⟨i, e, h3⟩ := asI_of h2 (r1.mono t2.ex)
  obtain ⟨j, e2, h4⟩ := asI_of h3 r2
  exact ⟨i, j, e, e2, k _ _ _ _ (t1.trans t2) ok2 h4⟩⟩
def rgD (a b : Int) : List D := (List.range (b - a).toNat).map fun i => D.int (a + (i : Nat))
theorem rgD_len (a b : Int) : (rgD a b).length = (b - a).toNat := by unfold rgD; rw [List.length_map, List.length_range]
theorem rg_rep {Hv : Hp} {a b : Int} : RepL K Hv (rgV a b) (rgD a b) := by
  unfold rgV rgD
  generalize List.range (b - a).toNat = l
  induction l with
  | nil => exact .nil
  | cons x r ih => exact .cons .int ih
def wLstRg (w : WR) : WE := fun Γ s Q => w Γ s fun a b s1 => RgOk a b ∧ Q (.lst (rgD a b)) s1
theorem rg_size {a b : Int} (h : RgOk a b) : (rgD a b).length ≤ sizeLine := by
  rw [rgD_len]
  exact Nat.le_trans h.2.2.2.2 (by decide)
instance {te : L2.St → Hp → (Int → Int → Hp → Prop) → Prop} {w : WR} [l : LRg K te w] : LE K (tLstRg te) (wLstRg w) := ⟨fun {F s H σ Γ Q Q0} a h k => l.go a h fun x y H1 s1 t1 ok1 h1 =>
  ⟨h1.1, new_lst ok1 rg_rep (rg_size h1.1) h1.2 fun v H3 d s3 t3 ok3 r3 h4 => k v H3 d s3 (t1.trans t3) ok3 r3 h4⟩⟩
def wTupRg (w : WR) : WE := fun Γ s Q => w Γ s fun a b s1 => RgOk a b ∧ Q (.tup (rgD a b)) s1
instance {te : L2.St → Hp → (Int → Int → Hp → Prop) → Prop} {w : WR} [l : LRg K te w] : LE K (tTupRg te) (wTupRg w) := ⟨fun {F s H σ Γ Q Q0} a h k => l.go a h fun x y H1 s1 t1 ok1 h1 =>
  ⟨h1.1, new_tup ok1 rg_rep (rg_size h1.1) h1.2 fun v H3 d s3 t3 ok3 r3 h4 => k v H3 d s3 (t1.trans t3) ok3 r3 h4⟩⟩
/-! ### whether a list or a tuple holds anything -/
def tTruth (K : PySem.W.Frag) (ta : TE) : TT := fun σ H Q => ta σ H fun x H' => ∃ k, TruV K x H' k ∧ Q k H'
theorem truthK {X : Cx} (hK : X.K = K) {a : Expr} {ta : TE} (ha : PE X a ta) (he : ∀ whole, isTrue a X.env whole = (do let v ← whole; standAt a.pos; holding [v] (truthy v))) : PT X a (tTruth K ta) := by subst hK; exact pt_truth ha he
def wTruth (w : WE) : WT := fun Γ s Q => w Γ s fun d s1 => seeP s1 d fun d' => match d' with
  | .lst ds => Q (!ds.isEmpty) s1
  | .tup ds => Q (!ds.isEmpty) s1
  | .dct ks => Q (!ks.isEmpty) s1
  | _ => False
theorem emp_l {Hv : Hp} {vs : List V} {ds : List D} (r : RepL K Hv vs ds) : ds.isEmpty = vs.isEmpty := by cases r <;> rfl
theorem emp_k {Hv : Hp} {vs : List (Key × V)} {ds : List (Key × D)} (r : RepK K Hv vs ds) : ds.isEmpty = vs.isEmpty := by cases r <;> rfl
instance {ta : TE} {w : WE} [l : LE K ta w] : LT K (tTruth K ta) (wTruth w) := ⟨fun {F s H σ Γ Q Q0} a h k => l.go a h fun v H1 d s1 t1 ok1 r1 h1 => by
  obtain ⟨d', h2, q⟩ := see ok1 r1 h1
  cases d' with
  | lst ds =>
    obtain ⟨a, xs, rfl, g1, g2, g3⟩ := q
    exact ⟨_, .inl ⟨xs, SqL.of g1, rfl⟩, k _ _ _ t1 ok1 (by rw [← emp_l g2]; exact h2)⟩
  | tup ds =>
    obtain ⟨a, xs, rfl, g1, g2, g3⟩ := q.tup vis_ex
    exact ⟨_, .inr (.inl ⟨xs, g1, rfl⟩), k _ _ _ t1 ok1 (by rw [← emp_l g2]; exact h2)⟩
  | dct ks =>
    obtain ⟨a, xs, rfl, g1, g2, g3⟩ := q
    exact ⟨_, .inr (.inr ⟨xs, g1, rfl⟩), k _ _ _ t1 ok1 (by rw [← emp_k g2]; exact h2)⟩
  | _ => exact h2.elim⟩
end
end Da
namespace Da
open PySem PySem.Spec PyProof.Rows L2 Evl Hd
/-! ### promises of an __init__ by the number of arguments -/
abbrev QF := List (Str × D) → Nat → Prop
abbrev I0 := Option (Addr × Addr) → Nat → QF → XD → Prop
abbrev I1 := Option (Addr × Addr) → D → Nat → QF → XD → Prop
abbrev I2 := Option (Addr × Addr) → D → D → Nat → QF → XD → Prop
abbrev I7 := Option (Addr × Addr) → D → D → D → D → D → D → D → Nat → QF → XD → Prop
def di1 (f : I1) : DIn := fun pn args n Q X => match args with
  | [a] => f pn a n Q X
  | _ => False
def di2 (f : I2) : DIn := fun pn args n Q X => match args with
  | [a, b] => f pn a b n Q X
  | _ => False
def di7 (f : I7) : DIn := fun pn args n Q X => match args with
  | [a, b, c, d, e, g, i] => f pn a b c d e g i n Q X
  | _ => False
section
variable {K : PySem.W.Frag} {H : Hp} {vs : List V} {Q : VK} {E : XK} {C : Addr} {N : List Str} {t : TS} {w : WS}
theorem di1_of {f : I1} {pn args n Q X} (h : di1 f pn args n Q X) : ∃ a, args = [a] ∧ f pn a n Q X := by
  unfold di1 at h; split at h
  · exact ⟨_, rfl, h⟩
  · exact h.elim
theorem di2_of {f : I2} {pn args n Q X} (h : di2 f pn args n Q X) : ∃ a b, args = [a, b] ∧ f pn a b n Q X := by
  unfold di2 at h; split at h
  · exact ⟨_, _, rfl, h⟩
  · exact h.elim
theorem di7_of {f : I7} {pn args n Q X} (h : di7 f pn args n Q X) : ∃ a b c d e g i, args = [a, b, c, d, e, g, i] ∧ f pn a b c d e g i n Q X := by
  unfold di7 at h; split at h
  · exact ⟨_, _, _, _, _, _, _, rfl, h⟩
  · exact h.elim
theorem in_len1 {f : I1} (h : upIn K C (di1 f) vs H Q E) : vs.length = 2 := in_len (fun _ _ _ _ _ h => by obtain ⟨_, e, _⟩ := di1_of h; rw [e]; rfl) h
theorem in_len2 {f : I2} (h : upIn K C (di2 f) vs H Q E) : vs.length = 3 := in_len (fun _ _ _ _ _ h => by obtain ⟨_, _, e, _⟩ := di2_of h; rw [e]; rfl) h
theorem in_len7 {f : I7} (h : upIn K C (di7 f) vs H Q E) : vs.length = 8 := in_len (fun _ _ _ _ _ h => by obtain ⟨_, _, _, _, _, _, _, e, _⟩ := di7_of h; rw [e]; rfl) h
theorem go_in1 {f : I1} (h : upIn K C (di1 f) vs H Q E) [l : LS K t w] (hw : ∀ x pn a n Qd Xd, f pn a n Qd Xd → w (deIn x C Qd) (startI N x [a]) (st1 x C [] n pn)) : t { nx := fun _ H' => Q .non H', rt := Q } (L2.start N vs) H :=
  go_in h fun x pn args n Qd Xd q => by obtain ⟨a, rfl, q⟩ := di1_of q; exact hw x pn a n Qd Xd q
theorem go_in2 {f : I2} (h : upIn K C (di2 f) vs H Q E) [l : LS K t w] (hw : ∀ x pn a b n Qd Xd, f pn a b n Qd Xd → w (deIn x C Qd) (startI N x [a, b]) (st1 x C [] n pn)) : t { nx := fun _ H' => Q .non H', rt := Q } (L2.start N vs) H :=
  go_in h fun x pn args n Qd Xd q => by obtain ⟨a, b, rfl, q⟩ := di2_of q; exact hw x pn a b n Qd Xd q
theorem go_in7 {f : I7} (h : upIn K C (di7 f) vs H Q E) [l : LS K t w] (hw : ∀ x pn a b c d e g i n Qd Xd, f pn a b c d e g i n Qd Xd → w (deIn x C Qd) (startI N x [a, b, c, d, e, g, i]) (st1 x C [] n pn)) : t { nx := fun _ H' => Q .non H', rt := Q } (L2.start N vs) H :=
  go_in h fun x pn args n Qd Xd q => by obtain ⟨a, b, c, d, e, g, i, rfl, q⟩ := di7_of q; exact hw x pn a b c d e g i n Qd Xd q
end
end Da

/-! An own __eq__, both answers, of two instances or of an instance and a tuple. -/
namespace Oq
open PySem PySem.Spec PyProof.Rows L2 Evl
def rEqOwn (C : Addr) (sp : Sp) (E : XK) : R2 := fun x y H Q => ∃ a b dx fs, x = .ref a ∧ y = .ref b ∧ H a = some (.ins C dx fs) ∧ ((∃ dy gs, H b = some (.ins C dy gs)) ∨ ∃ xs, H b = some (.tup xs)) ∧ sp [.ref a, .ref b] H (fun v H' => ∃ k, v = .bl k ∧ Q (.bl k) H') E
theorem op_eqOwn {X : Cx} {CX : CXT} {n : Nat} {C f : Addr} {fd : FuncData} {ps : List Str} {sp : Sp} {E : XK} (F : FnOk X.prog X.w X.K X.mg X.base CX n f fd ps sp) (hs : PySem.W.findIn X.K (.ref C) "__eq__" = some (some (.ref f)))
    (hf : PySem.W.isFn X.K (.ref f) = true) (hb : Binds X.K fd ps []) (hx : Passes CX X E) (hr : Room n X.A) (nt : PySem.W.notFirst X.K C (.type "tuple") = true) : OpR X (compareOp .Eq) (rEqOwn C sp E) := by
  intro pins s σ H x y v u Q I rx ry ⟨a, b, dx, fs, ex, ey, ha, hy, hsp⟩
  subst ex
  subst ey
  cases rx
  cases ry
  obtain ⟨mA, J0, _⟩ := ins_get I.hok ha
  obtain ⟨od, J, _⟩ := J0.look
  obtain ⟨m, hF⟩ := I.fr
  have hu := hr.units0
  show wpAny (model X.prog X.w) X.A (richCompare .Eq (.ref a) (.ref b)) (EP X pins σ Q) X.xe s
  have body : wpAny (model X.prog X.w) X.A (call (.ref f) [.ref a, .ref b]) (PySem.W.CmpBack (EP X pins σ Q)) X.xe s := by
    have hl := F.len _ _ _ _ hsp
    refine wpAny_call (codeAny_mono (F.run X.A X.stack s H ⟨[.ref a, .ref b], []⟩ [.ref a, .ref b] [.ref a, .ref b] _ E hr I.env0 (by
      have z := hb s [.ref a, .ref b] I.kIn (by simpa using hl)
      simpa using z) (.cons rfl (.cons rfl .nil)) hsp) fun r st hq => ?_)
    cases r with
    | error er => exact hx pins σ H s er st I hq
    | ok fl =>
      cases fl with
      | ret wv =>
        obtain ⟨z, H2, I2, rz, k, ez, q2⟩ := I.after hq
        subst ez
        cases rz
        exact ⟨.bl k, H2, I2, rfl, q2⟩
      | next => exact False.elim hq
      | brk => exact False.elim hq
      | cont => exact False.elim hq
  rcases hy with ⟨dy, gs, hy⟩ | ⟨xs, hy⟩
  · obtain ⟨mB, J1, _⟩ := ins_get I.hok hy
    obtain ⟨od2, J2, _⟩ := J1.look
    exact PySem.W.cmp_K (op := .Eq) (tb := .ref C) hu hF I.ok.mod.kin J J2.type (by simp [PySem.W.notFirst]) hs hf body
  · obtain ⟨_, _, _, o, h1, h2, _⟩ := (show ObjOk X.prog X.w H s.heap b (.tup xs) from I.hok b _ hy)
    exact PySem.W.cmp_K (op := .Eq) (tb := .type "tuple") hu hF I.ok.mod.kin J (fun A Q E st kk q => wpAny_typeOf_ref (kk _ _ h1) (by rw [h2]; exact q)) nt hs hf body
end Oq

/-! Readings over data: an own == (own). -/
namespace Da
open PySem PySem.Spec PyProof.Rows L2 Evl Hd
def rEqOwnA (K : PySem.W.Frag) (C : Addr) (sp : Sp) (E : XK) : R2 := fun x y H Q => ∃ a b dx fs, x = .ref a ∧ y = .ref b ∧ H a = some (.ins C dx fs) ∧ ((∃ dy gs, H b = some (.ins C dy gs)) ∨ ∃ xs, SqT K H b xs) ∧ sp [.ref a, .ref b] H (fun v H' => ∃ k, v = .bl k ∧ Q (.bl k) H') E
theorem eqOwnA {X : Cx} {CX : CXT} {n : Nat} {C f : Addr} {fd : FuncData} {ps : List Str} {sp : Sp} {E : XK} {K : PySem.W.Frag} (hK : X.K = K) (F : FnOk X.prog X.w X.K X.mg X.base CX n f fd ps sp) (hs : PySem.W.findIn X.K (.ref C) "__eq__" = some (some (.ref f)))
    (hf : PySem.W.isFn X.K (.ref f) = true) (hb : Binds X.K fd ps []) (hx : Passes CX X E) (hr : Room n X.A) (nt : PySem.W.notFirst X.K C (.type "tuple") = true) : OpR X (compareOp .Eq) (rEqOwnA K C sp E) := by
  subst hK
  intro pins s σ H x y v u Q I rx ry ⟨a, b, dx, fs, ex, ey, ha, hy, hsp⟩
  subst ex
  subst ey
  cases rx
  cases ry
  obtain ⟨mA, J0, _⟩ := ins_get I.hok ha
  obtain ⟨od, J, _⟩ := J0.look
  obtain ⟨m, hF⟩ := I.fr
  have hu := hr.units0
  show wpAny (model X.prog X.w) X.A (richCompare .Eq (.ref a) (.ref b)) (EP X pins σ Q) X.xe s
  have body : wpAny (model X.prog X.w) X.A (call (.ref f) [.ref a, .ref b]) (PySem.W.CmpBack (EP X pins σ Q)) X.xe s := by
    have hl := F.len _ _ _ _ hsp
    refine wpAny_call (codeAny_mono (F.run X.A X.stack s H ⟨[.ref a, .ref b], []⟩ [.ref a, .ref b] [.ref a, .ref b] _ E hr I.env0 (by
      have z := hb s [.ref a, .ref b] I.kIn (by simpa using hl)
      simpa using z) (.cons rfl (.cons rfl .nil)) hsp) fun r st hq => ?_)
    cases r with
    | error er => exact hx pins σ H s er st I hq
    | ok fl =>
      cases fl with
      | ret wv =>
        obtain ⟨z, H2, I2, rz, k, ez, q2⟩ := I.after hq
        subst ez
        cases rz
        exact ⟨.bl k, H2, I2, rfl, q2⟩
      | next => exact False.elim hq
      | brk => exact False.elim hq
      | cont => exact False.elim hq
  rcases hy with ⟨dy, gs, hy⟩ | ⟨xs, hy⟩
  · obtain ⟨mB, J1, _⟩ := ins_get I.hok hy
    obtain ⟨od2, J2, _⟩ := J1.look
    exact PySem.W.cmp_K (op := .Eq) (tb := .ref C) hu hF I.ok.mod.kin J J2.type (by simp [PySem.W.notFirst]) hs hf body
  · obtain ⟨_, _, ⟨o, h1, h2, _⟩, _⟩ := I.tuple hy
    exact PySem.W.cmp_K (op := .Eq) (tb := .type "tuple") hu hF I.ok.mod.kin J (fun A Q E st kk q => wpAny_typeOf_ref (kk _ _ h1) (by rw [h2]; exact q)) nt hs hf body
section
variable {K : PySem.W.Frag} {F : Fr} {s : S} {H H' : Hp}
def eqArgs (C : Addr) (ds : List D) (k : D → D → Prop) : Prop := match ds with
  | [.obj C' fs, .obj C2 gs] => (C' = C ∧ C2 = C) ∧ k (.obj C' fs) (.obj C2 gs)
  | [.obj C' fs, .tup es] => C' = C ∧ k (.obj C' fs) (.tup es)
  | _ => False
def wEqOwn (C : Addr) (dsp : DSp) (wa wb : WE) : WE := fun Γ s Q => wa Γ s fun x s1 => wb Γ s1 fun y s2 => escA s2 [x, y] fun ds s3 => eqArgs C ds fun d e => dsp s3.pn [d, e] s3.n (fun d n' => asB d fun k => Q (.bl k) (s3.at n')) XF
instance {C : Addr} {dsp : DSp} {E : XK} {ta tb : TE} {wa wb : WE} [la : LE K ta wa] [lb : LE K tb wb] : LE K (tOp (rEqOwnA K C (upSp K dsp) E) ta tb) (wEqOwn C dsp wa wb) := ⟨fun {F s H σ Γ Q Q0} a h k =>
  la.go a h fun v1 H1 d1 s1 t1 ok1 r1 h1 => lb.go (a.to t1 ok1) h1 fun v2 H2 d2 s2 t2 ok2 r2 h2 => by
    obtain ⟨ds, s3, h3, ok3, t3, r3⟩ := escs ok2 (.cons (r1.mono t2.ex) (.cons r2 .nil)) h2
    have tt := (t1.trans t2).trans t3
    unfold eqArgs at h3
    split at h3
    · obtain ⟨⟨rfl, e2⟩, h4⟩ := h3
      subst e2
      cases r3 with
      | cons q1 q2 =>
        cases q2 with
        | cons q2 q3 =>
          cases q3
          cases q1 with
          | @obj a1 c1 dx fv fs g1 g2 =>
            cases q2 with
            | @obj a2 c2 dy gv gs g3 g4 =>
              refine ⟨a1, a2, dx, fv, rfl, rfl, vis_ex _ _ g1, .inl ⟨dy, gv, vis_ex _ _ g3⟩, ?_⟩
              refine call_data ok3 (.cons (.obj g1 g2) (.cons (.obj g3 g4) .nil)) h4 (fun v H4 d n' t4 ok4 r4 q => ?_) (fun _ _ _ _ _ _ _ _ q => q.elim)
              obtain ⟨b, e, q⟩ := asB_of q r4
              subst e
              exact ⟨b, rfl, k _ _ _ _ (tt.trans t4) ok4 .bl q⟩
    · obtain ⟨rfl, h4⟩ := h3
      cases r3 with
      | cons q1 q2 =>
        cases q2 with
        | cons q2 q3 =>
          cases q3
          cases q1 with
          | @obj a1 c1 dx fv fs g1 g2 =>
            cases q2 with
            | @tup a2 us es g3 g4 g5 =>
              refine ⟨a1, a2, dx, fv, rfl, rfl, vis_ex _ _ g1, .inr ⟨us, ex_t vis_ex g3⟩, ?_⟩
              refine call_data ok3 (.cons (.obj g1 g2) (.cons (.tup g3 g4 g5) .nil)) h4 (fun v H4 d n' t4 ok4 r4 q => ?_) (fun _ _ _ _ _ _ _ _ q => q.elim)
              obtain ⟨b, e, q⟩ := asB_of q r4
              subst e
              exact ⟨b, rfl, k _ _ _ _ (tt.trans t4) ok4 .bl q⟩
    · exact h3.elim⟩
end
end Da

namespace Da
open PySem PySem.Spec
theorem Br.tt {A B : Prop} (h : A) : Br true A B := ⟨(fun _ => h), (fun z => by cases z)⟩
theorem Br.ff {A B : Prop} (h : B) : Br false A B := ⟨(fun z => by cases z), (fun _ => h)⟩
theorem Br.yes {c : Bool} {A B : Prop} (e : c = true) (h : A) : Br c A B := by subst e; exact Br.tt h
theorem Br.no {c : Bool} {A B : Prop} (e : c = false) (h : B) : Br c A B := by subst e; exact Br.ff h
theorem Br.dec {p : Prop} {ip : Decidable p} {A B : Prop} (h1 : p → A) (h2 : ¬ p → B) : Br (decide p) A B := ⟨(fun z => h1 (of_decide_eq_true z)), (fun z => h2 (of_decide_eq_false z))⟩
theorem Br.ndec {p : Prop} {ip : Decidable p} {A B : Prop} (h1 : ¬ p → A) (h2 : p → B) : Br (!decide p) A B := ⟨(fun z => h1 (by simpa using z)), (fun z => h2 (by simpa using z))⟩
theorem at_w {ds : List D} {i : Int} {d : D} {R : D → Prop} (e : L2.atI ds i = some d) (q : R d) : ∃ d, L2.atI ds i = some d ∧ R d := ⟨d, e, q⟩
theorem Br.y {p : Prop} {ip : Decidable p} {A B : Prop} (e : p) (h : A) : Br (decide p) A B := Br.yes (decide_eq_true e) h
theorem Br.n {p : Prop} {ip : Decidable p} {A B : Prop} (e : ¬ p) (h : B) : Br (decide p) A B := Br.no (decide_eq_false e) h
theorem Br.ny {p : Prop} {ip : Decidable p} {A B : Prop} (e : ¬ p) (h : A) : Br (!decide p) A B := Br.yes (by rw [decide_eq_false e]; rfl) h
theorem Br.nn {p : Prop} {ip : Decidable p} {A B : Prop} (e : p) (h : B) : Br (!decide p) A B := Br.no (by rw [decide_eq_true e]; rfl) h
def NoL (d : D) : Prop := ∀ a h, d ≠ .loc a h
theorem escP_of {s : S} {d : D} {k : D → S → Prop} (h : NoL d) (q : k d s) : escP s d k := by
  cases d with
  | loc a n => exact absurd rfl (h a n)
  | _ => exact q
theorem seeP_of {s : S} {d : D} {k : D → Prop} (h : NoL d) (q : k d) : seeP s d k := by
  cases d with
  | loc a n => exact absurd rfl (h a n)
  | _ => exact q
theorem escA_of : ∀ {ds : List D} {s : S} {k : List D → S → Prop}, (∀ d ∈ ds, NoL d) → k ds s → escA s ds k
  | [], _, _, _, q => q
  | d :: r, s, k, h, q => escP_of (h d List.mem_cons_self) (escA_of (fun e he => h e (List.mem_cons_of_mem _ he)) q)
theorem dec_t {p : Prop} {ip : Decidable p} (h : p) : decide p = true := decide_eq_true h
theorem dec_f {p : Prop} {ip : Decidable p} (h : ¬ p) : decide p = false := decide_eq_false h
theorem lookF_hit {f : Str} {d : D} {fs : List (Str × D)} : lookF ((f, d) :: fs) f = some d := by
  unfold lookF
  rw [decide_eq_true rfl]
theorem lookF_skip {f g : Str} {d e : D} {fs : List (Str × D)} (n : f ≠ g) (h : lookF fs g = some e) : lookF ((f, d) :: fs) g = some e := by
  unfold lookF
  rw [decide_eq_false n]
  exact h
theorem lookF_put {f : Str} {d : D} : ∀ {fs : List (Str × D)}, lookF (putFD f d fs) f = some d
  | [] => lookF_hit
  | (g, x) :: r => by
    unfold putFD
    by_cases e : g = f
    · rw [decide_eq_true e, e]; exact lookF_hit
    · rw [decide_eq_false e]; exact lookF_skip e lookF_put
theorem lookF_other {f g : Str} {d e : D} (n : f ≠ g) : ∀ {fs : List (Str × D)}, lookF fs g = some e → lookF (putFD f d fs) g = some e
  | [], h => by cases h
  | (k, x) :: r, h => by
    unfold putFD
    by_cases e1 : k = f
    · rw [decide_eq_true e1]
      rw [e1] at h
      have h : (match decide (f = g) with | true => some x | false => lookF r g) = some e := h
      rw [decide_eq_false n] at h
      rw [e1]
      exact lookF_skip n h
    · rw [decide_eq_false e1]
      by_cases e2 : k = g
      · subst e2
        have h : (match decide (k = k) with | true => some x | false => lookF r k) = some e := h
        rw [decide_eq_true rfl] at h
        rw [← Option.some.inj h]
        exact lookF_hit
      · have h : (match decide (k = g) with | true => some x | false => lookF r g) = some e := h
        rw [decide_eq_false e2] at h
        exact lookF_skip e2 (lookF_other n h)
theorem putFD_skip {f g : Str} {d x : D} {r : List (Str × D)} (n : g ≠ f) : putFD f d ((g, x) :: r) = (g, x) :: putFD f d r := by
  show (match decide (g = f) with | true => (g, d) :: r | false => (g, x) :: putFD f d r) = _
  rw [decide_eq_false n]
theorem putFD_nil {f : Str} {d : D} : putFD f d [] = [(f, d)] := rfl
theorem putFD_lt {f : Str} {d : D} : ∀ {fs : List (Str × D)} {k : Nat}, fs.length < k → (putFD f d fs).length < k + 1
  | [], k, h => Nat.succ_lt_succ h
  | (g, x) :: r, k + 1, h => by
    unfold putFD
    by_cases e : g = f
    · rw [decide_eq_true e]; exact Nat.lt_succ_of_lt h
    · rw [decide_eq_false e]; exact Nat.succ_lt_succ (putFD_lt (Nat.lt_of_succ_lt_succ h))
theorem fld_w {fs : List (Str × D)} {f : Str} {d : D} {R : D → Prop} (e : lookF fs f = some d) (q : R d) : ∃ d, lookF fs f = some d ∧ R d := ⟨d, e, q⟩
theorem ex_at {ds : List D} {i : Int} {R : D → Prop} (h : ∃ d, L2.atI ds i = some d ∧ R d) : ∃ d, L2.atI ds i = some d ∧ R d := h
theorem ex_fld {fs : List (Str × D)} {f : Str} {R : D → Prop} (h : ∃ d, lookF fs f = some d ∧ R d) : ∃ d, lookF fs f = some d ∧ R d := h
theorem ix_last {m : Nat} : L2.ixN (m + 1) (-1) = some m := by
  unfold L2.ixN
  rw [if_neg (by omega), if_pos (by omega)]
  have e : ((-1 : Int) + ((m + 1 : Nat) : Int)).toNat = m := by omega
  rw [e]
theorem at_last {α : Type} {ds : List α} {d : α} : L2.atI (ds ++ [d]) (-1) = some d := by
  unfold L2.atI
  rw [List.length_append, show ([d] : List α).length = 1 from rfl, ix_last]
  simp
theorem set_last {α : Type} {ds : List α} {d e : α} : (ds ++ [d]).set ds.length e = ds ++ [e] := by
  rw [List.set_append_right _ _ (Nat.le_refl _), Nat.sub_self]
  rfl
theorem ixN_of {m : Nat} {i : Int} {j : Nat} (h : i = (j : Int)) (hj : j < m) : L2.ixN m i = some j := by rw [h]; exact Evl.ixN_nat hj
end Da
/-! What a drawn reader is: words, names, lines, by places (own). -/
namespace Lw
open PySem PySem.Spec L2 Da
def AZ (x : Str) : Prop := ∀ c ∈ x.cps.toList, 97 ≤ c ∧ c ≤ 122
theorem abc_at : ∀ j : _root_.Fin 26, (Str.ofString "abcdefghijklmnopqrstuvwxyz").cps.toList[j.1]? = some (97 + j.1) := by decide +kernel
abbrev lkL : List Str := ["take", "take", "take", "take", "case", "case", "rest", "cap", "jump"]
abbrev qtL : List Str := ["skip", "skip", "skip", "cut", "cut", "upto", "upto", "set", "refuse"]
/-- the words of lines that read, of silent ones -/
def Lk (x : Str) : Prop := x ∈ (["take", "case", "rest", "cap", "jump"] : List Str)
def Qt (x : Str) : Prop := x ∈ (["skip", "cut", "upto", "set", "refuse"] : List Str)
instance (x : Str) : Decidable (Lk x) := inferInstanceAs (Decidable (x ∈ _))
instance (x : Str) : Decidable (Qt x) := inferInstanceAs (Decidable (x ∈ _))
theorem lk_of : ∀ x ∈ lkL, Lk x := by decide +kernel
theorem qt_of : ∀ x ∈ qtL, Qt x := by decide +kernel
theorem qt_cut : Qt "cut" := by decide +kernel
theorem qt_skip : Qt "skip" := by decide +kernel
/-- the words of a reader's lines -/
structure Wds (ws : List Str) : Prop where
  all : ∀ x ∈ ws, Lk x ∨ Qt x
  beg : (∃ x, ws[0]? = some x ∧ Lk x) ∨ (2 < ws.length ∧ (∃ x, ws[0]? = some x ∧ x ∈ (["set", "upto"] : List Str)) ∧ ∃ x, ws[1]? = some x ∧ Lk x)
/-- words as they are drawn at first -/
structure Wd0 (ws : List Str) : Prop where
  all : ∀ x ∈ ws, Lk x ∨ Qt x
  beg : ∃ x, ws[0]? = some x ∧ Lk x
theorem Wd0.one {x : Str} (h : Lk x) : Wd0 [x] := ⟨fun y hy => by rw [List.mem_singleton] at hy; rw [hy]; exact .inl h, ⟨x, rfl, h⟩⟩
theorem Wd0.app {ws : List Str} {x : Str} (h : Wd0 ws) (hx : Lk x ∨ Qt x) : Wd0 (ws ++ [x]) := by
  obtain ⟨y, h1, h2⟩ := h.beg
  refine ⟨fun z hz => ?_, y, ?_, h2⟩
  · rcases List.mem_append.mp hz with hz | hz
    · exact h.all z hz
    · rw [List.mem_singleton] at hz
      rw [hz]
      exact hx
  · rw [List.getElem?_append_left (List.getElem?_eq_some_iff.mp h1).1]
    exact h1
theorem Wd0.set {ws : List Str} {x : Str} {j : Nat} (h : Wd0 ws) (hj : 1 ≤ j) (hx : Lk x ∨ Qt x) : Wd0 (ws.set j x) := by
  obtain ⟨y, h1, h2⟩ := h.beg
  refine ⟨fun z hz => ?_, y, ?_, h2⟩
  · rcases List.mem_or_eq_of_mem_set hz with hz | hz
    · exact h.all z hz
    · rw [hz]
      exact hx
  · rw [List.getElem?_set_ne (by omega)]
    exact h1
theorem Wd0.wds {ws : List Str} (h : Wd0 ws) : Wds ws := ⟨h.all, .inl h.beg⟩
theorem Wd0.swap {ws : List Str} {x y : Str} (h : Wd0 ws) (hl : 2 < ws.length) (hx : ws[0]? = some x) (hy : y ∈ (["set", "upto"] : List Str)) : Wds ((ws.set 1 x).set 0 y) := by
  obtain ⟨z, h1, h2⟩ := h.beg
  rw [hx] at h1
  cases h1
  refine ⟨fun u hu => ?_, .inr ⟨by rw [List.length_set, List.length_set]; exact hl, ⟨y, by rw [List.getElem?_set_self (by rw [List.length_set]; omega)], hy⟩, ⟨x, by rw [List.getElem?_set_ne (by omega), List.getElem?_set_self (by omega)], h2⟩⟩⟩
  rcases List.mem_or_eq_of_mem_set hu with hu | hu
  · rcases List.mem_or_eq_of_mem_set hu with hu | hu
    · exact h.all u hu
    · rw [hu]; exact .inl h2
  · rw [hu]
    exact .inr ((show ∀ y ∈ (["set", "upto"] : List Str), Qt y by decide +kernel) y hy)
theorem le1000 {n : Nat} (h : n ≤ 1000) : n ≤ sizeLine := Nat.le_trans h (by decide)
theorem log2_small {i : Int} {k : Nat} (h : i.natAbs < 2 ^ k) (hk : 0 < k) : i.natAbs.log2 < k := by
  by_cases e : i.natAbs = 0
  · rw [e]; exact hk
  · exact (Nat.log2_lt e).mpr h
theorem set_str (ws : List Str) (j : Nat) (x : Str) : (ws.map D.str).set j (.str x) = (ws.set j x).map D.str := by rw [List.map_set]
theorem app_str (ws : List Str) (x : Str) : ws.map D.str ++ [.str x] = (ws ++ [x]).map D.str := by rw [List.map_append]; rfl
theorem str_mem {ws : List Str} {x : Str} : D.str x ∈ ws.map D.str ↔ x ∈ ws := by
  rw [List.mem_map]
  exact ⟨fun ⟨y, h, e⟩ => by cases e; exact h, fun h => ⟨x, h, rfl⟩⟩
theorem az_ok {x : Str} (h : AZ x) : PySem.PyData.strOk x = true := by
  unfold PySem.PyData.strOk
  rw [Array.all_eq_true']
  intro c hc
  have := h c (by simpa using hc)
  exact decide_eq_true (by omega)
theorem wd_ok : ∀ {x : Str}, Lk x ∨ Qt x → PySem.PyData.strOk x = true := fun {x} h => by
  rcases h with h | h
  · exact (show ∀ x ∈ (["take", "case", "rest", "cap", "jump"] : List Str), PySem.PyData.strOk x = true by decide +kernel) x h
  · exact (show ∀ x ∈ (["skip", "cut", "upto", "set", "refuse"] : List Str), PySem.PyData.strOk x = true by decide +kernel) x h
theorem int_mem {ns : List Int} {x : Int} : D.int x ∈ ns.map D.int ↔ x ∈ ns := by
  rw [List.mem_map]
  exact ⟨fun ⟨y, h, e⟩ => by cases e; exact h, fun h => ⟨x, h, rfl⟩⟩
theorem int_plain {ns : List Int} : ∀ d ∈ ns.map D.int, Pl 0 d := fun d hd => by
  obtain ⟨x, hx, rfl⟩ := List.mem_map.mp hd
  trivial
theorem take_nodup {α : Type} {l : List α} (h : l.Nodup) {i : Nat} {x : α} (e : l[i]? = some x) : x ∉ l.take i := by
  intro hx
  obtain ⟨j, hj⟩ := List.getElem?_of_mem hx
  obtain ⟨hj1, hj2⟩ := List.getElem?_eq_some_iff.mp hj
  rw [List.length_take] at hj1
  rw [List.getElem?_take_of_lt (by omega)] at hj
  have := nd_ix h hj e
  omega
theorem take_more {α : Type} {l : List α} {i : Nat} {x : α} (e : l[i]? = some x) : l.take (i + 1) = l.take i ++ [x] := by rw [List.take_succ, e]; rfl
theorem str_plain {ws : List Str} (h : ∀ x ∈ ws, PySem.PyData.strOk x = true) : ∀ d ∈ ws.map D.str, Pl 0 d := fun d hd => by
  obtain ⟨x, hx, rfl⟩ := List.mem_map.mp hd
  exact h x hx
/-! ### names -/
/-- a name that may stand -/
structure Nm (x : Str) : Prop where
  az : AZ x
  lo : 1 ≤ x.length
  hi : x.length ≤ 12
def aRep (i : Nat) : Str := Hd.strRep (Str.ofString "a") (i + 1)
theorem aRep_nodup : ((List.range 12).map aRep).Nodup := by decide +kernel
theorem aRep_nm : ∀ i : _root_.Fin 12, Nm (aRep i.1) := fun i =>
  ⟨fun c hc => (show ∀ i : _root_.Fin 12, ∀ c ∈ (aRep i.1).cps.toList, 97 ≤ c ∧ c ≤ 122 by decide +kernel) i c hc, (show ∀ i : _root_.Fin 12, 1 ≤ (aRep i.1).length by decide +kernel) i, (show ∀ i : _root_.Fin 12, (aRep i.1).length ≤ 12 by decide +kernel) i⟩
theorem places_len {fs : List Nat} {k : Nat} (nd : fs.Nodup) (h : ∀ f ∈ fs, f < k) : fs.length ≤ k := by
  have := Hd.nodup_len (l' := List.range k) nd (fun f hx => List.mem_range.mpr (h f hx))
  rw [List.length_range] at this
  exact this
theorem nodup_snoc {α : Type} {l : List α} {a : α} (h : l.Nodup) (n : a ∉ l) : (l ++ [a]).Nodup := by
  rw [List.nodup_append]
  exact ⟨h, List.nodup_cons.mpr ⟨List.not_mem_nil, .nil⟩, fun x hx y hy e => n (by rw [List.mem_singleton] at hy; rw [← hy, ← e]; exact hx)⟩
theorem all_snoc {α : Type} {l : List α} {a : α} {q : α → Prop} (h : ∀ x ∈ l, q x) (n : q a) : ∀ x ∈ l ++ [a], q x := fun x hx => by
  rcases List.mem_append.mp hx with hx | hx
  · exact h x hx
  · rw [List.mem_singleton.mp hx]; exact n
theorem spare_is {ns : List Str} (h : ns.length < 12) : ∃ i, i < 12 ∧ aRep i ∉ ns := by
  apply Classical.byContradiction
  intro hc
  have h2 := Hd.nodup_len aRep_nodup (l' := ns) (fun a ha => by
    obtain ⟨i, hi, rfl⟩ := List.mem_map.mp ha
    apply Classical.byContradiction
    intro hn
    exact hc ⟨i, List.mem_range.mp hi, hn⟩)
  rw [List.length_map, List.length_range] at h2
  omega
/-! ### places -/
def wAt (ws : List Str) (i : Nat) : Str := ws.getD i (Str.ofString "")
theorem wAt_some {ws : List Str} {i : Nat} {x : Str} (h : ws[i]? = some x) : wAt ws i = x := by
  unfold wAt
  rw [List.getD_eq_getElem?_getD, h]
  rfl
theorem wAt_at {ws : List Str} {i : Nat} (h : i < ws.length) : ws[i]? = some (wAt ws i) := by
  rw [List.getElem?_eq_getElem h, wAt_some (List.getElem?_eq_getElem h)]
theorem wAt_mem {ws : List Str} {i : Nat} (h : i < ws.length) : wAt ws i ∈ ws := List.mem_of_getElem? (wAt_at h)
theorem at_str {ws : List Str} {i : Nat} {z : Int} (h : i < ws.length) (e : z = (i : Int)) : atI (ws.map D.str) z = some (.str (wAt ws i)) := by
  rw [e]
  refine atI_nat ?_
  rw [List.getElem?_map, wAt_at h]
  rfl
/-- where a line of words may go -/
def Gok (ws : List Str) (at_ g : Nat) : Prop := g < ws.length ∧ (¬ Lk (wAt ws at_) → Lk (wAt ws g) ∨ (0 < at_ ∧ at_ < g))
def vals (s t : Int) (m : Nat) : List Int := (List.range m).map fun (k : Nat) => (s + t * (k : Int)).fmod 6
theorem vals5 : ∀ s : _root_.Fin 6, ∀ t ∈ ([1, 5] : List Int), (vals (s.1 : Int) t 5).Nodup := by decide +kernel
theorem vals_nodup {s t : Int} {m : Nat} (hs : 0 ≤ s) (hs6 : s < 6) (ht : t ∈ ([1, 5] : List Int)) (hm : m ≤ 5) : (vals s t m).Nodup := by
  have h := vals5 ⟨s.toNat, by omega⟩ t ht
  have e : ((s.toNat : Nat) : Int) = s := by omega
  simp only [e] at h
  exact h.sublist ((List.range_sublist.mpr hm).map _)
theorem vals_in {s t : Int} {m : Nat} : ∀ v ∈ vals s t m, 0 ≤ v ∧ v ≤ 5 := fun v hv => by
  obtain ⟨k, _, rfl⟩ := List.mem_map.mp hv
  have h1 := Int.fmod_nonneg_of_pos (s + t * (k : Int)) (b := 6) (by decide)
  have h2 := Int.fmod_lt_of_pos (s + t * (k : Int)) (b := 6) (by decide)
  exact ⟨h1, by omega⟩
theorem vals_len {s t : Int} {m : Nat} : (vals s t m).length = m := by unfold vals; rw [List.length_map, List.length_range]
theorem vals_succ (s t : Int) (i : Nat) : vals s t (i + 1) = vals s t i ++ [(s + t * (i : Int)).fmod 6] := by
  unfold vals
  rw [List.range_succ, List.map_append]
  rfl
/-! ### lines -/
/-- a line, its goals by their places -/
inductive Li where
  | case (wy : List (Int × Nat)) (o : Nat)
  | take (o : Nat)
  | num (w : Str) (c : Int) (o : Nat)
  | upto (c : Int) (a b : Nat)
  | fin (w : Str)
/-- the bounds of a number behind its word -/
def NumOk (w : Str) (c : Int) : Prop := (w = "rest" ∧ 2 ≤ c ∧ c ≤ 4) ∨ (w = "cap" ∧ 0 ≤ c ∧ c ≤ 5) ∨ (w = "jump" ∧ 1 ≤ c ∧ c ≤ 4) ∨ (w = "set" ∧ 0 ≤ c ∧ c ≤ 5) ∨ (w = "skip" ∧ -3 ≤ c ∧ c ≤ 4)
def LiOk (ws : List Str) (at_ : Nat) : Li → Prop
  | .case wy o => wAt ws at_ = "case" ∧ (wy.map (·.1)).Nodup ∧ (∀ y ∈ wy, 0 ≤ y.1 ∧ y.1 ≤ 5 ∧ Gok ws at_ y.2) ∧ wy.length ≤ 5 ∧ Gok ws at_ o
  | .take o => wAt ws at_ = "take" ∧ Gok ws at_ o
  | .num w c o => wAt ws at_ = w ∧ NumOk w c ∧ Gok ws at_ o
  | .upto c a b => wAt ws at_ = "upto" ∧ 0 ≤ c ∧ c ≤ 5 ∧ Gok ws at_ a ∧ Gok ws at_ b
  | .fin w => wAt ws at_ = w ∧ (w = "cut" ∨ w = "refuse")
/-- a way, a line as data: its ways a list (drawn) or a tuple (kept) -/
def wayD (ns : List Str) (y : Int × Nat) : D := .tup [.int y.1, .str (wAt ns y.2)]
def liD (ns : List Str) (kept : Bool) : Li → D
  | .case wy o => .tup [.str "case", if kept = true then .tup (wy.map (wayD ns)) else .lst (wy.map (wayD ns)), .str (wAt ns o)]
  | .take o => .tup [.str "take", .str (wAt ns o)]
  | .num w c o => .tup [.str w, .int c, .str (wAt ns o)]
  | .upto c a b => .tup [.str "upto", .int c, .str (wAt ns a), .str (wAt ns b)]
  | .fin w => .tup [.str w]
/-- the pair of a name and a line -/
def pairD (ns : List Str) (kept : Bool) (y : Nat × Li) : D := .tup [.str (wAt ns y.1), liD ns kept y.2]
def numbered (ls : List Li) : List (Nat × Li) := (List.range ls.length).zip ls
theorem numbered_app (ls : List Li) (li : Li) : numbered (ls ++ [li]) = numbered ls ++ [(ls.length, li)] := by
  unfold numbered
  rw [List.length_append]
  show (List.range (ls.length + 1)).zip (ls ++ [li]) = _
  rw [List.range_succ, List.zip_append (by rw [List.length_range])]
  rfl
theorem numbered_len (ls : List Li) : (numbered ls).length = ls.length := by unfold numbered; rw [List.length_zip, List.length_range, Nat.min_self]
theorem numbered_at {ls : List Li} {i : Nat} {li : Li} (h : ls[i]? = some li) : (numbered ls)[i]? = some (i, li) := by
  unfold numbered
  rw [List.getElem?_zip_eq_some]
  exact ⟨List.getElem?_range (List.getElem?_eq_some_iff.mp h).1, h⟩
/-- a drawn reader's lines: names, words, lines by places -/
structure Drawn (ns ws : List Str) (ls : List Li) : Prop where
  len : ns.length = ws.length
  lenL : ls.length = ws.length
  pos : 1 ≤ ws.length
  most : ws.length ≤ 8
  nd : ns.Nodup
  nm : ∀ x ∈ ns, Nm x
  wds : Wds ws
  ok : ∀ i li, ls[i]? = some li → LiOk ws i li
def linesD (ns : List Str) (ls : List Li) (kept : Bool) : List D := (numbered ls).map (pairD ns kept)
theorem liD_tup (ns : List Str) (k : Bool) (li : Li) : ∃ ds, liD ns k li = .tup ds := by
  cases li <;> exact ⟨_, rfl⟩
theorem linesD_len {ns : List Str} {ls : List Li} {k : Bool} : (linesD ns ls k).length = ls.length := by unfold linesD; rw [List.length_map, numbered_len]
theorem wAt_inj {ns : List Str} (nd : ns.Nodup) {i j : Nat} (hi : i < ns.length) (hj : j < ns.length) (e : wAt ns i = wAt ns j) : i = j := nd_ix nd (wAt_at hi) (by rw [e]; exact wAt_at hj)
theorem linesD_app {ns : List Str} {ls : List Li} {li : Li} {k : Bool} : linesD ns (ls ++ [li]) k = linesD ns ls k ++ [pairD ns k (ls.length, li)] := by unfold linesD; rw [numbered_app, List.map_append]; rfl
theorem linesD_at {ns : List Str} {ls : List Li} {k : Bool} {i : Nat} {li : Li} (h : ls[i]? = some li) : (linesD ns ls k)[i]? = some (pairD ns k (i, li)) := by
  unfold linesD
  rw [List.getElem?_map, numbered_at h]
  rfl
/-- the tables of the law's own draws -/
abbrev lowE : List (Key × D) := [(Sum.inr "rest", .int 2), (Sum.inr "cap", .int 0), (Sum.inr "jump", .int 1), (Sum.inr "set", .int 0), (Sum.inr "skip", .int (-3))]
abbrev manyE : List (Key × D) := [(Sum.inr "rest", .int 3), (Sum.inr "cap", .int 6), (Sum.inr "jump", .int 4), (Sum.inr "set", .int 6), (Sum.inr "skip", .int 8)]
theorem lookI {kvs : List (Key × D)} {x : Str} {i : Int} (h : (match lookK kvs (Sum.inr x) with | some (.int j) => decide (j = i) | _ => false) = true) : lookK kvs (Sum.inr x) = some (.int i) := by
  split at h
  · rename_i j e
    rw [e, of_decide_eq_true h]
  · cases h
theorem keys5 : ([Sum.inr "rest", Sum.inr "cap", Sum.inr "jump", Sum.inr "set", Sum.inr "skip"] : List Key).Nodup := by decide +kernel
theorem num_of {x : Str} (h : x ∈ (["rest", "cap", "jump", "set", "skip"] : List Str)) : ∃ lo mn : Int, lookK lowE (Sum.inr x) = some (.int lo) ∧ lookK manyE (Sum.inr x) = some (.int mn) ∧ 0 < mn ∧ mn < 10 ∧ ∀ r, 0 ≤ r → r < mn → NumOk x (lo + r) := by
  rcases List.mem_cons.mp h with rfl | h
  · exact ⟨2, 3, lookI (by decide +kernel), lookI (by decide +kernel), by decide, by decide, fun r h0 h1 => .inl ⟨rfl, by omega, by omega⟩⟩
  rcases List.mem_cons.mp h with rfl | h
  · exact ⟨0, 6, lookI (by decide +kernel), lookI (by decide +kernel), by decide, by decide, fun r h0 h1 => .inr (.inl ⟨rfl, by omega, by omega⟩)⟩
  rcases List.mem_cons.mp h with rfl | h
  · exact ⟨1, 4, lookI (by decide +kernel), lookI (by decide +kernel), by decide, by decide, fun r h0 h1 => .inr (.inr (.inl ⟨rfl, by omega, by omega⟩))⟩
  rcases List.mem_cons.mp h with rfl | h
  · exact ⟨0, 6, lookI (by decide +kernel), lookI (by decide +kernel), by decide, by decide, fun r h0 h1 => .inr (.inr (.inr (.inl ⟨rfl, by omega, by omega⟩)))⟩
  rcases List.mem_cons.mp h with rfl | h
  · exact ⟨-3, 8, lookI (by decide +kernel), lookI (by decide +kernel), by decide, by decide, fun r h0 h1 => .inr (.inr (.inr (.inr ⟨rfl, by omega, by omega⟩)))⟩
  · cases h
theorem ten {x : Str} (h : Lk x ∨ Qt x) (h1 : x ∉ (["cut", "refuse"] : List Str)) (h2 : x ≠ "take") (h3 : x ≠ "case") (h4 : x ≠ "upto") : x ∈ (["rest", "cap", "jump", "set", "skip"] : List Str) := by
  unfold Lk Qt at h
  simp only [List.mem_cons, List.not_mem_nil, or_false] at h h1 ⊢
  rcases h with (h | h | h | h | h) | (h | h | h | h | h)
  · exact absurd h h2
  · exact absurd h h3
  · exact .inl h
  · exact .inr (.inl h)
  · exact .inr (.inr (.inl h))
  · exact .inr (.inr (.inr (.inr h)))
  · exact absurd (.inl h) h1
  · exact absurd h h4
  · exact .inr (.inr (.inr (.inl h)))
  · exact absurd (.inr h) h1
end Lw

/-! Exceptions of the program's own classes as values: made, a field read, isinstance. -/
namespace Xv
open PySem PySem.Spec PyProof.Rows L2

section
variable {X : Cx} {e : Expr} {es : List Expr} {te : TE} {ta : TA} {p pos : Pos}
/-- C(e, ..) as a value, C's own __init__ keeping sp -/
def tMkV (C : Addr) (sp : Sp) (ta : TA) : TE := fun σ H Q => ta σ H fun vs H1 => vs.length ≤ 1000 ∧ ∀ a, H1 a = none → sp (.ref a :: vs) (upd H1 a (exo a C none)) (fun v H2 => v = .non ∧ Q (.ref a) H2) (fun _ _ _ => False)
theorem pe_mkV {CX : CXT} {x : Str} {C fI : Addr} {k : Nat} {fd : FuncData} {ps : List Str} {sp : Sp} (T : OexC X.K C) (iC : PySem.W.findIn X.K (.ref C) "__init__" = some (some (.ref fI))) (tI : PySem.W.typeIn X.K (.ref fI) = some (.type "function"))
    (F1 : FnOk X.prog X.w X.K X.mg X.base CX k fI fd ps sp) (hr : Room (k + 1) X.A) (hb : Binds X.K fd ps []) (hx : Passes CX X (fun _ _ _ => False)) (hg : Gl X x) (hm : X.mg x = some (.ref C)) (ha : PA X (e :: es) ta)
    (hdb : (x == ("__debug__" : Str)) = false := by decide) (he : starEach (e :: es) X.env = (false, eval e X.env) :: starEach es X.env := by rfl) (hpl : (backTo pos (starEach es X.env)).any (·.1) = false := by rfl) :
    PE X (.Call (.Name x p) (e :: es) [] pos) (tMkV C sp ta) := by
  refine ⟨fun pins s σ H Q I h => ?_⟩
  obtain ⟨nm, q, N, bs, bm, sn, sub, ab, col, dd, k0, k1, k2, k3, k5, hC, hbm⟩ := T.cls
  refine wpAny_Call_Name_kw (ld_glob I hg hm ?_ hdb)
  refine PySem.W.callWith_K (h₀ := X.base) I.ok.mod.kin T.kC (thn (ha.run pos pins s σ H _ I h) fun us s1 ⟨vs, H1, I1, r1, hz, q1⟩ => ⟨I1.kIn, ?_⟩) he hpl
  show wpAny _ _ (call (.ref C) us) _ _ _
  obtain ⟨hp, g, dr, tk, os⟩ := s1
  have hsz : hp.objs.size ≤ hp.objs.size + 1 := Nat.le_succ _
  have hn : H1 (hp.objs.size + 1) = none := I1.hok.fresh hsz
  have hq := q1 (hp.objs.size + 1) hn
  have kk : ∀ b o, hp.get? b = some o → ((hp.push (PySem.W.kdv_tup us)).push (PySem.HandSPX.excO C hp.objs.size)).get? b = some o := fun b o e => Heap.get?_push_of_some _ (Heap.get?_push_of_some _ e)
  have hget : ((hp.push (PySem.W.kdv_tup us)).push (PySem.HandSPX.excO C hp.objs.size)).get? (hp.objs.size + 1) = some (PySem.HandSPX.excO C hp.objs.size) := by heap_get
  have I2 : Inv X pins σ (upd H1 (hp.objs.size + 1) (exo (hp.objs.size + 1) C none)) ⟨(hp.push (PySem.W.kdv_tup us)).push (PySem.HandSPX.excO C hp.objs.size), g, dr, tk, os⟩ :=
    I1.laid (t' := tk) (a := hp.objs.size + 1) (o := exo (hp.objs.size + 1) C none) (h' := (hp.push (PySem.W.kdv_tup us)).push (PySem.HandSPX.excO C hp.objs.size)) kk hsz (exo_ok hget)
  have r2 : Vals (V.ref (hp.objs.size + 1) :: vs) (Value.ref (hp.objs.size + 1) :: us) := .cons rfl r1
  have hl : (Value.ref (hp.objs.size + 1) :: us).length = ps.length := by
    have e := r2.length
    rw [F1.len _ _ _ _ hq] at e
    exact e.symm
  have hus : us.length ≤ sizeLine := by
    rw [← Paired.length r1, sizeLine_eq]
    omega
  have b0 := hb ⟨(hp.push (PySem.W.kdv_tup us)).push (PySem.HandSPX.excO C hp.objs.size), g, dr, tk, os⟩ (Value.ref (hp.objs.size + 1) :: us) I2.kIn (by rw [List.append_nil]; exact hl)
  rw [List.append_nil] at b0
  refine wpAny_call (PySem.HandSPX.call_own F.excBase_ValueError (fun Y => PySem.HandSPX.refsVE_contains Y bm hbm) (I1.kIn _ _ hC) (PySem.W.looks_findIn I1.kIn iC) (fun self => PySem.W.bind_fn I1.kIn self tI) hus
    (codeAny_mono (F1.run _ X.stack _ _ ⟨Value.ref (hp.objs.size + 1) :: us, []⟩ (Value.ref (hp.objs.size + 1) :: us) _ _ (fun _ _ _ => False) (hr.make C us []) (I2.env0.make C us []) b0 r2 hq) fun r s' hq' => ?_))
  cases r with
  | error er => exact hx pins σ _ _ er s' I2 hq'
  | ok fl =>
    cases fl with
    | ret u =>
      obtain ⟨v, H2, os2, bare2, un2, hok2, rv, ev, q2⟩ := hq'
      subst ev
      have J : Inv X pins σ H2 s' := I2.call' (ch := []) os2 un2 hok2 bare2 (fun b z => absurd z (by simp))
      exact ⟨rv, .ref (hp.objs.size + 1), H2, J, rfl, q2⟩
    | next => exact False.elim hq'
    | brk => exact False.elim hq'
    | cont => exact False.elim hq'
/-- C(), an own class without own __init__ -/
def tMkV0 (C : Addr) : TE := fun _ H Q => ∀ a, H a = none → Q (.ref a) (upd H a (exo a C none))
theorem pe_mkV0 {C : Addr} {x : Str} {bmB : List Value} {B newId initId : String} (F : ExcBaseFacts B newId initId bmB) (q : PySem.W.excIn X.K C bmB newId = true) (gC : X.mg x = some (.ref C)) (kC : PySem.W.keepIn X.K (.ref C) = true) (hg : Gl X x)
    (hdb : (x == ("__debug__" : Str)) = false := by decide) : PE X (.Call (.Name x p) [] [] pos) (tMkV0 C) := by
  refine ⟨fun pins s σ H Q I h => ?_⟩
  refine wpAny_Call_Name_kw (ld_glob I hg gC ?_ hdb)
  refine PySem.W.callWith_K0 I.kIn kC ?_
  obtain ⟨bm, N, nm, qn, bs, hdct, sn, sub, ab, col, dd, k0, k1, k2, k3, k5, mN, hC, hN, hni, T⟩ := exc_obj I.kIn q
  refine wpAny_call_exc_subT F T hC hN hni (fun h' a hm => ?_) (by show 0 ≤ sizeLine; exact Nat.zero_le _)
  have hn : H a = none := I.hok.gone hm.new
  obtain ⟨t, ht, _, _⟩ := hm.there
  exact ⟨.ref a, upd H a (exo a C none), I.laidN hm.keeps hm.new hn (exo_ok ht), rfl, h a hn⟩

/-- e.f, e an exception held as a value -/
def tXat (K : PySem.W.Frag) (f : Str) (te : TE) : TE := fun σ H Q => te σ H fun x H1 => ∃ (a C dx : Addr) (fs : List (Str × V)) (v : V), x = .ref a ∧ H1 a = some (exo a C (some dx)) ∧ H1 dx = some (exd dx fs) ∧ XfC K C ∧ PySem.W.findIn K (.ref C) f = some none ∧ fs.lookup f = some v ∧ Q v H1
theorem pe_xat {n : Str} (he : PE X e te) (hb : attributeBase e n X.env (eval e X.env) = eval e X.env := by rfl) : PE X (.Attribute e n pos) (tXat X.K n te) := by
  refine ⟨fun pins s σ H Q I h => ?_⟩
  refine attr_of hb (thn (he.run pins s σ H _ I h) fun u s1 hh => ?_)
  obtain ⟨x, H1, I1, rx, a, C, dd, fs, v, ex, ea, ed, T, hno, l, q⟩ := hh
  subst ex
  obtain rfl : u = Value.ref a := rx
  obtain ⟨t1, ha⟩ := exo_at I1.hok ea
  obtain ⟨mA, hns, hr⟩ := exd_at I1.hok ed
  obtain ⟨od, ho, hl⟩ := lookIn_ns hns
  obtain ⟨u, hu, ru⟩ := RelO.some_of (v := v) (o := mA n) (by rw [← l]; exact hr n)
  have J : PySem.W.InstAt s1.heap a _ C (some od) := ⟨ha, rfl, rfl, ho⟩
  exact HandSPX.exc_get I1.kIn J T.ga T.gg T.exC (PySem.W.findObj_own T.hdC hno rfl (by rw [hl, hu])) (handed_of ru) ⟨v, H1, I1.tok _, ru, q⟩

/-- isinstance(e, c), e an exception held as a value -/
def rIsX (K : PySem.W.Frag) : List V → Hp → VK → Prop := fun xs H Q => ∃ (c : V) (cv : Value) (b : Bool) (a D : Addr) (d : Option Addr), xs = [.ref a, c] ∧ ClsV c cv ∧ H a = some (exo a D d) ∧ (∀ dx, d = some dx → ∃ fs, H dx = some (exd dx fs)) ∧ ExcC K D ∧ PySem.W.kitOne K (.ref D) cv = some b ∧ Q (.bl b) H
theorem call_isX : CallR X (.builtin "isinstance") (rIsX X.K) := by
  intro pins s σ H xs us Q I r h
  obtain ⟨c, cv, b, a, D, d, rfl, k, ea, hd, T, e, q⟩ := h
  obtain ⟨u1, u2, rfl, r1, r2⟩ := vals2 r
  have e2 := k.eq r2
  subst e2
  obtain rfl : u1 = Value.ref a := r1
  obtain ⟨t1, ha⟩ := exo_at I.hok ea
  have hcl : (PySem.W.clsIn X.K D).isSome = true := by
    obtain ⟨cd, hc, _⟩ := PySem.W.any_some T.hd
    rw [hc]; rfl
  cases d with
  | none =>
    have J : PySem.W.InstAt s.heap a _ D none := ⟨ha, rfl, rfl, trivial⟩
    exact PySem.W.kia_one (PySem.W.kitx_exc hcl T.hg T.hk T.hs T.ha T.hn T.ht T.hm) I.kIn J e (fun z => nomatch z) fun tk => ⟨.bl b, H, I.tok tk, rfl, q⟩
  | some dx =>
    obtain ⟨fs, ed⟩ := hd dx rfl
    obtain ⟨mA, hns, hr⟩ := exd_at I.hok ed
    obtain ⟨od, ho, hl⟩ := lookIn_ns hns
    have J : PySem.W.InstAt s.heap a _ D (some od) := ⟨ha, rfl, rfl, ho⟩
    exact PySem.W.kia_one (PySem.W.kitx_exc hcl T.hg T.hk T.hs T.ha T.hn T.ht T.hm) I.kIn J e (fun z => nomatch z) fun tk => ⟨.bl b, H, I.tok tk, rfl, q⟩
end
end Xv
namespace Xv
open PySem PySem.Spec PyProof.Rows L2 Evl
/-- at a: an exception of the class at C with one field -/
def Er (H : Hp) (a C : Addr) (f : Str) (v : V) : Prop := ∃ dx : Addr, H a = some (exo a C (some dx)) ∧ H dx = some (exd dx [(f, v)])
theorem Er.mono {H H' : Hp} {a C : Addr} {f : Str} {v : V} (e : Ex H H') (h : Er H a C f v) : Er H' a C f v := by
  obtain ⟨dx, h1, h2⟩ := h
  exact ⟨dx, e _ _ h1, e _ _ h2⟩
/-- x is an exception of the class at C -/
def Ek (H : Hp) (x : V) (C : Addr) : Prop := ∃ (a : Addr) (d : Option Addr), x = .ref a ∧ H a = some (exo a C d) ∧ ∀ dx, d = some dx → ∃ fs, H dx = some (exd dx fs)
theorem Er.ek {H : Hp} {a C : Addr} {f : Str} {v : V} (h : Er H a C f v) : Ek H (.ref a) C := by
  obtain ⟨dx, h1, h2⟩ := h
  exact ⟨a, some dx, rfl, h1, fun d e => by cases e; exact ⟨_, h2⟩⟩
theorem Ek.mono {H H' : Hp} {x : V} {C : Addr} (e : Ex H H') (h : Ek H x C) : Ek H' x C := by
  obtain ⟨a, d, h1, h2, h3⟩ := h
  exact ⟨a, d, h1, e _ _ h2, fun dx q => by obtain ⟨fs, z⟩ := h3 dx q; exact ⟨fs, e _ _ z⟩⟩
def spInitX (C : Addr) (f : Str) : Sp := fun vs H Q _ => ∃ (a : Addr) (v : V), vs = [.ref a, v] ∧ H a = some (exo a C none) ∧ ∀ dx, H dx = none → dx ≠ a → Q .non (upd (upd H dx (exd dx [(f, v)])) a (exo a C (some dx)))
theorem i_mk {C : Addr} {f : Str} {v : V} {H : Hp} {R : Addr → Hp → Prop} (q : ∀ a H2, H a = none → Ex H H2 → Er H2 a C f v → R a H2) :
    [v].length ≤ 1000 ∧ ∀ a, H a = none → spInitX C f (.ref a :: [v]) (upd H a (exo a C none)) (fun u H2 => u = .non ∧ R a H2) (fun _ _ _ => False) := by
  refine ⟨by show 1 ≤ 1000; decide, fun a ha => ⟨a, v, rfl, upd_same, fun dx hd ne => ⟨rfl, q a _ ha (fun b o e => ?_) ⟨dx, upd_same, ?_⟩⟩⟩⟩
  · have nb : b ≠ a := ne_of_none e ha
    have nd : b ≠ dx := ne_of_none (H := upd H a (exo a C none)) (by rw [upd_ne nb]; exact e) hd
    rw [upd_ne nb, upd_ne nd, upd_ne nb]
    exact e
  · rw [upd_ne ne, upd_same]
theorem i_mkV {C : Addr} {sp : Sp} {A : TA} {σ : L2.St} {H : Hp} {Q : VK} (q : A σ H fun vs H1 => vs.length ≤ 1000 ∧ ∀ a, H1 a = none → sp (.ref a :: vs) (upd H1 a (exo a C none)) (fun v H2 => v = .non ∧ Q (.ref a) H2) (fun _ _ _ => False)) : tMkV C sp A σ H Q := q
theorem i_mkV0 {C : Addr} {σ : L2.St} {H : Hp} {Q : VK} (q : ∀ a H2, H a = none → Ex H H2 → Ek H2 (.ref a) C → Q (.ref a) H2) : tMkV0 C σ H Q := fun a ha => q a _ ha (Ex.new ha) ⟨a, none, rfl, upd_same, fun _ e => nomatch e⟩
theorem i_xat {K : PySem.W.Frag} {f : Str} {te : TE} {σ : L2.St} {H : Hp} {Q : VK} (q : te σ H fun x H1 => ∃ (a C dx : Addr) (fs : List (Str × V)) (v : V), x = .ref a ∧ H1 a = some (exo a C (some dx)) ∧ H1 dx = some (exd dx fs) ∧ XfC K C ∧ PySem.W.findIn K (.ref C) f = some none ∧ fs.lookup f = some v ∧ Q v H1) : tXat K f te σ H Q := q
/-- what the written part says of an own exception class that keeps one field -/
structure XC (K : PySem.W.Frag) (C fI : Addr) (f : Str) : Prop where
  oex : OexC K C
  xf : XfC K C
  no : PySem.W.findIn K (.ref C) f = some none
  iC : PySem.W.findIn K (.ref C) "__init__" = some (some (.ref fI))
  tI : PySem.W.typeIn K (.ref fI) = some (.type "function")
theorem i_er {K : PySem.W.Frag} {C fI a : Addr} {f : Str} {v : V} {H : Hp} {R : V → Prop} (T : XC K C fI f) (r : Er H a C f v) (q : R v) : ∃ (a' C' dx : Addr) (fs : List (Str × V)) (v' : V), V.ref a = .ref a' ∧ H a' = some (exo a' C' (some dx)) ∧ H dx = some (exd dx fs) ∧ XfC K C' ∧ PySem.W.findIn K (.ref C') f = some none ∧ fs.lookup f = some v' ∧ R v' := by
  obtain ⟨dx, h1, h2⟩ := r
  exact ⟨a, C, dx, _, v, rfl, h1, h2, T.xf, T.no, by simp [List.lookup], q⟩
theorem ev_er {K : PySem.W.Frag} {C fI a : Addr} {f : Str} {v : V} {H : Hp} {te : TE} {σ : L2.St} (T : XC K C fI f) (h : Ev te σ H (.ref a)) (r : Er H a C f v) : Ev (tXat K f te) σ H v := fun H1 e Q q =>
  h H1 e _ fun H2 e2 => i_er T (r.mono (e.trans e2)) (q H2 e2)
theorem i_isX {K : PySem.W.Frag} {C D : Addr} {x : V} {b : Bool} {H : Hp} {Q : VK} (T : ExcC K D) (r : Ek H x D) (k : PySem.W.kitOne K (.ref D) (.ref C) = some b) (q : Q (.bl b) H) : rIsX K [x, .ref C] H Q := by
  obtain ⟨a, d, rfl, h1, h2⟩ := r
  exact ⟨.ref C, .ref C, b, a, D, d, rfl, .own C, h1, h2, T, k, q⟩
mutual
theorem dp_mono {K : PySem.W.Frag} {H H' : Hp} (e : Ex H H') : ∀ {v : V} {d : PyData}, Dp K H v d → Dp K H' v d
  | _, _, .non => .non
  | _, _, .bl b => .bl b
  | _, _, .int i => .int i
  | _, _, .str x => .str x
  | _, _, .lst h a => .lst (ex_l e h) (dpAll_mono e a)
  | _, _, .tup h a => .tup (ex_t e h) (dpAll_mono e a)
theorem dpAll_mono {K : PySem.W.Frag} {H H' : Hp} (e : Ex H H') : ∀ {vs : List V} {ds : List PyData}, DpAll K H vs ds → DpAll K H' vs ds
  | _, _, .nil => .nil
  | _, _, .cons a b => .cons (dp_mono e a) (dpAll_mono e b)
end
theorem dp_bools {K : PySem.W.Frag} {H : Hp} : ∀ bs : List Bool, DpAll K H (bs.map V.bl) (bs.map PyData.bool)
  | [] => .nil
  | b :: r => .cons (.bl b) (dp_bools r)
theorem dp_ints {K : PySem.W.Frag} {H : Hp} : ∀ bs : List Int, DpAll K H (bs.map V.int) (bs.map PyData.int)
  | [] => .nil
  | b :: r => .cons (.int b) (dp_ints r)
end Xv
namespace Xv
open PySem PySem.Spec PyProof.Rows L2 Evl
theorem et_yes {σ : L2.St} {H : Hp} : EvT tYes σ H true := fun H1 _ _ q => q H1 (Ex.refl H1)
theorem i_eqSame {K : PySem.W.Frag} {x y : V} {d : PyData} {H : Hp} {Q : VK} (h1 : Dp K H x d) (h2 : Dp K H y d) (s : SeqAt.shaped d = true) (q : Q (.bl true) H) : rEqD K x y H Q :=
  ⟨d, d, h1, h2, s, s, by rw [SeqAt.eqv_refl d (SeqAt.canLay_of_shaped s)]; exact q⟩
theorem i_neSame {K : PySem.W.Frag} {x y : V} {d : PyData} {H : Hp} {Q : VK} (h1 : Dp K H x d) (h2 : Dp K H y d) (s : SeqAt.shaped d = true) (q : Q (.bl false) H) : rNeD K x y H Q :=
  ⟨d, d, h1, h2, s, s, by rw [SeqAt.eqv_refl d (SeqAt.canLay_of_shaped s)]; exact q⟩
end Xv
namespace Xv
open PySem PySem.Spec PyProof.Rows L2 Evl
theorem i_isXty {K : PySem.W.Frag} {D : Addr} {x : V} {n : String} {b : Bool} {H : Hp} {Q : VK} (T : ExcC K D) (r : Ek H x D) (k : PySem.W.kitOne K (.ref D) (.type n) = some b) (q : Q (.bl b) H) : rIsX K [x, .ty n] H Q := by
  obtain ⟨a, d, rfl, h1, h2⟩ := r
  exact ⟨.ty n, .type n, b, a, D, d, rfl, .ty n, h1, h2, T, k, q⟩
/-- all but p stands as it stood -/
def But (p : Addr) (H H' : Hp) : Prop := ∀ b, b ≠ p → H' b = H b
theorem But.upd {p : Addr} {H : Hp} {o : HO} : But p H (upd H p o) := fun _ hb => upd_ne hb
theorem But.ex {p : Addr} {H0 H H' : Hp} (b : But p H H') (e : Ex H0 H) (n : H0 p = none) : Ex H0 H' := fun a o h => by rw [b a (ne_of_none h n)]; exact e a o h
theorem But.at {p a : Addr} {H H' : Hp} {o : HO} (b : But p H H') (h : H a = some o) (n : a ≠ p) : H' a = some o := by rw [b a n]; exact h
end Xv

set_option synthInstance.maxHeartbeats 4000000
set_option synthInstance.maxSize 100000
namespace Lw
open PySem L2
def topS (i : Nat) : Stmt := PySem.Challenge.pw_splitalike_k25_whole_rows_rich_in_cuts.main.body.getD i (.Pass ⟨0, 0, 0, 0⟩)
abbrev s_is_name : Stmt := topS 20
theorem sc_is_name : FnScope ["text", "letter"] ["text"] (defScope s_is_name) := ⟨rfl, rfl, rfl, by decide +kernel, rfl, by decide +kernel, by decide +kernel⟩
abbrev s_within : Stmt := topS 21
theorem sc_within : FnScope ["number", "bounds"] ["number", "bounds"] (defScope s_within) := ⟨rfl, rfl, rfl, by decide +kernel, rfl, by decide +kernel, by decide +kernel⟩
abbrev s_are_ways : Stmt := topS 22
theorem sc_are_ways : FnScope ["ways", "values", "way"] ["ways"] (defScope s_are_ways) := ⟨rfl, rfl, rfl, by decide +kernel, rfl, by decide +kernel, by decide +kernel⟩
abbrev s_has_form : Stmt := topS 23
theorem sc_has_form : FnScope ["line", "word"] ["line"] (defScope s_has_form) := ⟨rfl, rfl, rfl, by decide +kernel, rfl, by decide +kernel, by decide +kernel⟩
abbrev s_frozen : Stmt := topS 24
theorem sc_frozen : FnScope ["line", "way"] ["line"] (defScope s_frozen) := ⟨rfl, rfl, rfl, by decide +kernel, rfl, by decide +kernel, by decide +kernel⟩
abbrev s_goals : Stmt := topS 25
theorem sc_goals : FnScope ["line", "_", "name"] ["line"] (defScope s_goals) := ⟨rfl, rfl, rfl, by decide +kernel, rfl, by decide +kernel, by decide +kernel⟩
abbrev s_check_forms : Stmt := topS 26
theorem sc_check_forms : FnScope ["lines", "names", "number", "name", "line"] ["lines"] (defScope s_check_forms) := ⟨rfl, rfl, rfl, by decide +kernel, rfl, by decide +kernel, by decide +kernel⟩
abbrev s_check_goals : Stmt := topS 27
theorem sc_check_goals : FnScope ["lines", "names", "name", "_", "number", "line", "goal"] ["lines"] (defScope s_check_goals) := ⟨rfl, rfl, rfl, by decide +kernel, rfl, by decide +kernel, by decide +kernel⟩
abbrev s_silent_ways : Stmt := topS 28
theorem sc_silent_ways : FnScope ["lines", "name", "line"] ["lines"] (defScope s_silent_ways) := ⟨rfl, rfl, rfl, by decide +kernel, rfl, by decide +kernel, by decide +kernel⟩
abbrev s_reached : Stmt := topS 29
theorem sc_reached : FnScope ["ways", "names", "found", "ahead", "name"] ["ways", "names"] (defScope s_reached) := ⟨rfl, rfl, rfl, by decide +kernel, rfl, by decide +kernel, by decide +kernel⟩
abbrev s_check_rings : Stmt := topS 30
theorem sc_check_rings : FnScope ["lines", "ways", "number", "name", "_"] ["lines"] (defScope s_check_rings) := ⟨rfl, rfl, rfl, by decide +kernel, rfl, by decide +kernel, by decide +kernel⟩
abbrev s_check_begin : Stmt := topS 31
theorem sc_check_begin : FnScope ["lines", "begun", "number", "name", "line"] ["lines"] (defScope s_check_begin) := ⟨rfl, rfl, rfl, by decide +kernel, rfl, by decide +kernel, by decide +kernel⟩
abbrev s_length : Stmt := topS 36
theorem sc_length : FnScope ["kept", "more"] ["kept", "more"] (defScope s_length) := ⟨rfl, rfl, rfl, by decide +kernel, rfl, by decide +kernel, by decide +kernel⟩
abbrev s_is_at_most : Stmt := topS 37
theorem sc_is_at_most : FnScope ["kept", "number"] ["kept", "number"] (defScope s_is_at_most) := ⟨rfl, rfl, rfl, by decide +kernel, rfl, by decide +kernel, by decide +kernel⟩
abbrev s_way : Stmt := topS 38
theorem sc_way : FnScope ["line", "cell", "value", "name"] ["line", "cell"] (defScope s_way) := ⟨rfl, rfl, rfl, by decide +kernel, rfl, by decide +kernel, by decide +kernel⟩
abbrev s_row_of : Stmt := topS 43
theorem sc_row_of : FnScope ["row"] ["row"] (defScope s_row_of) := ⟨rfl, rfl, rfl, by decide +kernel, rfl, by decide +kernel, by decide +kernel⟩
abbrev s_short_row_of : Stmt := topS 44
theorem sc_short_row_of : FnScope ["row", "whole"] ["row"] (defScope s_short_row_of) := ⟨rfl, rfl, rfl, by decide +kernel, rfl, by decide +kernel, by decide +kernel⟩
abbrev s_joined : Stmt := topS 45
theorem sc_joined : FnScope ["pairs", "runs", "count", "cell"] ["pairs"] (defScope s_joined) := ⟨rfl, rfl, rfl, by decide +kernel, rfl, by decide +kernel, by decide +kernel⟩
abbrev s_run : Stmt := topS 48
theorem sc_run : FnScope ["reader", "row", "whole", "machine"] ["reader", "row"] (defScope s_run) := ⟨rfl, rfl, rfl, by decide +kernel, rfl, by decide +kernel, by decide +kernel⟩
abbrev s_cuts : Stmt := topS 49
theorem sc_cuts : FnScope ["reader", "row", "whole"] ["reader", "row"] (defScope s_cuts) := ⟨rfl, rfl, rfl, by decide +kernel, rfl, by decide +kernel, by decide +kernel⟩
abbrev s_shown : Stmt := topS 50
theorem sc_shown : FnScope ["machine", "row", "found", "stand", "end", "count", "cell", "place", "passed", "event"] ["machine", "row"] (defScope s_shown) := ⟨rfl, rfl, rfl, by decide +kernel, rfl, by decide +kernel, by decide +kernel⟩
abbrev s_course_begun : Stmt := topS 51
theorem sc_course_begun : FnScope ["machine"] ["machine"] (defScope s_course_begun) := ⟨rfl, rfl, rfl, by decide +kernel, rfl, by decide +kernel, by decide +kernel⟩
abbrev s_course_over : Stmt := topS 52
theorem sc_course_over : FnScope ["machine", "course", "row", "count", "cell"] ["machine", "course", "row"] (defScope s_course_over) := ⟨rfl, rfl, rfl, by decide +kernel, rfl, by decide +kernel, by decide +kernel⟩
abbrev s_told_of : Stmt := topS 53
theorem sc_told_of : FnScope ["course", "place", "many", "last", "refused", "stand", "end", "inside", "line", "kept", "left"] ["course"] (defScope s_told_of) := ⟨rfl, rfl, rfl, by decide +kernel, rfl, by decide +kernel, by decide +kernel⟩
abbrev s_over_run : Stmt := topS 55
theorem sc_over_run : FnScope ["machine", "course", "count", "cell", "place", "many", "last", "refused", "stand", "end", "begun", "passed", "event", "times"] ["machine", "course", "count", "cell"] (defScope s_over_run) := ⟨rfl, rfl, rfl, by decide +kernel, rfl, by decide +kernel, by decide +kernel⟩
abbrev s_law_draw : Stmt := topS 57
theorem sc_law_draw : FnScope ["_law_pen", "_law_many", "_law_spot", "_law_at", "_law_cell", "_law_mixed"] ["_law_pen", "_law_many"] (defScope s_law_draw) := ⟨rfl, rfl, rfl, by decide +kernel, rfl, by decide +kernel, by decide +kernel⟩
abbrev s_law_pick : Stmt := topS 58
theorem sc_law_pick : FnScope ["_law_pen", "_law_row"] ["_law_pen", "_law_row"] (defScope s_law_pick) := ⟨rfl, rfl, rfl, by decide +kernel, rfl, by decide +kernel, by decide +kernel⟩
abbrev s_law_word : Stmt := topS 59
theorem sc_law_word : FnScope ["_law_pen", "_law_most", "_law_signs", "_law_k"] ["_law_pen", "_law_most"] (defScope s_law_word) := ⟨rfl, rfl, rfl, by decide +kernel, rfl, by decide +kernel, by decide +kernel⟩
abbrev s_law_names : Stmt := topS 60
theorem sc_law_names : FnScope ["_law_pen", "_law_many", "_law_found", "_law_k", "_law_name", "_law_spare", "_law_word_here", "_law_n"] ["_law_pen", "_law_many"] (defScope s_law_names) := ⟨rfl, rfl, rfl, by decide +kernel, rfl, by decide +kernel, by decide +kernel⟩
abbrev s_law_words : Stmt := topS 61
theorem sc_law_words : FnScope ["_law_pen", "_law_many", "_law_looks", "_law_quiet", "_law_words_here", "_law_k"] ["_law_pen", "_law_many"] (defScope s_law_words) := ⟨rfl, rfl, rfl, by decide +kernel, rfl, by decide +kernel, by decide +kernel⟩
abbrev s_law_goal : Stmt := topS 62
theorem sc_law_goal : FnScope ["_law_pen", "_law_words_here", "_law_at", "_law_looks", "_law_spots", "_law_spot", "_law_ends", "_law_near"] ["_law_pen", "_law_words_here", "_law_at"] (defScope s_law_goal) := ⟨rfl, rfl, rfl, by decide +kernel, rfl, by decide +kernel, by decide +kernel⟩
abbrev s_law_ways : Stmt := topS 63
theorem sc_law_ways : FnScope ["_law_pen", "_law_names_here", "_law_words_here", "_law_at", "_law_start", "_law_turn", "_law_values", "_law_k", "_law_value"] ["_law_pen", "_law_names_here", "_law_words_here", "_law_at"] (defScope s_law_ways) := ⟨rfl, rfl, rfl, by decide +kernel, rfl, by decide +kernel, by decide +kernel⟩
abbrev s_law_line : Stmt := topS 64
theorem sc_law_line : FnScope ["_law_pen", "_law_names_here", "_law_words_here", "_law_at", "_law_word_here", "_law_goal_here", "_law_low", "_law_many"] ["_law_pen", "_law_names_here", "_law_words_here", "_law_at"] (defScope s_law_line) := ⟨rfl, rfl, rfl, by decide +kernel, rfl, by decide +kernel, by decide +kernel⟩
abbrev s_law_lines : Stmt := topS 65
theorem sc_law_lines : FnScope ["_law_pen", "_law_most", "_law_few", "_law_words_here", "_law_names_here", "_law_at"] ["_law_pen", "_law_most"] (defScope s_law_lines) := ⟨rfl, rfl, rfl, by decide +kernel, rfl, by decide +kernel, by decide +kernel⟩
abbrev s_law_settle : Stmt := topS 66
theorem sc_law_settle : FnScope ["_law_book", "_law_name", "_law_kept", "_law_is_cut", "_law_k", "_law_line_here", "_law_word_here", "_law_length"] ["_law_book", "_law_name", "_law_kept"] (defScope s_law_settle) := ⟨rfl, rfl, rfl, by decide +kernel, rfl, by decide +kernel, by decide +kernel⟩
abbrev s_law_step : Stmt := topS 67
theorem sc_law_step : FnScope ["_law_book", "_law_state", "_law_cell", "_law_line_here", "_law_kept", "_law_goal_here", "_law_value", "_law_name"] ["_law_book", "_law_state", "_law_cell"] (defScope s_law_step) := ⟨rfl, rfl, rfl, by decide +kernel, rfl, by decide +kernel, by decide +kernel⟩
abbrev s_law_walk : Stmt := topS 68
theorem sc_law_walk : FnScope ["_law_lines_here", "_law_cells", "_law_book", "_law_name", "_law_line_here", "_law_state", "_law_found", "_law_place", "_law_is_cut"] ["_law_lines_here", "_law_cells"] (defScope s_law_walk) := ⟨rfl, rfl, rfl, by decide +kernel, rfl, by decide +kernel, by decide +kernel⟩
abbrev s_law_due : Stmt := topS 69
theorem sc_law_due : FnScope ["_law_found", "_law_cuts_due", "_law_last", "_law_inside"] ["_law_found"] (defScope s_law_due) := ⟨rfl, rfl, rfl, by decide +kernel, rfl, by decide +kernel, by decide +kernel⟩
abbrev s_law_told : Stmt := topS 70
theorem sc_law_told : FnScope ["_law_told_here"] ["_law_told_here"] (defScope s_law_told) := ⟨rfl, rfl, rfl, by decide +kernel, rfl, by decide +kernel, by decide +kernel⟩
abbrev s_law_led : Stmt := topS 71
theorem sc_law_led : FnScope ["_law_pen", "_law_lines_here", "_law_many", "_law_book", "_law_name", "_law_line_here", "_law_state", "_law_cells", "_law_k", "_law_some", "_law_spot", "_law_ways_here", "_law_cell", "_law_good", "_law_at"] ["_law_pen", "_law_lines_here", "_law_many"] (defScope s_law_led) := ⟨rfl, rfl, rfl, by decide +kernel, rfl, by decide +kernel, by decide +kernel⟩
abbrev s_Reader___init : Stmt := inClass (topS 19) 0
theorem sc_Reader___init : FnScope ["self", "lines", "name", "line"] ["self", "lines"] (defScope s_Reader___init) := ⟨rfl, rfl, rfl, by decide +kernel, rfl, by decide +kernel, by decide +kernel⟩
abbrev s_Machine___init : Stmt := inClass (topS 35) 0
theorem sc_Machine___init : FnScope ["self", "reader", "name", "line"] ["self", "reader"] (defScope s_Machine___init) := ⟨rfl, rfl, rfl, by decide +kernel, rfl, by decide +kernel, by decide +kernel⟩
abbrev s_Machine_come : Stmt := inClass (topS 35) 1
theorem sc_Machine_come : FnScope ["self", "name", "kept", "event", "line", "word", "left"] ["self", "name", "kept"] (defScope s_Machine_come) := ⟨rfl, rfl, rfl, by decide +kernel, rfl, by decide +kernel, by decide +kernel⟩
abbrev s_Machine_behind : Stmt := inClass (topS 35) 2
theorem sc_Machine_behind : FnScope ["self", "stand", "cell", "taken", "name", "kept", "_", "line", "word"] ["self", "stand", "cell", "taken"] (defScope s_Machine_behind) := ⟨rfl, rfl, rfl, by decide +kernel, rfl, by decide +kernel, by decide +kernel⟩
abbrev s_Machine_ahead : Stmt := inClass (topS 35) 5
theorem sc_Machine_ahead : FnScope ["self", "stand", "cell", "count", "passed", "seen", "name", "kept", "left", "cells", "event"] ["self", "stand", "cell", "count"] (defScope s_Machine_ahead) := ⟨rfl, rfl, rfl, by decide +kernel, rfl, by decide +kernel, by decide +kernel⟩
abbrev s_Row___init : Stmt := inClass (topS 42) 0
theorem sc_Row___init : FnScope ["self", "cells", "cell"] ["self", "cells"] (defScope s_Row___init) := ⟨rfl, rfl, rfl, by decide +kernel, rfl, by decide +kernel, by decide +kernel⟩
abbrev s_Row_of_runs : Stmt := inClass (topS 42) 1
theorem sc_Row_of_runs : FnScope ["runs", "count", "cell", "row"] ["runs"] (defScope s_Row_of_runs) := ⟨rfl, rfl, rfl, by decide +kernel, rfl, by decide +kernel, by decide +kernel⟩
abbrev s_Row_size : Stmt := inClass (topS 42) 3
theorem sc_Row_size : FnScope ["self", "count", "_"] ["self"] (defScope s_Row_size) := ⟨rfl, rfl, rfl, by decide +kernel, rfl, by decide +kernel, by decide +kernel⟩
abbrev s_Row___mul : Stmt := inClass (topS 42) 8
theorem sc_Row___mul : FnScope ["self", "times", "many", "count", "cell"] ["self", "times"] (defScope s_Row___mul) := ⟨rfl, rfl, rfl, by decide +kernel, rfl, by decide +kernel, by decide +kernel⟩
abbrev s_Told___init : Stmt := inClass (topS 47) 0
theorem sc_Told___init : FnScope ["self", "many", "last", "refused", "inside", "line", "kept", "left"] ["self", "many", "last", "refused", "inside", "line", "kept", "left"] (defScope s_Told___init) := ⟨rfl, rfl, rfl, by decide +kernel, rfl, by decide +kernel, by decide +kernel⟩
abbrev s_law : Stmt := topS 72
theorem sc_law : FnScope ["_law_script", "_law_pen", "_law_turn", "_law_lines_here", "_law_reader", "_law_cells", "_law_row", "_law_found", "_law_twice"] ["_law_script"] (defScope s_law) := ⟨rfl, rfl, rfl, by decide +kernel, rfl, by decide +kernel, by decide +kernel⟩
abbrev tab_ENTRIES : List (Str × Da.D) := [("case", .int 3), ("take", .int 2), ("rest", .int 3), ("cap", .int 3), ("jump", .int 3), ("set", .int 3), ("upto", .int 4), ("skip", .int 3), ("cut", .int 1), ("refuse", .int 1)]
abbrev tab_BOUNDS : List (Str × Da.D) := [("rest", .tup [.int 2, .int 4]), ("cap", .tup [.int 0, .int 5]), ("jump", .tup [.int 1, .int 4]), ("set", .tup [.int 0, .int 5]), ("upto", .tup [.int 0, .int 5]), ("skip", .tup [.int (-3), .int 4])]
structure Tx (w : World) (K : PySem.W.Frag) (mg : Str → Option Value) where
  f_is_name : Addr
  d_is_name : FuncData
  F_is_name : Fun K "is_name" "is_name" s_is_name f_is_name d_is_name
  b_is_name : Binds K d_is_name ["text"] []
  m_is_name : mg "is_name" = some (.ref f_is_name)
  f_within : Addr
  d_within : FuncData
  F_within : Fun K "_within" "_within" s_within f_within d_within
  b_within : Binds K d_within ["number", "bounds"] []
  m_within : mg "_within" = some (.ref f_within)
  f_are_ways : Addr
  d_are_ways : FuncData
  F_are_ways : Fun K "_are_ways" "_are_ways" s_are_ways f_are_ways d_are_ways
  b_are_ways : Binds K d_are_ways ["ways"] []
  m_are_ways : mg "_are_ways" = some (.ref f_are_ways)
  f_has_form : Addr
  d_has_form : FuncData
  F_has_form : Fun K "_has_form" "_has_form" s_has_form f_has_form d_has_form
  b_has_form : Binds K d_has_form ["line"] []
  m_has_form : mg "_has_form" = some (.ref f_has_form)
  f_frozen : Addr
  d_frozen : FuncData
  F_frozen : Fun K "_frozen" "_frozen" s_frozen f_frozen d_frozen
  b_frozen : Binds K d_frozen ["line"] []
  m_frozen : mg "_frozen" = some (.ref f_frozen)
  f_goals : Addr
  d_goals : FuncData
  F_goals : Fun K "_goals" "_goals" s_goals f_goals d_goals
  b_goals : Binds K d_goals ["line"] []
  m_goals : mg "_goals" = some (.ref f_goals)
  f_check_forms : Addr
  d_check_forms : FuncData
  F_check_forms : Fun K "_check_forms" "_check_forms" s_check_forms f_check_forms d_check_forms
  b_check_forms : Binds K d_check_forms ["lines"] []
  m_check_forms : mg "_check_forms" = some (.ref f_check_forms)
  f_check_goals : Addr
  d_check_goals : FuncData
  F_check_goals : Fun K "_check_goals" "_check_goals" s_check_goals f_check_goals d_check_goals
  b_check_goals : Binds K d_check_goals ["lines"] []
  m_check_goals : mg "_check_goals" = some (.ref f_check_goals)
  f_silent_ways : Addr
  d_silent_ways : FuncData
  F_silent_ways : Fun K "_silent_ways" "_silent_ways" s_silent_ways f_silent_ways d_silent_ways
  b_silent_ways : Binds K d_silent_ways ["lines"] []
  m_silent_ways : mg "_silent_ways" = some (.ref f_silent_ways)
  f_reached : Addr
  d_reached : FuncData
  F_reached : Fun K "_reached" "_reached" s_reached f_reached d_reached
  b_reached : Binds K d_reached ["ways", "names"] []
  m_reached : mg "_reached" = some (.ref f_reached)
  f_check_rings : Addr
  d_check_rings : FuncData
  F_check_rings : Fun K "_check_rings" "_check_rings" s_check_rings f_check_rings d_check_rings
  b_check_rings : Binds K d_check_rings ["lines"] []
  m_check_rings : mg "_check_rings" = some (.ref f_check_rings)
  f_check_begin : Addr
  d_check_begin : FuncData
  F_check_begin : Fun K "_check_begin" "_check_begin" s_check_begin f_check_begin d_check_begin
  b_check_begin : Binds K d_check_begin ["lines"] []
  m_check_begin : mg "_check_begin" = some (.ref f_check_begin)
  f_length : Addr
  d_length : FuncData
  F_length : Fun K "_length" "_length" s_length f_length d_length
  b_length : Binds K d_length ["kept", "more"] []
  m_length : mg "_length" = some (.ref f_length)
  f_is_at_most : Addr
  d_is_at_most : FuncData
  F_is_at_most : Fun K "_is_at_most" "_is_at_most" s_is_at_most f_is_at_most d_is_at_most
  b_is_at_most : Binds K d_is_at_most ["kept", "number"] []
  m_is_at_most : mg "_is_at_most" = some (.ref f_is_at_most)
  f_way : Addr
  d_way : FuncData
  F_way : Fun K "_way" "_way" s_way f_way d_way
  b_way : Binds K d_way ["line", "cell"] []
  m_way : mg "_way" = some (.ref f_way)
  f_row_of : Addr
  d_row_of : FuncData
  F_row_of : Fun K "row_of" "row_of" s_row_of f_row_of d_row_of
  b_row_of : Binds K d_row_of ["row"] []
  m_row_of : mg "row_of" = some (.ref f_row_of)
  f_short_row_of : Addr
  d_short_row_of : FuncData
  F_short_row_of : Fun K "short_row_of" "short_row_of" s_short_row_of f_short_row_of d_short_row_of
  b_short_row_of : Binds K d_short_row_of ["row"] []
  m_short_row_of : mg "short_row_of" = some (.ref f_short_row_of)
  f_joined : Addr
  d_joined : FuncData
  F_joined : Fun K "_joined" "_joined" s_joined f_joined d_joined
  b_joined : Binds K d_joined ["pairs"] []
  m_joined : mg "_joined" = some (.ref f_joined)
  f_run : Addr
  d_run : FuncData
  F_run : Fun K "run" "run" s_run f_run d_run
  b_run : Binds K d_run ["reader", "row"] []
  m_run : mg "run" = some (.ref f_run)
  f_cuts : Addr
  d_cuts : FuncData
  F_cuts : Fun K "cuts" "cuts" s_cuts f_cuts d_cuts
  b_cuts : Binds K d_cuts ["reader", "row"] []
  m_cuts : mg "cuts" = some (.ref f_cuts)
  f_shown : Addr
  d_shown : FuncData
  F_shown : Fun K "shown" "shown" s_shown f_shown d_shown
  b_shown : Binds K d_shown ["machine", "row"] []
  m_shown : mg "shown" = some (.ref f_shown)
  f_course_begun : Addr
  d_course_begun : FuncData
  F_course_begun : Fun K "course_begun" "course_begun" s_course_begun f_course_begun d_course_begun
  b_course_begun : Binds K d_course_begun ["machine"] []
  m_course_begun : mg "course_begun" = some (.ref f_course_begun)
  f_course_over : Addr
  d_course_over : FuncData
  F_course_over : Fun K "course_over" "course_over" s_course_over f_course_over d_course_over
  b_course_over : Binds K d_course_over ["machine", "course", "row"] []
  m_course_over : mg "course_over" = some (.ref f_course_over)
  f_told_of : Addr
  d_told_of : FuncData
  F_told_of : Fun K "told_of" "told_of" s_told_of f_told_of d_told_of
  b_told_of : Binds K d_told_of ["course"] []
  m_told_of : mg "told_of" = some (.ref f_told_of)
  f_over_run : Addr
  d_over_run : FuncData
  F_over_run : Fun K "_over_run" "_over_run" s_over_run f_over_run d_over_run
  b_over_run : Binds K d_over_run ["machine", "course", "count", "cell"] []
  m_over_run : mg "_over_run" = some (.ref f_over_run)
  f_law_draw : Addr
  d_law_draw : FuncData
  F_law_draw : Fun K "_law_draw" "_law_draw" s_law_draw f_law_draw d_law_draw
  b_law_draw : Binds K d_law_draw ["_law_pen", "_law_many"] []
  m_law_draw : mg "_law_draw" = some (.ref f_law_draw)
  f_law_pick : Addr
  d_law_pick : FuncData
  F_law_pick : Fun K "_law_pick" "_law_pick" s_law_pick f_law_pick d_law_pick
  b_law_pick : Binds K d_law_pick ["_law_pen", "_law_row"] []
  m_law_pick : mg "_law_pick" = some (.ref f_law_pick)
  f_law_word : Addr
  d_law_word : FuncData
  F_law_word : Fun K "_law_word" "_law_word" s_law_word f_law_word d_law_word
  b_law_word : Binds K d_law_word ["_law_pen", "_law_most"] []
  m_law_word : mg "_law_word" = some (.ref f_law_word)
  f_law_names : Addr
  d_law_names : FuncData
  F_law_names : Fun K "_law_names" "_law_names" s_law_names f_law_names d_law_names
  b_law_names : Binds K d_law_names ["_law_pen", "_law_many"] []
  m_law_names : mg "_law_names" = some (.ref f_law_names)
  f_law_words : Addr
  d_law_words : FuncData
  F_law_words : Fun K "_law_words" "_law_words" s_law_words f_law_words d_law_words
  b_law_words : Binds K d_law_words ["_law_pen", "_law_many"] []
  m_law_words : mg "_law_words" = some (.ref f_law_words)
  f_law_goal : Addr
  d_law_goal : FuncData
  F_law_goal : Fun K "_law_goal" "_law_goal" s_law_goal f_law_goal d_law_goal
  b_law_goal : Binds K d_law_goal ["_law_pen", "_law_words_here", "_law_at"] []
  m_law_goal : mg "_law_goal" = some (.ref f_law_goal)
  f_law_ways : Addr
  d_law_ways : FuncData
  F_law_ways : Fun K "_law_ways" "_law_ways" s_law_ways f_law_ways d_law_ways
  b_law_ways : Binds K d_law_ways ["_law_pen", "_law_names_here", "_law_words_here", "_law_at"] []
  m_law_ways : mg "_law_ways" = some (.ref f_law_ways)
  f_law_line : Addr
  d_law_line : FuncData
  F_law_line : Fun K "_law_line" "_law_line" s_law_line f_law_line d_law_line
  b_law_line : Binds K d_law_line ["_law_pen", "_law_names_here", "_law_words_here", "_law_at"] []
  m_law_line : mg "_law_line" = some (.ref f_law_line)
  f_law_lines : Addr
  d_law_lines : FuncData
  F_law_lines : Fun K "_law_lines" "_law_lines" s_law_lines f_law_lines d_law_lines
  b_law_lines : Binds K d_law_lines ["_law_pen", "_law_most"] []
  m_law_lines : mg "_law_lines" = some (.ref f_law_lines)
  f_law_settle : Addr
  d_law_settle : FuncData
  F_law_settle : Fun K "_law_settle" "_law_settle" s_law_settle f_law_settle d_law_settle
  b_law_settle : Binds K d_law_settle ["_law_book", "_law_name", "_law_kept"] []
  m_law_settle : mg "_law_settle" = some (.ref f_law_settle)
  f_law_step : Addr
  d_law_step : FuncData
  F_law_step : Fun K "_law_step" "_law_step" s_law_step f_law_step d_law_step
  b_law_step : Binds K d_law_step ["_law_book", "_law_state", "_law_cell"] []
  m_law_step : mg "_law_step" = some (.ref f_law_step)
  f_law_walk : Addr
  d_law_walk : FuncData
  F_law_walk : Fun K "_law_walk" "_law_walk" s_law_walk f_law_walk d_law_walk
  b_law_walk : Binds K d_law_walk ["_law_lines_here", "_law_cells"] []
  m_law_walk : mg "_law_walk" = some (.ref f_law_walk)
  f_law_due : Addr
  d_law_due : FuncData
  F_law_due : Fun K "_law_due" "_law_due" s_law_due f_law_due d_law_due
  b_law_due : Binds K d_law_due ["_law_found"] []
  m_law_due : mg "_law_due" = some (.ref f_law_due)
  f_law_told : Addr
  d_law_told : FuncData
  F_law_told : Fun K "_law_told" "_law_told" s_law_told f_law_told d_law_told
  b_law_told : Binds K d_law_told ["_law_told_here"] []
  m_law_told : mg "_law_told" = some (.ref f_law_told)
  f_law_led : Addr
  d_law_led : FuncData
  F_law_led : Fun K "_law_led" "_law_led" s_law_led f_law_led d_law_led
  b_law_led : Binds K d_law_led ["_law_pen", "_law_lines_here", "_law_many"] []
  m_law_led : mg "_law_led" = some (.ref f_law_led)
  z_int : mg "int" = none
  z_len : mg "len" = none
  z_max : mg "max" = none
  z_min : mg "min" = none
  z_range : mg "range" = none
  z_list : mg "list" = none
  z_all : mg "all" = none
  z_tuple : mg "tuple" = none
  z_enumerate : mg "enumerate" = none
  z_isinstance : mg "isinstance" = none
  z_sum : mg "sum" = none
  z_str : mg "str" = none
  t_MOST_LINES : Tok
  m_MOST_LINES : mg "MOST_LINES" = some (.int 8 t_MOST_LINES)
  t_MOST_LETTERS : Tok
  m_MOST_LETTERS : mg "MOST_LETTERS" = some (.int 12 t_MOST_LETTERS)
  t_LETTERS : Tok
  m_LETTERS : mg "LETTERS" = some (.str "abcdefghijklmnopqrstuvwxyz" t_LETTERS)
  a_ENTRIES : Addr
  es_ENTRIES : Array DictEntry
  n_ENTRIES : Nat
  m_ENTRIES : mg "ENTRIES" = some (.ref a_ENTRIES)
  kd_ENTRIES : KDict K w a_ENTRIES es_ENTRIES n_ENTRIES
  v_ENTRIES : ∀ x d, (x, d) ∈ tab_ENTRIES → ∃ v, KDct K w a_ENTRIES x v ∧ ∀ H, Da.Rep K H v d
  a_BOUNDS : Addr
  es_BOUNDS : Array DictEntry
  n_BOUNDS : Nat
  m_BOUNDS : mg "BOUNDS" = some (.ref a_BOUNDS)
  kd_BOUNDS : KDict K w a_BOUNDS es_BOUNDS n_BOUNDS
  v_BOUNDS : ∀ x d, (x, d) ∈ tab_BOUNDS → ∃ v, KDct K w a_BOUNDS x v ∧ ∀ H, Da.Rep K H v d
  o_BOUNDS : ∀ x, x ∈ (["case", "take", "cut", "refuse"] : List Str) → PySem.W.nsIn K a_BOUNDS x = some none
  a_VALUES : Addr
  m_VALUES : mg "VALUES" = some (.ref a_VALUES)
  q_VALUES : ∀ H, Da.Rep K H (.ref a_VALUES) (.tup [.int 0, .int 5])
  a_READING : Addr
  m_READING : mg "READING" = some (.ref a_READING)
  q_READING : ∀ H, Da.Rep K H (.ref a_READING) (.tup [.str "case", .str "take", .str "rest", .str "cap", .str "jump"])
  a_NEVER_FIRST : Addr
  m_NEVER_FIRST : mg "NEVER_FIRST" = some (.ref a_NEVER_FIRST)
  q_NEVER_FIRST : ∀ H, Da.Rep K H (.ref a_NEVER_FIRST) (.tup [.str "cut", .str "skip", .str "refuse"])
  t_CUT : Tok
  m_CUT : mg "CUT" = some (.str "cut" t_CUT)
  t_REFUSE : Tok
  m_REFUSE : mg "REFUSE" = some (.str "refuse" t_REFUSE)
  t_MOST_RUNS : Tok
  m_MOST_RUNS : mg "MOST_RUNS" = some (.int 1000 t_MOST_RUNS)
  t_MOST_CELLS : Tok
  m_MOST_CELLS : mg "MOST_CELLS" = some (.int 1000 t_MOST_CELLS)
  c_Reader : Addr
  m_Reader : mg "Reader" = some (.ref c_Reader)
  cl_Reader : Cls K c_Reader
  ob_Reader : Da.ObjC K c_Reader
  n_Reader_lines : NoAttr K c_Reader "lines"
  f_Reader___init : Addr
  d_Reader___init : FuncData
  F_Reader___init : Fun K "__init__" "Reader.__init__" s_Reader___init f_Reader___init d_Reader___init
  b_Reader___init : Binds K d_Reader___init ["self", "lines"] []
  mk_Reader : Mk K c_Reader f_Reader___init
  c_Machine : Addr
  m_Machine : mg "Machine" = some (.ref c_Machine)
  cl_Machine : Cls K c_Machine
  ob_Machine : Da.ObjC K c_Machine
  n_Machine_lines : NoAttr K c_Machine "lines"
  n_Machine_first : NoAttr K c_Machine "first"
  n_Machine_begin : NoAttr K c_Machine "begin"
  f_Machine___init : Addr
  d_Machine___init : FuncData
  F_Machine___init : Fun K "__init__" "Machine.__init__" s_Machine___init f_Machine___init d_Machine___init
  b_Machine___init : Binds K d_Machine___init ["self", "reader"] []
  mk_Machine : Mk K c_Machine f_Machine___init
  f_Machine_come : Addr
  d_Machine_come : FuncData
  F_Machine_come : Fun K "come" "Machine.come" s_Machine_come f_Machine_come d_Machine_come
  b_Machine_come : Binds K d_Machine_come ["self", "name", "kept"] []
  h_Machine_come : Meth K c_Machine "come" f_Machine_come
  f_Machine_behind : Addr
  d_Machine_behind : FuncData
  F_Machine_behind : Fun K "behind" "Machine.behind" s_Machine_behind f_Machine_behind d_Machine_behind
  b_Machine_behind : Binds K d_Machine_behind ["self", "stand", "cell", "taken"] []
  h_Machine_behind : Meth K c_Machine "behind" f_Machine_behind
  f_Machine_ahead : Addr
  d_Machine_ahead : FuncData
  F_Machine_ahead : Fun K "ahead" "Machine.ahead" s_Machine_ahead f_Machine_ahead d_Machine_ahead
  b_Machine_ahead : Binds K d_Machine_ahead ["self", "stand", "cell", "count"] []
  h_Machine_ahead : Meth K c_Machine "ahead" f_Machine_ahead
  c_Row : Addr
  m_Row : mg "Row" = some (.ref c_Row)
  cl_Row : Cls K c_Row
  ob_Row : Da.ObjC K c_Row
  n_Row_runs : NoAttr K c_Row "runs"
  f_Row___init : Addr
  d_Row___init : FuncData
  dd_Row___init : V
  F_Row___init : FunD K "__init__" "Row.__init__" (defArgs s_Row___init) (defBody s_Row___init) (defScope s_Row___init) [dd_Row___init] [] f_Row___init d_Row___init
  b_Row___init : Binds K d_Row___init ["self", "cells"] []
  du_Row___init : Value
  bd_Row___init : Binds K d_Row___init ["self", "cells"] [du_Row___init]
  vd_Row___init : Vals [dd_Row___init] [du_Row___init]
  df_Row___init : ∀ H, Da.Rep K H dd_Row___init (.tup [])
  mk_Row : Mk K c_Row f_Row___init
  f_Row_of_runs : Addr
  d_Row_of_runs : FuncData
  F_Row_of_runs : Fun K "of_runs" "Row.of_runs" s_Row_of_runs f_Row_of_runs d_Row_of_runs
  b_Row_of_runs : Binds K d_Row_of_runs ["runs"] []
  sc_Row_of_runs : Value
  p_Row_of_runs : Addr
  h_Row_of_runs : Sm.SMet K c_Row sc_Row_of_runs "of_runs" p_Row_of_runs f_Row_of_runs
  f_Row_size : Addr
  d_Row_size : FuncData
  F_Row_size : Fun K "size" "Row.size" s_Row_size f_Row_size d_Row_size
  b_Row_size : Binds K d_Row_size ["self"] []
  p_Row_size : Addr
  h_Row_size : PropOf K c_Row "size" p_Row_size f_Row_size
  f_Row___mul : Addr
  d_Row___mul : FuncData
  F_Row___mul : Fun K "__mul__" "Row.__mul__" s_Row___mul f_Row___mul d_Row___mul
  b_Row___mul : Binds K d_Row___mul ["self", "times"] []
  hs_Row___mul : PySem.W.findIn K (.ref c_Row) "__mul__" = some (some (.ref f_Row___mul))
  hf_Row___mul : PySem.W.isFn K (.ref f_Row___mul) = true
  c_Told : Addr
  m_Told : mg "Told" = some (.ref c_Told)
  cl_Told : Cls K c_Told
  ob_Told : Da.ObjC K c_Told
  n_Told_many : NoAttr K c_Told "many"
  n_Told_last : NoAttr K c_Told "last"
  n_Told_refused : NoAttr K c_Told "refused"
  n_Told_inside : NoAttr K c_Told "inside"
  n_Told_line : NoAttr K c_Told "line"
  n_Told_kept : NoAttr K c_Told "kept"
  n_Told_left : NoAttr K c_Told "left"
  f_Told___init : Addr
  d_Told___init : FuncData
  F_Told___init : Fun K "__init__" "Told.__init__" s_Told___init f_Told___init d_Told___init
  b_Told___init : Binds K d_Told___init ["self", "many", "last", "refused", "inside", "line", "kept", "left"] []
  mk_Told : Mk K c_Told f_Told___init
  kit_int_int : Da.Kit K (.type "int") (.type "int") true
  kit_int_str : Da.Kit K (.type "int") (.type "str") false
  kit_NoneType_int : Da.Kit K (.type "NoneType") (.type "int") false
  kit_list_list : Da.Kit K (.type "list") (.type "list") true
  kit_Row_Row : Da.Kit K (.ref c_Row) (.ref c_Row) true
  kit_list_Row : Da.Kit K (.type "list") (.ref c_Row) false
  kit_tuple_Row : Da.Kit K (.type "tuple") (.ref c_Row) false
  kit_Told_Told : Da.Kit K (.ref c_Told) (.ref c_Told) true
  kit_tuple_Told : Da.Kit K (.type "tuple") (.ref c_Told) false
  rm_Row : PySem.W.findIn K (.ref c_Row) "__rmul__" = some none
  sf_Row : PySem.W.selfFirst K c_Row = true
  nt_Told : PySem.W.notFirst K c_Told (.type "tuple") = true
end Lw

/-! A while loop gone through turn by turn, its facts at hand (own). -/
namespace Wh
open PySem L2
def TW (c : TT) (tb : TS) (D : Ends) (m : Nat) : L2.St → Hp → Prop := fun σ H =>
  c σ H fun b H1 => if b = true then ∃ N : L2.St → Hp → Prop, (∀ σ' H', N σ' H' → ∃ m' : _root_.Fin m, TW c tb D m'.1 σ' H') ∧ tb { D with nx := N, ct := N, bk := D.nx } σ H1 else D.nx σ H1
termination_by m
decreasing_by exact m'.2
theorem tw_eq (c : TT) (tb : TS) (D : Ends) (m : Nat) (σ : L2.St) (H : Hp) : TW c tb D m σ H =
    c σ H fun b H1 => if b = true then ∃ N : L2.St → Hp → Prop, (∀ σ' H', N σ' H' → ∃ m', m' < m ∧ TW c tb D m' σ' H') ∧ tb { D with nx := N, ct := N, bk := D.nx } σ H1 else D.nx σ H1 := by
  have e : ∀ σ' H', (∃ m' : _root_.Fin m, TW c tb D m'.1 σ' H') = (∃ m', m' < m ∧ TW c tb D m' σ' H') := fun σ' H' => propext ⟨fun ⟨m', h⟩ => ⟨m'.1, m'.2, h⟩, fun ⟨m', hl, h⟩ => ⟨⟨m', hl⟩, h⟩⟩
  rw [TW]
  simp only [e]
theorem start {c : TT} {tb : TS} {D : Ends} {σ : L2.St} {H : Hp} (m : Nat) (h : TW c tb D m σ H) : tWhile c tb D σ H :=
  ⟨TW c tb D, ⟨m, h⟩, fun m σ H w => by rw [tw_eq] at w; exact w⟩
/-- one turn -/
theorem turn {c : TT} {tb : TS} {D : Ends} {m : Nat} {σ : L2.St} {H : Hp} (h : c σ H fun b H1 => if b = true then ∃ N : L2.St → Hp → Prop, (∀ σ' H', N σ' H' → ∃ m', m' < m ∧ TW c tb D m' σ' H') ∧ tb { D with nx := N, ct := N, bk := D.nx } σ H1 else D.nx σ H1) : TW c tb D m σ H := by
  rw [tw_eq]
  exact h
/-- the test was true -/
theorem go {c : TT} {tb : TS} {D : Ends} {m : Nat} {σ : L2.St} {H : Hp} {p : Prop} (h : tb { D with nx := TW c tb D m, ct := TW c tb D m, bk := D.nx } σ H) :
    if true = true then ∃ N : L2.St → Hp → Prop, (∀ σ' H', N σ' H' → ∃ m', m' < m + 1 ∧ TW c tb D m' σ' H') ∧ tb { D with nx := N, ct := N, bk := D.nx } σ H else p := by
  rw [if_pos rfl]
  exact ⟨TW c tb D m, fun _ _ h => ⟨m, Nat.lt_succ_self m, h⟩, h⟩
theorem go1 {c : TT} {tb : TS} {D : Ends} {m : Nat} {σ : L2.St} {H : Hp} (h : tb { D with nx := TW c tb D m, ct := TW c tb D m, bk := D.nx } σ H) :
    ∃ N : L2.St → Hp → Prop, (∀ σ' H', N σ' H' → ∃ m', m' < m + 1 ∧ TW c tb D m' σ' H') ∧ tb { D with nx := N, ct := N, bk := D.nx } σ H :=
  ⟨TW c tb D m, fun _ _ h => ⟨m, Nat.lt_succ_self m, h⟩, h⟩
/-- the same, the loop's own text kept out of the goals -/
theorem startW {c : TT} {tb : TS} {D : Ends} {σ : L2.St} {H : Hp} (m : Nat) (h : ∀ W : Nat → L2.St → Hp → Prop, (∀ k σ H, (c σ H fun b H1 => if b = true then ∃ N : L2.St → Hp → Prop, (∀ σ' H', N σ' H' → ∃ m', m' < k + 1 ∧ W m' σ' H') ∧ tb { D with nx := N, ct := N, bk := D.nx } σ H1 else D.nx σ H1) → W (k + 1) σ H) → W m σ H) : tWhile c tb D σ H :=
  start m (h (TW c tb D) fun _ _ _ q => turn q)
theorem goW {tb : TS} {D : Ends} {m : Nat} {σ : L2.St} {H : Hp} {W : Nat → L2.St → Hp → Prop} (h : tb { D with nx := W m, ct := W m, bk := D.nx } σ H) :
    ∃ N : L2.St → Hp → Prop, (∀ σ' H', N σ' H' → ∃ m', m' < m + 1 ∧ W m' σ' H') ∧ tb { D with nx := N, ct := N, bk := D.nx } σ H :=
  ⟨W m, fun _ _ h => ⟨m, Nat.lt_succ_self m, h⟩, h⟩
theorem i_seqM {s1 s2 : TS} {f b c : L2.St → Hp → Prop} {r : VK} {σ : L2.St} {H : Hp} (q : s1 ⟨s2 ⟨f, r, b, c⟩, r, b, c⟩ σ H) : tSeq s1 s2 ⟨f, r, b, c⟩ σ H := q
/-- the list with another thing at a place, written out -/
class SetC {α : Type} (l : List α) (i : Nat) (v : α) (l' : outParam (List α)) : Prop where
  is : l.set i v = l'
instance {α : Type} {x v : α} {t : List α} : SetC (x :: t) 0 v (v :: t) := ⟨rfl⟩
instance {α : Type} {x v : α} {t t' : List α} {i : Nat} [h : SetC t i v t'] : SetC (x :: t) (i + 1) v (x :: t') := ⟨congrArg (List.cons _) h.is⟩
theorem i_nameS {i : Nat} {v : V} {σ σ' : L2.St} {H : Hp} {QS : L2.St → Hp → Prop} [r : SetC σ i (some v) σ'] (q : QS σ' H) : gName i v σ H QS := by
  show QS (σ.set i (some v)) H
  rw [r.is]
  exact q
theorem i_set2 {σ σ1 σ2 : L2.St} {i j : Nat} {v w : Option V} {F : L2.St → Hp → Prop} {H : Hp} [r1 : SetC σ i v σ1] [r2 : SetC σ1 j w σ2] (q : F σ2 H) : F ((σ.set i v).set j w) H := by
  rw [r1.is, r2.is]
  exact q
/-! ### guards: a rule is tried where its head stands -/
section
variable {K : PySem.W.Frag} {σ : L2.St} {H : Hp} {Q : VK}
theorem g_ixL {x : V} {i : V} (q : rIxL K x i H Q) : rIxL K x i H Q := q
theorem g_ixT {x : V} {i : V} (q : rIxT K x i H Q) : rIxT K x i H Q := q
theorem g_setL {x i v : V} {QH : Hp → Prop} (q : rSetL x i v H QH) : rSetL x i v H QH := q
theorem g_gtup {n : Nat} {tg : TGs} {v : V} {QS : L2.St → Hp → Prop} (q : gTup K n tg v σ H QS) : gTup K n tg v σ H QS := q
theorem g_ite {c : Bool} {a b : Prop} (q : if c = true then a else b) : if c = true then a else b := q
theorem g_len {v : V} {R : List V → Prop} (q : ∃ p ys, [v] = [V.ref p] ∧ (SqL K H p ys ∨ SqT K H p ys) ∧ R ys) : ∃ p ys, [v] = [V.ref p] ∧ (SqL K H p ys ∨ SqT K H p ys) ∧ R ys := q
theorem g_tyL {v : V} {R : Prop} (q : tyV K "list" v H ∧ R) : tyV K "list" v H ∧ R := q
theorem g_tup {v : V} (q : Nr.rTup K [v] H Q) : Nr.rTup K [v] H Q := q
theorem g_rI {C : Int → Int → Prop} {g : Int → Int → V} {x y : V} (q : rI C g x y H Q) : rI C g x y H Q := q
theorem g_rEq {x y : V} (q : rEq x y H Q) : rEq x y H Q := q
theorem g_rNe {x y : V} (q : rNe x y H Q) : rNe x y H Q := q
theorem g_var {i : Nat} (q : tVar i σ H Q) : tVar i σ H Q := q
end
end Wh

namespace Lw
open PySem L2
local macro_rules | `(tactic| walk_at "rd1") => `(tactic| first
  | (with_reducible refine Wh.i_seqM ?_) | (with_reducible refine Rd.i_seq ?_) | (with_reducible refine Rd.i_asg ?_) | (with_reducible refine Wh.i_nameS ?_) | (with_reducible refine Rd.i_name ?_) | (with_reducible refine Rd.i_nx ?_) | (with_reducible refine Rd.i_rt ?_) | (with_reducible refine Rd.i_next ?_) | (with_reducible refine Rd.i_ct ?_) | (with_reducible refine Rd.i_bk ?_)
  | (with_reducible refine Rd.i_ret ?_) | (with_reducible refine Rd.i_drop ?_) | (with_reducible refine Rd.i_ifS ?_) | (with_reducible refine Rd.i_sub ?_)
  | ((with_reducible refine Wh.g_var ?_); (with_reducible refine Rd.i_var (by with_unfolding_all exact rfl) ?_)) | (with_reducible refine Rd.i_c ?_) | (with_reducible refine Rd.i_op ?_) | (with_reducible refine Rd.i_un ?_)
  | (with_reducible refine Rd.i_rI0 ?_) | ((with_reducible refine Wh.g_rI ?_); (with_reducible refine Rd.i_rI (by with_unfolding_all first | omega | exact Rd.mulL (by omega) (by omega) | exact Rd.mulR (by omega) (by omega) | decide | (refine ⟨?_, ?_⟩ <;> omega) | (refine ⟨?_, ?_, ?_⟩ <;> omega)) ?_))
  | ((with_reducible refine Wh.g_rEq ?_); (with_reducible refine Rd.i_rEq (by with_unfolding_all exact rfl) ?_)) | ((with_reducible refine Wh.g_rNe ?_); (with_reducible refine Rd.i_rNe (by with_unfolding_all exact rfl) ?_))
  | (with_reducible refine Rd.i_test ?_) | (with_reducible refine Rd.i_tB ?_) | (with_reducible refine Rd.i_bl ?_) | (with_reducible refine Rd.i_and ?_) | (with_reducible refine Rd.i_or ?_) | (with_reducible refine Rd.i_not ?_) | (with_reducible refine Rd.i_notV ?_) | (with_reducible refine Rd.i_andV ?_) | (with_reducible refine Rd.i_orV ?_) | (with_reducible refine Rd.i_if ?_) | (with_reducible refine Rd.i_chain ?_)
  | (with_reducible refine Rd.i_call ?_) | (with_reducible refine Rd.i_nil ?_) | (with_reducible refine Rd.i_cons ?_) | (with_reducible refine Rd.i_cb ?_) | (with_reducible refine Rd.i_bm ?_) | (with_reducible refine Rd.i_bm0 ?_) | (with_reducible refine Rd.i_tup ?_) | (with_reducible refine Rd.i_lst ?_)
  | (with_reducible refine Rd.i_int1 ?_) | (with_reducible refine Rd.i_intb ?_) | (with_reducible refine Rd.i_max ?_)
  | ((with_reducible refine Wh.g_ixL ?_); (with_reducible refine Rd.i_ixL (SqL.of (by first | assumption | exact upd_same)) (by with_unfolding_all first | exact rfl | exact atI_nat rfl) ?_)) | ((with_reducible refine Wh.g_ixT ?_); (with_reducible refine Rd.i_ixT (SqT.of (by first | assumption | exact upd_same)) (by with_unfolding_all exact rfl) ?_))
  | ((with_reducible refine Wh.g_setL ?_); (with_reducible refine Rd.i_setL (by first | assumption | exact upd_same) (by with_unfolding_all exact rfl) ?_))
  | (with_reducible refine Xv.i_mkV ?_) | (with_reducible refine Xv.i_xat ?_)
  | (with_reducible refine Rd.i_yes ?_) | (with_reducible refine Rd.i_m1 ?_) | (with_reducible refine Rd.i_m0 ?_) | (with_reducible refine Rd.ite_T ?_) | (with_reducible refine Rd.ite_F ?_) | (with_reducible refine Rd.i_forR ?_) | (with_reducible refine Rd.i_forL ?_) | (with_reducible refine Rd.i_forT ?_)
  | (with_reducible refine Hd.i_rU ?_) | (with_reducible refine Hd.i_pcons ?_) | (with_reducible refine Hd.i_pnil ?_) | (with_reducible refine Hd.i_disp ?_) | (with_reducible refine Hd.i_dget ?_)
  | (with_reducible refine Hd.i_lstRg ?_) | (with_reducible refine Hd.i_rg1 ?_) | (with_reducible refine Hd.i_rg2 ?_) | (with_reducible refine Hd.i_ex1 ?_) | (with_reducible refine Hd.i_ex2 ?_)
  | ((with_reducible refine Wh.g_gtup ?_); (with_reducible refine Rd.i_gtup (SqT.of (by first | assumption | exact upd_same)) (by with_unfolding_all exact rfl) ?_)) | (with_reducible refine Rd.i_gcons ?_) | (with_reducible refine Rd.i_gnil ?_)
  | ((with_reducible refine Wh.g_len ?_); (with_reducible refine Rd.i_lenT (SqT.of (by first | assumption | exact upd_same)) ?_)) | ((with_reducible refine Wh.g_len ?_); (with_reducible refine Rd.i_len (SqL.of (by first | assumption | exact upd_same)) ?_))
  | ((with_reducible refine Wh.g_ite ?_); (with_reducible refine Nr.ite_eF (by first | decide +kernel | with_unfolding_all exact rfl) ?_)) | ((with_reducible refine Wh.g_ite ?_); (with_reducible refine Nr.ite_eT (by first | decide +kernel | with_unfolding_all exact rfl) ?_))
  | ((with_reducible refine Wh.g_tyL ?_); (with_reducible refine Nr.i_tyL (by first | assumption | exact upd_same) ?_))
  | ((with_reducible refine Wh.g_tup ?_); (with_reducible refine Nr.i_tupT (SqT.of (by first | assumption | exact upd_same)) ?_))
  | (with_reducible refine Nr.i_sl ?_) | (with_reducible refine Nr.i_part ?_) | (with_reducible refine Nr.i_nop ?_) | (with_reducible refine Nr.i_star ?_)
  | fail "stop")
local macro_rules | `(tactic| walk_at "rd") => `(tactic| repeat walk_at "rd1")
section
variable {P : Program} {w : World} {K : PySem.W.Frag} {mg : Str → Option Value} {base : Heap}
open Evl Hd
def spDraw0 : Sp := fun vs H Q _ => ∃ (p q : Addr) (m s : Int), vs = [.ref p, .int m] ∧ Pen H p q s ∧ s < 1099511627776 ∧ 0 < m ∧ m < 1606938044258990275541962092341162602522202993782792835301376 ∧ ∀ r H', 0 ≤ r → r < m → Pen H' p q (s + 1) → But2 p q H H' → Q (.int r) H'
theorem ok_law_draw0 (T : Tx w K mg) : FnOk P w K mg base CX0 1 T.f_law_draw T.d_law_draw ["_law_pen", "_law_many"] spDraw0 := by
  refine T.F_law_draw.ok sc_law_draw (fun vs H Q E h => ?_) (fun cdv A outer s H vs Q E hr h => ?_)
  · obtain ⟨p, q, m, s, rfl, _⟩ := h
    rfl
  · obtain ⟨p, q, m, z, rfl, hpen, hz, m0, m1, k⟩ := h
    obtain ⟨z0, ns, hp, hq, hn, hn2⟩ := id hpen
    have hpq := hpen.ne
    refine ⟨_, (pss_cons (ps_set (i := 2) sc_law_draw.nd rfl (Or.inl rfl) (pe_ix ix_list (pv 0) pe_int (fun _ _ => rfl)))
      (pss_cons (ps_asg (pe_op op_add (pv 2) pe_int) (pg_sub (pv 0) pe_int set_list))
      (pss_cons (ps_set (i := 3) sc_law_draw.nd rfl (Or.inl rfl) (pe_op op_modN (pe_callTy call_int1 (by rfl) T.z_int (by decide +kernel) (pa_cons (pv 2) pa_nil)) (pe_callB call_len_seq (by rfl) T.z_len (by decide +kernel) (pa_cons (pe_ix ix_list (pv 0) pe_int (fun _ _ => rfl)) pa_nil))))
      (pss_cons (ps_set (i := 4) sc_law_draw.nd rfl (Or.inl rfl) (pe_callTy call_int1 (by rfl) T.z_int (by decide +kernel) (pa_cons (pe_ix ix_list (pe_ix ix_list (pv 0) pe_int (fun _ _ => rfl)) (pv 3) (fun _ _ => rfl)) pa_nil)))
      (pss_cons (ps_if (pt_cmpR op_ge (pv 4) (pe_op op_pow pe_int pe_int) (nomark _))
        (pss_cons (ps_asg (pe_op op_fdivW (pv 4) (pv 1)) (pg_sub (pe_ix ix_list (pv 0) pe_int (fun _ _ => rfl)) (pv 3) set_list))
        (pss_one (ps_ret (pe_op op_modN (pe_callTy call_int1 (by rfl) T.z_int (by decide +kernel) (pa_cons (pv 4) pa_nil)) (pv 1)))))
        pss_nil)
      (pss_cons (ps_set (i := 5) sc_law_draw.nd rfl (Or.inl rfl) (pe_op op_pow (pe_callTy call_int1 (by rfl) T.z_int (by decide +kernel) (pa_cons (pe_op op_add (pe_op op_add (pe_op op_mul (pe_op op_modN (pe_callTy call_int1 (by rfl) T.z_int (by decide +kernel) (pa_cons (pv 4) pa_nil)) pe_int) pe_int) (pe_op op_mul (pv 2) pe_int)) pe_int) pa_nil)) pe_int))
      (pss_one (ps_ret (pe_op op_modN (pe_op op_fdivN (pe_callTy call_int1 (by rfl) T.z_int (by decide +kernel) (pa_cons (pe_op op_modN (pe_callTy call_int1 (by rfl) T.z_int (by decide +kernel) (pa_cons (pv 5) pa_nil)) pe_int) pa_nil)) pe_int) (pv 1)))))))))), ?_⟩
    walk_at "rd"
    have hq1 : upd H p (.lst ([V.ref q, .int z].set (Int.toNat 1) (.int (z + 1)))) q = some (.lst (ns.map V.int)) := by rw [upd_ne (Ne.symm hpq)]; exact hq
    have hl0 : 0 < ns.length := List.length_pos_iff.mpr hn
    have hlen : (List.map V.int ns).length = ns.length := List.length_map _
    refine Rd.i_len (SqL.of hq1) ?_
    walk_at "rd"
    obtain ⟨j, hj, ej⟩ : ∃ j : Nat, j < ns.length ∧ z.fmod ((List.map V.int ns).length : Int) = (j : Int) := by
      have h1 := Int.fmod_nonneg_of_pos z (b := ((List.map V.int ns).length : Int)) (by omega)
      have h2 := Int.fmod_lt_of_pos z (b := ((List.map V.int ns).length : Int)) (by omega)
      exact ⟨(z.fmod ((List.map V.int ns).length : Int)).toNat, by omega, by omega⟩
    rw [ej]
    have hc : (List.map V.int ns)[j]? = some (V.int (ns[j]'hj)) := by rw [List.getElem?_map, List.getElem?_eq_getElem hj]; rfl
    generalize ns[j]'hj = c at hc
    walk_at "rd"
    refine Rd.i_ixL (SqL.of hq1) (atI_nat hc) ?_
    walk_at "rd"
    refine Rd.ite_d (fun _ => ?_) (fun _ => ?_)
    · walk_at "rd"
      refine ⟨c, m, rfl, rfl, ⟨m0, Nat.lt_of_lt_of_le (log2_small (k := 200) (by omega) (by decide)) (by decide)⟩, ?_⟩
      walk_at "rd"
      refine Rd.i_setL hq1 (Evl.ixN_nat (by omega)) ?_
      walk_at "rd"
      refine k _ _ (Int.fmod_nonneg_of_pos _ m0) (Int.fmod_lt_of_pos _ m0) ⟨by omega, ns.set j (c / m), ?_, ?_, ?_, ?_⟩ ?_
      · rw [upd_ne hpq]; exact upd_same
      · rw [List.map_set]; exact upd_same
      · intro e
        have := congrArg List.length e
        rw [List.length_set] at this
        simp only [List.length_nil] at this
        omega
      · rw [List.length_set]; exact hn2
      · intro b b1 b2
        rw [upd_ne b2, upd_ne b1]
    · have f1 : 0 ≤ c.fmod 1000000007 := Int.fmod_nonneg_of_pos c (by decide)
      have f2 : c.fmod 1000000007 < 1000000007 := Int.fmod_lt_of_pos c (by decide)
      walk_at "rd"
      exact k _ _ (Int.fmod_nonneg_of_pos _ m0) (Int.fmod_lt_of_pos _ m0) ⟨by omega, ns, upd_same, hq1, hn, hn2⟩ (fun b b1 b2 => upd_ne b1)
theorem ok_law_draw (T : Tx w K mg) : FnOk P w K mg base CX0 1 T.f_law_draw T.d_law_draw ["_law_pen", "_law_many"] (Da.upSp K (Da.sp2 Da.dDraw)) :=
  (ok_law_draw0 T).imp fun _ _ _ _ h => Da.draw_up h
end
end Lw

set_option pp.maxSteps 500
namespace Lw
open PySem L2
open Evl Da
local macro_rules
  | `(tactic| walk_at "f") => `(tactic| first | exact lookF_put | exact lookF_hit | exact (lookF_skip (by decide +kernel) lookF_hit) | exact (lookF_skip (by decide +kernel) (lookF_skip (by decide +kernel) lookF_hit)) | exact (lookF_skip (by decide +kernel) (lookF_skip (by decide +kernel) (lookF_skip (by decide +kernel) lookF_hit))) | exact (lookF_skip (by decide +kernel) (lookF_skip (by decide +kernel) (lookF_skip (by decide +kernel) (lookF_skip (by decide +kernel) lookF_hit)))) | exact (lookF_skip (by decide +kernel) (lookF_skip (by decide +kernel) (lookF_skip (by decide +kernel) (lookF_skip (by decide +kernel) (lookF_skip (by decide +kernel) lookF_hit))))) | exact (lookF_skip (by decide +kernel) (lookF_skip (by decide +kernel) (lookF_skip (by decide +kernel) (lookF_skip (by decide +kernel) (lookF_skip (by decide +kernel) (lookF_skip (by decide +kernel) lookF_hit)))))) | ((refine lookF_other (by decide +kernel) ?_); walk_at "f") | ((refine lookF_skip (by decide +kernel) ?_); walk_at "f"))
  | `(tactic| walk_at "fl") => `(tactic| first | exact Nat.zero_lt_succ _ | ((refine putFD_lt ?_); walk_at "fl"))
  | `(tactic| walk_at "a") => `(tactic| first | exact le1000 (Nat.le_of_ble_eq_true rfl) | exact rfl | decide +kernel | exact And.intro (by with_reducible assumption) (by with_reducible assumption) | exact And.intro (And.intro (by with_reducible assumption) (by with_reducible assumption)) (by walk_at "fl"))
  | `(tactic| walk_at "w") => `(tactic| ((conv => whnf); repeat ((first | ((with_reducible refine And.intro ?_ ?_); (focus (walk_at "a"))) | ((with_reducible refine Br.yes ?_ ?_); (focus (first | exact rfl | decide +kernel))) | ((with_reducible refine Br.no ?_ ?_); (focus (first | exact rfl | decide +kernel))) | ((with_reducible refine ex_fld ?_); (refine fld_w (by walk_at "f") ?_)) | ((with_reducible refine ex_at ?_); (refine at_w rfl ?_))); (conv => whnf))))
  | `(tactic| walk_at "n") => `(tactic| ((try dsimp only [st0, st1, S.at, S.drop, S.own, S.put, S.frz, Src.n] at *); omega))
  | `(tactic| walk_at "draw") => `(tactic| ((try walk_at "w"); (refine i_draw ⟨by walk_at "n", by walk_at "n", by walk_at "n"⟩ ?_)))
section
variable {P : Program} {w : World} {K : PySem.W.Frag} {mg : Str → Option Value} {base : Heap}
def IsPen (pn : Option (Addr × Addr)) (a : D) : Prop := ∃ p q, pn = some (p, q) ∧ a = .val (.ref p)
theorem at_int {ds : List D} {r : Int} (h0 : 0 ≤ r) (h1 : r < ds.length) : ∃ d, ds[r.toNat]? = some d ∧ atI ds r = some d := by
  obtain ⟨k, rfl⟩ : ∃ k : Nat, r = (k : Int) := ⟨r.toNat, by omega⟩
  have h : k < ds.length := by omega
  exact ⟨ds[k], List.getElem?_eq_getElem h, atI_nat (List.getElem?_eq_getElem h)⟩
@[irreducible] def dPick : R2' := fun pn a b n Q _ => IsPen pn a ∧ ∃ ds : List D, b = .lst ds ∧ (n < 549755813888 ∧ 0 < ds.length ∧ ds.length < 1000000) ∧ (∀ d ∈ ds, NoL d) ∧ ∀ (d : D), d ∈ ds → Q d (n + 1)
theorem ok_law_pick (T : Tx w K mg) : FnOk P w K mg base CX0 2 T.f_law_pick T.d_law_pick ["_law_pen", "_law_row"] (Da.upSp K (sp2 dPick)) := by
  refine T.F_law_pick.ok sc_law_pick (fun vs H Q E h => Da.up_len2 h) (fun cdv A outer s H vs Q E hr h => ?_)
  refine ⟨_, (pss_one (ps_ret (pe_ix (Da.ixK (K := K) rfl) (pv 1) (pe_call (ok_law_draw T) (hr.mono (by decide)) rfl T.m_law_draw T.F_law_draw.kp T.b_law_draw .nil pass0 (pa_cons (pv 0) (pa_cons (pe_callB (Da.lenK (K := K) rfl) (by rfl) T.z_len (by decide +kernel) (pa_cons (pv 1) pa_nil)) pa_nil))) (fun _ _ => rfl)))), Da.go_up2 h ?_⟩
  intro pn a b n Q _ h
  unfold dPick at h
  obtain ⟨⟨p, q, rfl, rfl⟩, ds, rfl, ⟨n1, n2, n3⟩, hn, h⟩ := h
  walk_at "draw"
  intro r r0 r1
  obtain ⟨d, e1, e2⟩ := at_int r0 r1
  walk_at "w"
  refine ⟨d, e2, ?_⟩
  have hd := List.mem_of_getElem? e1
  cases d with
  | loc a k => exact absurd rfl (hn _ hd a k)
  | _ => exact h _ hd
theorem i_pickS {p q : Addr} {n : Nat} {ns : List Str} {Q : D → Nat → Prop} {X : XD} (h : n < 549755813888 ∧ 0 < ns.length ∧ ns.length < 1000000) (k : ∀ x ∈ ns, Q (.str x) (n + 1)) : dPick (some (p, q)) (.val (.ref p)) (.lst (ns.map D.str)) n Q X := by
  unfold dPick
  exact ⟨⟨p, q, rfl, rfl⟩, _, rfl, (by rw [List.length_map]; exact h), (fun d hd a b e => by
    obtain ⟨x, _, rfl⟩ := List.mem_map.mp hd
    cases e), (fun d hd => by
    obtain ⟨x, hx, rfl⟩ := List.mem_map.mp hd
    exact k x hx)⟩
theorem i_pickI {p q : Addr} {n : Nat} {ns : List Int} {Q : D → Nat → Prop} {X : XD} (h : n < 549755813888 ∧ 0 < ns.length ∧ ns.length < 1000000) (k : ∀ x ∈ ns, Q (.int x) (n + 1)) : dPick (some (p, q)) (.val (.ref p)) (.lst (ns.map D.int)) n Q X := by
  unfold dPick
  exact ⟨⟨p, q, rfl, rfl⟩, _, rfl, (by rw [List.length_map]; exact h), (fun d hd a b e => by
    obtain ⟨x, _, rfl⟩ := List.mem_map.mp hd
    cases e), (fun d hd => by
    obtain ⟨x, hx, rfl⟩ := List.mem_map.mp hd
    exact k x hx)⟩
theorem sum_ones : ∀ cs : List Nat, ((cs.map fun c => (⟨#[c]⟩ : Str)).map (·.length)).sum = cs.length
  | [] => rfl
  | c :: r => by rw [List.map_cons, List.map_cons, List.sum_cons, sum_ones r, List.length_cons, Nat.add_comm]; rfl
@[irreducible] def dWord : R2' := fun pn a b n Q _ => IsPen pn a ∧ ∃ m : Int, b = .int m ∧ (n < 549755813000 ∧ 0 < m ∧ m ≤ 12) ∧ ∀ (x : Str) n', AZ x → 1 ≤ x.length → (x.length : Int) ≤ m → n' ≤ n + 20 → Q (.str x) n'
theorem ok_law_word (T : Tx w K mg) : FnOk P w K mg base CX0 2 T.f_law_word T.d_law_word ["_law_pen", "_law_most"] (Da.upSp K (sp2 dWord)) := by
  refine T.F_law_word.ok sc_law_word (fun vs H Q E h => Da.up_len2 h) (fun cdv A outer s H vs Q E hr h => ?_)
  refine ⟨_, (pss_cons (ps_set (i := 2) sc_law_word.nd rfl (Or.inr rfl) pe_str)
      (pss_one (ps_ret (Da.joinK (K := K) rfl pe_str (pe_lc rfl sc_law_word.nd (pi_range1 (by rfl) T.z_range (pa_cons (pe_op (Da.addK (K := K) rfl) pe_int (pe_call (ok_law_draw T) (hr.mono (by decide)) rfl T.m_law_draw T.F_law_draw.kp T.b_law_draw .nil pass0 (pa_cons (pv 0) (pa_cons (pv 1) pa_nil)))) pa_nil)) (blkOk_by (own := [("_law_k", 3)]) (N := ["_law_pen", "_law_most", "_law_signs", "_law_k"]) (sc := defScope s_law_word) (by decide +kernel)) (fun _ _ _ _ _ => (pg_name (i := 3) sc_law_word.nd rfl (Or.inl rfl))) (fun _ _ _ _ _ => pts_nil) (fun _ _ _ _ _ => (pe_ix (Da.ixK (K := K) rfl) (pv 2) (pe_call (ok_law_draw T) (hr.mono (by decide)) rfl T.m_law_draw T.F_law_draw.kp T.b_law_draw .nil pass0 (pa_cons (pv 0) (pa_cons pe_int pa_nil))) (fun _ _ => rfl)))))))), Da.go_up2 h ?_⟩
  intro pn a b n Q _ h
  unfold dWord at h
  obtain ⟨⟨p, q, rfl, rfl⟩, m, rfl, ⟨n1, n2, n3⟩, h⟩ := h
  walk_at "draw"
  intro r r0 r1
  walk_at "w"
  refine ⟨by walk_at "n", lc_inv (fun i acc s => ∃ (cs : List Nat) (n' : Nat), acc = cs.map (fun c => .str ⟨#[c]⟩) ∧ s = st0 n' (some (p, q)) ∧ n' ≤ n + 1 + i ∧ cs.length = i ∧ ∀ c ∈ cs, 97 ≤ c ∧ c ≤ 122) ?_ ?_ ?_ ?_⟩
  · exact le1000 (by walk_at "n")
  · exact ⟨[], n + 1, rfl, rfl, by omega, rfl, fun _ h => nomatch h⟩
  · rintro i d acc s hi hd hl ⟨cs, n', rfl, rfl, h1, h2, h3⟩
    dsimp only [Src.n] at hi
    walk_at "w"
    walk_at "draw"
    intro c c0 c1
    walk_at "w"
    refine ⟨97 + c.toNat, ?_, by decide, ?_⟩
    · have e : c = ((c.toNat : Nat) : Int) := by omega
      rw [e]
      exact atI_nat (abc_at ⟨c.toNat, by omega⟩)
    · refine ⟨cs ++ [97 + c.toNat], n' + 1, by rw [List.map_append]; rfl, rfl, by omega, by simp [h2], fun x hx => ?_⟩
      rcases List.mem_append.mp hx with hx | hx
      · exact h3 x hx
      · rw [List.mem_singleton] at hx
        omega
  · rintro acc s hl ⟨cs, n', rfl, rfl, h1, h2, h3⟩
    dsimp only [Src.n] at h1 h2
    walk_at "w"
    refine ⟨cs.map fun c => ⟨#[c]⟩, by rw [List.map_map]; rfl, ?_, ?_⟩
    · rw [sum_ones, List.length_map]
      show cs.length + cs.length * 0 ≤ 16777216
      omega
    · rw [Hd.join_signs]
      have hsz : (⟨cs.toArray⟩ : Str).length = cs.length := by show cs.toArray.size = _; simp
      exact h _ n' (fun c hc => h3 c (by simpa using hc)) (by rw [hsz]; omega) (by rw [hsz]; omega) (by omega)
@[irreducible] def dWords : R2' := fun pn a b n Q _ => IsPen pn a ∧ ∃ m : Nat, b = .int m ∧ (n < 549755813000 ∧ 1 ≤ m ∧ m ≤ 8) ∧ ∀ (ws : List Str) n', ws.length = m → Wds ws → n' ≤ n + 100 → Q (.lst (ws.map D.str)) n'
theorem ok_law_words (T : Tx w K mg) : FnOk P w K mg base CX0 3 T.f_law_words T.d_law_words ["_law_pen", "_law_many"] (Da.upSp K (sp2 dWords)) := by
  refine T.F_law_words.ok sc_law_words (fun vs H Q E h => Da.up_len2 h) (fun cdv A outer s H vs Q E hr h => ?_)
  refine ⟨_, (pss_cons (ps_set (i := 2) sc_law_words.nd rfl (Or.inl rfl) (pe_lst (pa_cons pe_str (pa_cons pe_str (pa_cons pe_str (pa_cons pe_str (pa_cons pe_str (pa_cons pe_str (pa_cons pe_str (pa_cons pe_str (pa_cons pe_str pa_nil)))))))))))
      (pss_cons (ps_set (i := 3) sc_law_words.nd rfl (Or.inl rfl) (pe_lst (pa_cons pe_str (pa_cons pe_str (pa_cons pe_str (pa_cons pe_str (pa_cons pe_str (pa_cons pe_str (pa_cons pe_str (pa_cons pe_str (pa_cons pe_str pa_nil)))))))))))
      (pss_cons (Da.ps_own 1 (ps_set (i := 4) sc_law_words.nd rfl (Or.inl rfl) (pe_lst (pa_cons (pe_call (ok_law_pick T) (hr.mono (by decide)) rfl T.m_law_pick T.F_law_pick.kp T.b_law_pick .nil pass0 (pa_cons (pv 0) (pa_cons (pv 2) pa_nil))) pa_nil))))
      (pss_cons (ps_for PassesOwn.never rfl (pi_range1 (by rfl) T.z_range (pa_cons (pe_op op_sub (pv 1) pe_int) pa_nil)) (pg_name (i := 5) sc_law_words.nd rfl (Or.inl rfl))
        (pss_one (ps_expr (Da.bmK (K := K) rfl PySem.F.plainAttrs_list PySem.F.slot_list_append PySem.F.type_list_append mt_append (pv 4) (pa_cons (pe_call (ok_law_pick T) (hr.mono (by decide)) rfl T.m_law_pick T.F_law_pick.kp T.b_law_pick .nil pass0 (pa_cons (pv 0) (pa_cons (pe_ifExp (pt_cmpR op_gt (pe_call (ok_law_draw T) (hr.mono (by decide)) rfl T.m_law_draw T.F_law_draw.kp T.b_law_draw .nil pass0 (pa_cons (pv 0) (pa_cons pe_int pa_nil))) pe_int (nomark _)) (pv 3) (pv 2)) pa_nil))) pa_nil)))))
      (Evl.pss_cut (ps_if (PW.pt (pw_and (pt_cmpR op_gt (pv 1) pe_int (nomark _)) (pw_and1 (pt_cmpR op_gt (pe_call (ok_law_draw T) (hr.mono (by decide)) rfl T.m_law_draw T.F_law_draw.kp T.b_law_draw .nil pass0 (pa_cons (pv 0) (pa_cons pe_int pa_nil))) pe_int (nomark _)))))
        (pss_one (ps_asg pe_str (pg_sub (pv 4) (pe_op op_sub (pv 1) pe_int) set_list)))
        pss_nil)
      (Evl.pss_cut (ps_if (PW.pt (pw_and (pt_cmpR op_gt (pv 1) pe_int (nomark _)) (pw_and (pt_cmpR (Da.ninK (K := K) rfl (Da.u65 hr)) pe_str (pv 4) (by rfl)) (pw_and1 (pt_cmpR op_gt (pe_call (ok_law_draw T) (hr.mono (by decide)) rfl T.m_law_draw T.F_law_draw.kp T.b_law_draw .nil pass0 (pa_cons (pv 0) (pa_cons pe_int pa_nil))) pe_int (nomark _))))))
        (pss_one (ps_asg pe_str (pg_sub (pv 4) (pe_op op_sub (pv 1) pe_int) set_list)))
        pss_nil)
      (pss_cons (ps_if (PW.pt (pw_and (pt_cmpR op_gt (pv 1) pe_int (nomark _)) (pw_and1 (pt_cmpR (Da.eqK (K := K) rfl hr.units) (pe_call (ok_law_draw T) (hr.mono (by decide)) rfl T.m_law_draw T.F_law_draw.kp T.b_law_draw .nil pass0 (pa_cons (pv 0) (pa_cons pe_int pa_nil))) pe_int (nomark _)))))
        (pss_cons (ps_asg (pe_ix (Da.ixK (K := K) rfl) (pv 4) pe_int (fun _ _ => rfl)) (pg_sub (pv 4) pe_int set_list))
        (pss_one (ps_asg (pe_call (ok_law_pick T) (hr.mono (by decide)) rfl T.m_law_pick T.F_law_pick.kp T.b_law_pick .nil pass0 (pa_cons (pv 0) (pa_cons (pe_lst (pa_cons pe_str (pa_cons pe_str pa_nil))) pa_nil))) (pg_sub (pv 4) pe_int set_list))))
        pss_nil)
      (pss_one (ps_ret (pv 4)))))))))), Da.go_up2 h ?_⟩
  intro pn a b n Q _ h
  unfold dWords at h
  obtain ⟨⟨p, q, rfl, rfl⟩, m, rfl, ⟨n1, m1, m2⟩, h⟩ := h
  walk_at "w"
  refine i_pickS (ns := lkL) ⟨by walk_at "n", by decide, by decide⟩ (fun x hx => ?_)
  walk_at "w"
  intro l
  walk_at "w"
  refine ⟨by omega, for_inv (fun i Γ s => ∃ (ws : List Str) (n' : Nat) (u : Option D), Γ = [some (.val (.ref p)), some (.int m), some (.lst (lkL.map D.str)), some (.lst (qtL.map D.str)), some (.loc l 1), u] ∧ s = ⟨[⟨1, l, .lst (ws.map D.str), false⟩], n', some (p, q)⟩ ∧ n' ≤ n + 1 + 2 * i ∧ ws.length = 1 + i ∧ Wd0 ws) ?_ ?_ ?_⟩
  · exact ⟨[x], n + 1, _, rfl, rfl, by omega, rfl, .one (lk_of x hx)⟩
  · rintro i d _ _ hi hd ⟨ws, n', u, rfl, rfl, h1, h2, h3⟩
    dsimp only [Src.n] at hi
    walk_at "draw"
    intro r r0 r1
    walk_at "w"
    refine ⟨fun _ => ?_, fun _ => ?_⟩
    · walk_at "w"
      refine i_pickS (ns := qtL) ⟨by walk_at "n", by decide, by decide⟩ (fun y hy => ?_)
      walk_at "w"
      refine ⟨small1000 (by rw [List.length_map]; omega), ?_⟩
      exact ⟨ws ++ [y], n' + 2, _, rfl, by rw [← app_str]; rfl, by omega, by rw [List.length_append, h2]; rfl, h3.app (.inr (qt_of y hy))⟩
    · walk_at "w"
      refine i_pickS (ns := lkL) ⟨by walk_at "n", by decide, by decide⟩ (fun y hy => ?_)
      walk_at "w"
      refine ⟨small1000 (by rw [List.length_map]; omega), ?_⟩
      exact ⟨ws ++ [y], n' + 2, _, rfl, by rw [← app_str]; rfl, by omega, by rw [List.length_append, h2]; rfl, h3.app (.inl (lk_of y hy))⟩
  · rintro _ _ ⟨ws, n', u, rfl, rfl, h1, h2, h3⟩
    dsimp only [Src.n] at h1 h2
    refine ⟨fun Γ s => ∃ (ws : List Str) (n' : Nat) (u : Option D), Γ = [some (.val (.ref p)), some (.int m), some (.lst (lkL.map D.str)), some (.lst (qtL.map D.str)), some (.loc l 1), u] ∧ s = ⟨[⟨1, l, .lst (ws.map D.str), false⟩], n', some (p, q)⟩ ∧ n' ≤ n + 30 ∧ ws.length = m ∧ Wd0 ws, ?_, ?_⟩
    · walk_at "w"
      refine .dec (fun hm => ?_) (fun _ => ?_)
      · walk_at "draw"
        intro r r0 r1
        walk_at "w"
        refine ⟨fun _ => ?_, fun _ => ?_⟩
        · walk_at "w"
          refine ⟨m - 1, ixN_of (by omega) (by rw [List.length_map]; omega), ?_⟩
          exact ⟨ws.set (m - 1) "cut", n' + 1, _, rfl, by rw [← set_str]; rfl, by omega, by rw [List.length_set]; omega, h3.set (by omega) (.inr qt_cut)⟩
        · exact ⟨ws, n' + 1, _, rfl, rfl, by omega, by omega, h3⟩
      · walk_at "w"
        exact ⟨ws, n', _, rfl, rfl, by omega, by omega, h3⟩
    clear h1 h2 h3 ws n' u
    rintro _ _ ⟨ws, n', u, rfl, rfl, h1, h2, h3⟩
    refine ⟨fun Γ s => ∃ (ws : List Str) (n' : Nat) (u : Option D), Γ = [some (.val (.ref p)), some (.int m), some (.lst (lkL.map D.str)), some (.lst (qtL.map D.str)), some (.loc l 1), u] ∧ s = ⟨[⟨1, l, .lst (ws.map D.str), false⟩], n', some (p, q)⟩ ∧ n' ≤ n + 40 ∧ ws.length = m ∧ Wd0 ws, ?_, ?_⟩
    · walk_at "w"
      refine .dec (fun hm => ?_) (fun _ => ?_)
      · walk_at "w"
        refine ⟨⟨0, by decide, wd_ok (.inr qt_skip), str_plain fun x hx => wd_ok (h3.all x hx)⟩, ?_⟩
        walk_at "w"
        refine .ndec (fun hs => ?_) (fun _ => ?_)
        · walk_at "draw"
          intro r r0 r1
          walk_at "w"
          refine ⟨fun _ => ?_, fun _ => ?_⟩
          · walk_at "w"
            refine ⟨m - 2, ixN_of (by omega) (by rw [List.length_map]; omega), ?_⟩
            exact ⟨ws.set (m - 2) "skip", n' + 1, _, rfl, by rw [← set_str]; rfl, by omega, by rw [List.length_set]; omega, h3.set (by omega) (.inr qt_skip)⟩
          · exact ⟨ws, n' + 1, _, rfl, rfl, by omega, by omega, h3⟩
        · walk_at "w"
          exact ⟨ws, n', _, rfl, rfl, by omega, by omega, h3⟩
      · walk_at "w"
        exact ⟨ws, n', _, rfl, rfl, by omega, by omega, h3⟩
    clear h1 h2 h3 ws n' u
    rintro _ _ ⟨ws, n', u, rfl, rfl, h1, h2, h3⟩
    walk_at "w"
    refine .dec (fun hm => ?_) (fun _ => ?_)
    · walk_at "draw"
      intro r r0 r1
      walk_at "w"
      refine .dec (fun _ => ?_) (fun _ => ?_)
      · obtain ⟨y, hy, hl⟩ := h3.beg
        walk_at "w"
        refine ⟨.str y, atI_nat (j := 0) (by rw [List.getElem?_map, hy]; rfl), ?_⟩
        walk_at "w"
        refine ⟨1, ixN_of rfl (by rw [List.length_map]; omega), ?_⟩
        walk_at "w"
        refine i_pickS (ns := ["set", "upto"]) ⟨by walk_at "n", by decide, by decide⟩ (fun z hz => ?_)
        walk_at "w"
        refine ⟨0, ixN_of rfl (by rw [List.length_set, List.length_map]; omega), ?_⟩
        walk_at "w"
        rw [set_str, set_str]
        exact h _ _ (by rw [List.length_set, List.length_set]; omega) (h3.swap (by omega) hy hz) (by walk_at "n")
      · walk_at "w"
        exact h _ _ h2 h3.wds (by walk_at "n")
    · walk_at "w"
      exact h _ _ h2 h3.wds (by walk_at "n")
end
end Lw

namespace Lw
open PySem L2
open Evl Da
local macro_rules
  | `(tactic| walk_at "f") => `(tactic| first | exact lookF_put | exact lookF_hit | exact (lookF_skip (by decide +kernel) lookF_hit) | exact (lookF_skip (by decide +kernel) (lookF_skip (by decide +kernel) lookF_hit)) | exact (lookF_skip (by decide +kernel) (lookF_skip (by decide +kernel) (lookF_skip (by decide +kernel) lookF_hit))) | exact (lookF_skip (by decide +kernel) (lookF_skip (by decide +kernel) (lookF_skip (by decide +kernel) (lookF_skip (by decide +kernel) lookF_hit)))) | exact (lookF_skip (by decide +kernel) (lookF_skip (by decide +kernel) (lookF_skip (by decide +kernel) (lookF_skip (by decide +kernel) (lookF_skip (by decide +kernel) lookF_hit))))) | exact (lookF_skip (by decide +kernel) (lookF_skip (by decide +kernel) (lookF_skip (by decide +kernel) (lookF_skip (by decide +kernel) (lookF_skip (by decide +kernel) (lookF_skip (by decide +kernel) lookF_hit)))))) | ((refine lookF_other (by decide +kernel) ?_); walk_at "f") | ((refine lookF_skip (by decide +kernel) ?_); walk_at "f"))
  | `(tactic| walk_at "fl") => `(tactic| first | exact Nat.zero_lt_succ _ | ((refine putFD_lt ?_); walk_at "fl"))
  | `(tactic| walk_at "a") => `(tactic| first | exact le1000 (Nat.le_of_ble_eq_true rfl) | exact rfl | decide +kernel | exact And.intro (by with_reducible assumption) (by with_reducible assumption) | exact And.intro (And.intro (by with_reducible assumption) (by with_reducible assumption)) (by walk_at "fl"))
  | `(tactic| walk_at "w") => `(tactic| ((conv => whnf); repeat ((first | ((with_reducible refine And.intro ?_ ?_); (focus (walk_at "a"))) | ((with_reducible refine Br.yes ?_ ?_); (focus (first | exact rfl | decide +kernel))) | ((with_reducible refine Br.no ?_ ?_); (focus (first | exact rfl | decide +kernel))) | ((with_reducible refine ex_fld ?_); (refine fld_w (by walk_at "f") ?_)) | ((with_reducible refine ex_at ?_); (refine at_w rfl ?_))); (conv => whnf))))
  | `(tactic| walk_at "n") => `(tactic| ((try dsimp only [st0, st1, S.at, S.drop, S.own, S.put, S.frz, Src.n] at *); omega))
  | `(tactic| walk_at "draw") => `(tactic| ((try walk_at "w"); (refine i_draw ⟨by walk_at "n", by walk_at "n", by walk_at "n"⟩ ?_)))
section
variable {P : Program} {w : World} {K : PySem.W.Frag} {mg : Str → Option Value} {base : Heap}
theorem i_word {p q : Addr} {m : Int} {n : Nat} {Q : D → Nat → Prop} {X : XD} (h : n < 549755813000 ∧ 0 < m ∧ m ≤ 12) (k : ∀ x n', Nm x → n' ≤ n + 20 → Q (.str x) n') : dWord (some (p, q)) (.val (.ref p)) (.int m) n Q X := by
  unfold dWord
  exact ⟨⟨p, q, rfl, rfl⟩, m, rfl, h, fun x n' h1 h2 h3 h4 => k x n' ⟨h1, h2, by omega⟩ h4⟩
theorem rng_at {lo : Int} {n i : Nat} {d : D} (h : (Src.rng lo n).at i = some d) : i < n ∧ d = .int (lo + i) := by
  have h : (if i < n then some (D.int (lo + i)) else none) = some d := h
  split at h
  · rename_i hi
    exact ⟨hi, (Option.some.inj h).symm⟩
  · cases h
theorem seq_at {ds : List D} {i : Nat} {d : D} (h : (Src.seq ds).at i = some d) : ds[i]? = some d := h
@[irreducible] def dNames : R2' := fun pn a b n Q _ => IsPen pn a ∧ ∃ m : Nat, b = .int m ∧ (n < 549755812000 ∧ m ≤ 8) ∧ ∀ (ns : List Str) n', ns.length = m → ns.Nodup → (∀ x ∈ ns, Nm x) → n' ≤ n + 200 → Q (.lst (ns.map D.str)) n'
theorem ok_law_names (T : Tx w K mg) : FnOk P w K mg base CX0 3 T.f_law_names T.d_law_names ["_law_pen", "_law_many"] (Da.upSp K (sp2 dNames)) := by
  refine T.F_law_names.ok sc_law_names (fun vs H Q E h => Da.up_len2 h) (fun cdv A outer s H vs Q E hr h => ?_)
  refine ⟨_, (pss_cons (Da.ps_own 1 (ps_set (i := 2) sc_law_names.nd rfl (Or.inr rfl) (pe_lst pa_nil)))
      (pss_cons (ps_for PassesOwn.never rfl (pi_range1 (by rfl) T.z_range (pa_cons (pv 1) pa_nil)) (pg_name (i := 3) sc_law_names.nd rfl (Or.inl rfl))
        (pss_cons (ps_set (i := 4) sc_law_names.nd rfl (Or.inl rfl) (pe_call (ok_law_word T) (hr.mono (by decide)) rfl T.m_law_word T.F_law_word.kp T.b_law_word .nil pass0 (pa_cons (pv 0) (pa_cons (pe_ifExp (pt_cmpR (Da.eqK (K := K) rfl hr.units) (pe_call (ok_law_draw T) (hr.mono (by decide)) rfl T.m_law_draw T.F_law_draw.kp T.b_law_draw .nil pass0 (pa_cons (pv 0) (pa_cons pe_int pa_nil))) pe_int (nomark _)) pe_int pe_int) pa_nil))))
        (pss_cons (ps_setLc (i := 5) rfl sc_law_names.nd rfl rfl (sw_true rfl rfl rfl (by decide +kernel)) (Da.seqK (K := K) rfl (pe_lc rfl sc_law_names.nd (pi_range2 (by rfl) T.z_range (pa_cons pe_int (pa_cons pe_int pa_nil))) (blkOk_by (own := [("_law_n", 7)]) (N := ["_law_pen", "_law_many", "_law_found", "_law_k", "_law_name", "_law_spare", "_law_word_here", "_law_n"]) (sc := defScope s_law_names) (by decide +kernel)) (fun _ _ _ _ _ => (pg_name (i := 7) sc_law_names.nd rfl (Or.inl rfl))) (fun _ _ _ _ _ => pts_nil) (fun _ _ _ _ _ => (pe_op (Da.mulK (K := K) rfl) pe_str (pv 7))))) (blkOk_by (own := [("_law_word_here", 6)]) (N := ["_law_pen", "_law_many", "_law_found", "_law_k", "_law_name", "_law_spare", "_law_word_here", "_law_n"]) (sc := defScope s_law_names) (by decide +kernel)) (fun _ _ _ _ _ => (pg_name (i := 6) sc_law_names.nd rfl (Or.inl rfl))) (fun _ _ _ _ _ => (pts_one (pt_cmpR (Da.ninK (K := K) rfl (Da.u65 hr)) (pv 6) (pv 2) (by rfl)))) (fun _ _ _ _ _ => (pv 6)))
        (pss_one (ps_expr (Da.bmK (K := K) rfl PySem.F.plainAttrs_list PySem.F.slot_list_append PySem.F.type_list_append mt_append (pv 2) (pa_cons (pe_ifExp (pt_cmpR (Da.inK (K := K) rfl (Da.u65 hr)) (pv 4) (pv 2) (by rfl)) (pe_ix (Da.ixK (K := K) rfl) (pv 5) pe_int (fun _ _ => rfl)) (pv 4)) pa_nil)))))))
      (pss_one (ps_ret (pv 2))))), Da.go_up2 h ?_⟩
  intro pn a b n Q _ h
  unfold dNames at h
  obtain ⟨⟨p, q, rfl, rfl⟩, m, rfl, ⟨n1, m1⟩, h⟩ := h
  walk_at "w"
  intro l
  walk_at "w"
  refine ⟨by omega, for_inv (fun i Γ s => ∃ (ns : List Str) (n' : Nat) (u3 u4 u5 u6 u7 : Option D), Γ = [some (.val (.ref p)), some (.int m), some (.loc l 1), u3, u4, u5, u6, u7] ∧ s = ⟨[⟨1, l, .lst (ns.map D.str), false⟩], n', some (p, q)⟩ ∧ n' ≤ n + 25 * i ∧ ns.length = i ∧ ns.Nodup ∧ ∀ x ∈ ns, Nm x) ?_ ?_ ?_⟩
  · exact ⟨[], n, _, _, _, _, _, rfl, rfl, by omega, rfl, .nil, fun x hx => nomatch hx⟩
  · rintro i d _ _ hi hd ⟨ns, n', u3, u4, u5, u6, u7, rfl, rfl, h1, h2, h3, h4⟩
    dsimp only [Src.n] at hi
    walk_at "draw"
    intro r r0 r1
    walk_at "w"
    refine .dec (fun _ => ?_) (fun _ => ?_)
    all_goals
      walk_at "w"
      refine i_word ⟨by walk_at "n", by omega, by omega⟩ (fun x n2 hx g1 => ?_)
      walk_at "w"
      refine lc_inv (fun i acc s => acc = (List.range i).map (fun j => .str (aRep j)) ∧ s = ⟨[⟨1, l, .lst (ns.map D.str), false⟩], n2, some (p, q)⟩) (le1000 (by decide)) ⟨rfl, rfl⟩ ?_ ?_
      · rintro j e _ _ hj he hl ⟨rfl, rfl⟩
        obtain ⟨_, rfl⟩ := rng_at he
        have hj : j < 12 := hj
        walk_at "w"
        refine ⟨⟨by omega, by omega, by decide⟩, ?_⟩
        refine ⟨?_, rfl⟩
        rw [List.range_succ, List.map_append]
        have e : ((1 : Int) + j).toNat = j + 1 := by omega
        rw [e]
        rfl
      rintro _ _ hl ⟨rfl, rfl⟩
      walk_at "w"
      refine lc_inv (fun i acc s => ∃ xs : List Str, acc = xs.map D.str ∧ s = ⟨[⟨1, l, .lst (ns.map D.str), false⟩], n2, some (p, q)⟩ ∧ (∀ x ∈ xs, x ∉ ns ∧ Nm x) ∧ ∀ j, j < i → aRep j ∉ ns → aRep j ∈ xs) (le1000 (by decide)) ⟨[], rfl, rfl, (fun x hx => nomatch hx), (fun j hj => by omega)⟩ ?_ ?_
      · rintro j e _ _ hj he hl ⟨xs, rfl, rfl, g2, g3⟩
        have he := seq_at he
        have hj : j < 12 := hj
        have e12 : (Src.rng 1 (13 - 1 : Int).toNat).n = 12 := rfl
        rw [List.getElem?_map, e12, List.getElem?_range hj] at he
        cases he
        walk_at "w"
        refine ⟨⟨0, by decide, az_ok (aRep_nm ⟨j, hj⟩).az, str_plain fun x hx => az_ok (h4 x hx).az⟩, ?_⟩
        walk_at "w"
        refine .ndec (fun hs => ?_) (fun hs => ?_)
        · rw [str_mem] at hs
          refine ⟨xs ++ [aRep j], by rw [List.map_append]; rfl, rfl, fun y hy => ?_, fun k hk hn => ?_⟩
          · rcases List.mem_append.mp hy with hy | hy
            · exact g2 y hy
            · rw [List.mem_singleton] at hy
              rw [hy]
              exact ⟨hs, aRep_nm ⟨j, hj⟩⟩
          · rcases Nat.lt_succ_iff_lt_or_eq.mp hk with hk | hk
            · exact List.mem_append_left _ (g3 k hk hn)
            · rw [hk]
              exact List.mem_append_right _ (List.mem_singleton.mpr rfl)
        · rw [str_mem] at hs
          refine ⟨xs, rfl, rfl, g2, fun k hk hn => ?_⟩
          rcases Nat.lt_succ_iff_lt_or_eq.mp hk with hk | hk
          · exact g3 k hk hn
          · rw [hk] at hn
            exact absurd hs hn
      · rintro _ _ hl ⟨xs, rfl, rfl, g2, g3⟩
        have e12 : (Src.seq (List.map (fun j => D.str (aRep j)) (List.range (Src.rng 1 (13 - 1 : Int).toNat).n))).n = 12 := rfl
        rw [e12] at g3
        have fin : ∀ y, Nm y → y ∉ ns → ∃ (ns2 : List Str) (n3 : Nat), (ns.map D.str ++ [.str y]) = ns2.map D.str ∧ n3 = n2 ∧ n3 ≤ n + 25 * (i + 1) ∧ ns2.length = i + 1 ∧ ns2.Nodup ∧ ∀ x ∈ ns2, Nm x := fun y hy hn => by
          refine ⟨ns ++ [y], n2, by rw [List.map_append]; rfl, rfl, by walk_at "n", by rw [List.length_append, h2]; rfl, ?_, fun z hz => ?_⟩
          · rw [List.nodup_append]
            refine ⟨h3, List.nodup_cons.mpr ⟨List.not_mem_nil, .nil⟩, fun a ha b hb e => ?_⟩
            rw [List.mem_singleton] at hb
            rw [e, hb] at ha
            exact hn ha
          · rcases List.mem_append.mp hz with hz | hz
            · exact h4 z hz
            · rw [List.mem_singleton] at hz
              rw [hz]
              exact hy
        walk_at "w"
        refine ⟨⟨0, by decide, az_ok hx.az, str_plain fun x hx => az_ok (h4 x hx).az⟩, ?_⟩
        walk_at "w"
        refine .dec (fun hs => ?_) (fun hs => ?_)
        · obtain ⟨j0, hj0, hn0⟩ := spare_is (ns := ns) (by walk_at "n")
          have hm := g3 j0 hj0 hn0
          cases xs with
          | nil => cases hm
          | cons y r =>
            obtain ⟨gy, gn⟩ := g2 y List.mem_cons_self
            obtain ⟨ns2, n3, f1, rfl, f2, f3, f4, f5⟩ := fin y gn gy
            walk_at "w"
            refine ⟨.str y, atI_nat (j := 0) rfl, ?_⟩
            walk_at "w"
            refine ⟨small1000 (by rw [List.length_map]; walk_at "n"), ?_⟩
            refine ⟨ns2, n3, _, _, _, _, _, rfl, by rw [← f1]; rfl, f2, f3, f4, f5⟩
        · rw [str_mem] at hs
          obtain ⟨ns2, n3, f1, rfl, f2, f3, f4, f5⟩ := fin x hx hs
          walk_at "w"
          refine ⟨small1000 (by rw [List.length_map]; walk_at "n"), ?_⟩
          exact ⟨ns2, n3, _, _, _, _, _, rfl, by rw [← f1]; rfl, f2, f3, f4, f5⟩
  · rintro _ _ ⟨ns, n', u3, u4, u5, u6, u7, rfl, rfl, h1, h2, h3, h4⟩
    walk_at "w"
    exact h _ _ h2 h3 h4 (by walk_at "n")
end
end Lw

namespace Lw
open PySem L2
open Evl Da
local macro_rules
  | `(tactic| walk_at "f") => `(tactic| first | exact lookF_put | exact lookF_hit | exact (lookF_skip (by decide +kernel) lookF_hit) | exact (lookF_skip (by decide +kernel) (lookF_skip (by decide +kernel) lookF_hit)) | exact (lookF_skip (by decide +kernel) (lookF_skip (by decide +kernel) (lookF_skip (by decide +kernel) lookF_hit))) | exact (lookF_skip (by decide +kernel) (lookF_skip (by decide +kernel) (lookF_skip (by decide +kernel) (lookF_skip (by decide +kernel) lookF_hit)))) | exact (lookF_skip (by decide +kernel) (lookF_skip (by decide +kernel) (lookF_skip (by decide +kernel) (lookF_skip (by decide +kernel) (lookF_skip (by decide +kernel) lookF_hit))))) | exact (lookF_skip (by decide +kernel) (lookF_skip (by decide +kernel) (lookF_skip (by decide +kernel) (lookF_skip (by decide +kernel) (lookF_skip (by decide +kernel) (lookF_skip (by decide +kernel) lookF_hit)))))) | ((refine lookF_other (by decide +kernel) ?_); walk_at "f") | ((refine lookF_skip (by decide +kernel) ?_); walk_at "f"))
  | `(tactic| walk_at "fl") => `(tactic| first | exact Nat.zero_lt_succ _ | ((refine putFD_lt ?_); walk_at "fl"))
  | `(tactic| walk_at "a") => `(tactic| first | exact le1000 (Nat.le_of_ble_eq_true rfl) | exact rfl | decide +kernel | exact And.intro (by with_reducible assumption) (by with_reducible assumption) | exact And.intro (And.intro (by with_reducible assumption) (by with_reducible assumption)) (by walk_at "fl"))
  | `(tactic| walk_at "w") => `(tactic| ((conv => whnf); repeat ((first | ((with_reducible refine And.intro ?_ ?_); (focus (walk_at "a"))) | ((with_reducible refine Br.yes ?_ ?_); (focus (first | exact rfl | decide +kernel))) | ((with_reducible refine Br.no ?_ ?_); (focus (first | exact rfl | decide +kernel))) | ((with_reducible refine ex_fld ?_); (refine fld_w (by walk_at "f") ?_)) | ((with_reducible refine ex_at ?_); (refine at_w rfl ?_))); (conv => whnf))))
  | `(tactic| walk_at "n") => `(tactic| ((try dsimp only [st0, st1, S.at, S.drop, S.own, S.put, S.frz, Src.n] at *); omega))
  | `(tactic| walk_at "draw") => `(tactic| ((try walk_at "w"); (refine i_draw ⟨by walk_at "n", by walk_at "n", by walk_at "n"⟩ ?_)))
section
variable {P : Program} {w : World} {K : PySem.W.Frag} {mg : Str → Option Value} {base : Heap}
/-- places among the words -/
abbrev plD (gs : List Nat) : List D := gs.map fun (g : Nat) => D.int (g : Int)
/-- the places so far of which p holds, from b on -/
structure Found (b n : Nat) (p : Nat → Prop) (i : Nat) (gs : List Nat) : Prop where
  all : ∀ g ∈ gs, b ≤ g ∧ g < n ∧ p g
  has : ∀ g, b ≤ g → g < b + i → p g → g ∈ gs
  few : gs.length ≤ i
theorem Found.nil {b n : Nat} {p : Nat → Prop} : Found b n p 0 [] := ⟨(fun x hx => nomatch hx), (fun g h1 h2 => by omega), Nat.le_refl _⟩
theorem Found.yes {b n i : Nat} {p : Nat → Prop} {gs : List Nat} (h : Found b n p i gs) (hi : b + i < n) (hp : p (b + i)) : Found b n p (i + 1) (gs ++ [b + i]) := by
  refine ⟨fun g hg => ?_, fun g h1 h2 h3 => ?_, by rw [List.length_append]; exact Nat.succ_le_succ h.few⟩
  · rcases List.mem_append.mp hg with hg | hg
    · exact h.all g hg
    · rw [List.mem_singleton] at hg
      rw [hg]
      exact ⟨by omega, hi, hp⟩
  · by_cases e : g = b + i
    · rw [e]; exact List.mem_append_right _ (List.mem_singleton.mpr rfl)
    · exact List.mem_append_left _ (h.has g h1 (by omega) h3)
theorem Found.no {b n i : Nat} {p : Nat → Prop} {gs : List Nat} (h : Found b n p i gs) (hp : ¬ p (b + i)) : Found b n p (i + 1) gs := by
  refine ⟨h.all, fun g h1 h2 h3 => ?_, Nat.le_succ_of_le h.few⟩
  by_cases e : g = b + i
  · rw [e] at h3; exact absurd h3 hp
  · exact h.has g h1 (by omega) h3
theorem plD_app (gs : List Nat) (g : Nat) : plD gs ++ [.int (g : Int)] = plD (gs ++ [g]) := by unfold plD; rw [List.map_append]; rfl
theorem lc_places {v b k : Nat} {lo : Int} {kk : Nat} {wt : WT} {Γ : Ga} {s : S} {Q : QD} (p : Nat → Prop) (hlo : lo = (b : Int)) (hk : kk = k) (h1 : k ≤ 1000)
    (hv : ∀ d, look (setG (wipeG Γ [v]) v (some d)) v = some d)
    (step : ∀ (g : Nat) (Q' : Bool → S → Prop), b ≤ g → g < b + k → (p g → Q' true s) → (¬ p g → Q' false s) → wt (setG (wipeG Γ [v]) v (some (.int (g : Int)))) s Q')
    (fin : ∀ gs, Found b (b + k) p k gs → Q (.lst (plD gs)) s) :
    LcB (wgName v) wt (wVar v) [v] Γ Q (.rng lo kk) s := by
  subst hlo hk
  refine lc_inv (fun i acc s' => s' = s ∧ ∃ gs, acc = plD gs ∧ Found b (b + kk) p i gs) (le1000 h1) ⟨rfl, [], rfl, .nil⟩ ?_ ?_
  · rintro i d acc _ hi hd hl ⟨rfl, gs, rfl, hf⟩
    obtain ⟨hi, rfl⟩ := rng_at hd
    have e : (b : Int) + (i : Int) = ((b + i : Nat) : Int) := by omega
    rw [e]
    refine step (b + i) _ (by omega) (by omega) (fun hp => .tt ?_) (fun hp => .ff ⟨rfl, gs, rfl, hf.no hp⟩)
    unfold wVar
    rw [hv]
    exact ⟨rfl, gs ++ [b + i], plD_app gs _, hf.yes (by omega) hp⟩
  · rintro acc _ hl ⟨rfl, gs, rfl, hf⟩
    exact fin gs hf
theorem q_dec {p : Prop} {ip : Decidable p} {q : Prop} (e : p ↔ q) {Q : Bool → S → Prop} {s : S} (ht : q → Q true s) (hf : ¬ q → Q false s) : Q (decide p) s := by
  by_cases h : p
  · rw [decide_eq_true h]; exact ht (e.mp h)
  · rw [decide_eq_false h]; exact hf fun z => h (e.mpr z)
theorem q_ndec {p : Prop} {ip : Decidable p} {q : Prop} (e : ¬ p ↔ q) {Q : Bool → S → Prop} {s : S} (ht : q → Q true s) (hf : ¬ q → Q false s) : Q (!decide p) s := by
  by_cases h : p
  · rw [decide_eq_true h]; exact hf fun z => (e.mpr z) h
  · rw [decide_eq_false h]; exact ht (e.mp h)
abbrev lk5 : List Str := ["take", "case", "rest", "cap", "jump"]
theorem lk_in {x : Str} : D.str x ∈ lk5.map D.str ↔ Lk x := str_mem
theorem strs_ok : ∀ x ∈ (lk5 ++ (["skip", "upto", "cut"] : List Str)), PyData.strOk x = true := by decide +kernel
@[irreducible] def dGoal : R3 := fun pn a b c n Q _ => IsPen pn a ∧ ∃ (ws : List Str) (at_ : Nat), b = .lst (ws.map D.str) ∧ c = .int at_ ∧ (n < 549755813000 ∧ at_ < ws.length ∧ ws.length ≤ 8) ∧ Wds ws ∧ ∀ (g : Nat) n', Gok ws at_ g → n' ≤ n + 3 → Q (.int g) n'
theorem i_pickP {p q : Addr} {n : Nat} {gs : List Nat} {Q : D → Nat → Prop} {X : XD} (h : n < 549755813888 ∧ 0 < gs.length ∧ gs.length < 1000000) (k : ∀ g ∈ gs, Q (.int (g : Nat)) (n + 1)) : dPick (some (p, q)) (.val (.ref p)) (.lst (plD gs)) n Q X := by
  have e : plD gs = (gs.map fun (g : Nat) => (g : Int)).map D.int := by rw [List.map_map]; rfl
  rw [e]
  refine i_pickI (by rw [List.length_map]; exact h) (fun x hx => ?_)
  obtain ⟨g, hg, rfl⟩ := List.mem_map.mp hx
  exact k g hg
theorem wd_lk {ws : List Str} (hw : Wds ws) : ∃ g, g < ws.length ∧ Lk (wAt ws g) := by
  rcases hw.beg with ⟨x, h1, h2⟩ | ⟨_, _, x, h1, h2⟩
  · exact ⟨0, (List.getElem?_eq_some_iff.mp h1).1, by rw [wAt_some h1]; exact h2⟩
  · exact ⟨1, (List.getElem?_eq_some_iff.mp h1).1, by rw [wAt_some h1]; exact h2⟩
theorem skip_pos {ws : List Str} (hw : Wds ws) {i : Nat} (h : wAt ws i = "skip") : 0 < i := by
  rcases Nat.eq_zero_or_pos i with rfl | h0
  · rcases hw.beg with ⟨x, h1, h2⟩ | ⟨_, ⟨x, h1, h2⟩, _⟩
    · rw [wAt_some h1] at h
      rw [h] at h2
      exact absurd h2 (by decide +kernel)
    · rw [wAt_some h1] at h
      rw [h] at h2
      exact absurd h2 (by decide +kernel)
  · exact h0
theorem plD_two (gs hs : List Nat) : plD gs ++ (List.replicate (2 : Int).toNat (plD hs)).flatten = plD (gs ++ (hs ++ hs)) := by
  show plD gs ++ (List.replicate 2 (plD hs)).flatten = _
  simp [plD, List.replicate]
theorem pl_plain (gs : List Nat) : Pl 1 (.lst (plD gs)) := fun d hd => by
  obtain ⟨g, _, rfl⟩ := List.mem_map.mp hd
  trivial
theorem plD_nil {gs : List Nat} : D.lst (plD gs) = .lst [] ↔ gs = [] := by
  constructor
  · intro h
    injection h with h
    exact List.map_eq_nil_iff.mp h
  · intro h; rw [h]; rfl
theorem rgD_pl {a b : Nat} {x y : Int} (hx : x = (a : Int)) (hy : y = (b : Int)) : rgD x y = plD ((List.range (b - a)).map (a + ·)) := by
  subst hx hy
  unfold rgD plD
  rw [List.map_map]
  have : ((b : Int) - (a : Int)).toNat = b - a := by omega
  rw [this]
  rfl
theorem ok_law_goal (T : Tx w K mg) : FnOk P w K mg base CX0 3 T.f_law_goal T.d_law_goal ["_law_pen", "_law_words_here", "_law_at"] (Da.upSp K (sp3 dGoal)) := by
  refine T.F_law_goal.ok sc_law_goal (fun vs H Q E h => Da.up_len3 h) (fun cdv A outer s H vs Q E hr h => ?_)
  refine ⟨_, (pss_cons (ps_set (i := 3) sc_law_goal.nd rfl (Or.inr rfl) (pe_lst (pa_cons pe_str (pa_cons pe_str (pa_cons pe_str (pa_cons pe_str (pa_cons pe_str pa_nil)))))))
      (pss_cons (ps_setLc (i := 4) rfl sc_law_goal.nd rfl rfl (sw_true rfl rfl rfl (by decide +kernel)) (pi_range1 (by rfl) T.z_range (pa_cons (pe_callB (Da.lenK (K := K) rfl) (by rfl) T.z_len (by decide +kernel) (pa_cons (pv 1) pa_nil)) pa_nil)) (blkOk_by (own := [("_law_spot", 5)]) (N := ["_law_pen", "_law_words_here", "_law_at", "_law_looks", "_law_spots", "_law_spot", "_law_ends", "_law_near"]) (sc := defScope s_law_goal) (by decide +kernel)) (fun _ _ _ _ _ => (pg_name (i := 5) sc_law_goal.nd rfl (Or.inl rfl))) (fun _ _ _ _ _ => (pts_one (pt_cmpR (Da.inK (K := K) rfl (Da.u65 hr)) (pe_ix (Da.ixK (K := K) rfl) (pv 1) (pv 5) (fun _ _ => rfl)) (pv 3) (by rfl)))) (fun _ _ _ _ _ => (pv 5)))
      (pss_cons (ps_if (pt_cmpR (Da.ninK (K := K) rfl (Da.u65 hr)) (pe_ix (Da.ixK (K := K) rfl) (pv 1) (pv 2) (fun _ _ => rfl)) (pv 3) (by rfl))
        (pss_cons (ps_setLc (i := 6) rfl sc_law_goal.nd rfl rfl (sw_true rfl rfl rfl (by decide +kernel)) (pi_range2 (by rfl) T.z_range (pa_cons (pe_op (Da.addK (K := K) rfl) (pv 2) pe_int) (pa_cons (pe_callB (Da.lenK (K := K) rfl) (by rfl) T.z_len (by decide +kernel) (pa_cons (pv 1) pa_nil)) pa_nil))) (blkOk_by (own := [("_law_spot", 5)]) (N := ["_law_pen", "_law_words_here", "_law_at", "_law_looks", "_law_spots", "_law_spot", "_law_ends", "_law_near"]) (sc := defScope s_law_goal) (by decide +kernel)) (fun _ _ _ _ _ => (pg_name (i := 5) sc_law_goal.nd rfl (Or.inl rfl))) (fun _ _ _ _ _ => (pts_one (pt_cmpR (Da.eqK (K := K) rfl hr.units) (pe_ix (Da.ixK (K := K) rfl) (pv 1) (pv 5) (fun _ _ => rfl)) pe_str (nomark _)))) (fun _ _ _ _ _ => (pv 5)))
        (pss_cons (ps_if (PW.pt (pw_and (pt_cmpR (Da.eqK (K := K) rfl hr.units) (pe_ix (Da.ixK (K := K) rfl) (pv 1) (pv 2) (fun _ _ => rfl)) pe_str (nomark _)) (pw_and (pt_cmpR (Da.neK (K := K) rfl hr.units) (pv 6) (pe_lst pa_nil) (nomark _)) (pw_and1 (pt_cmpR op_gt (pe_call (ok_law_draw T) (hr.mono (by decide)) rfl T.m_law_draw T.F_law_draw.kp T.b_law_draw .nil pass0 (pa_cons (pv 0) (pa_cons pe_int pa_nil))) pe_int (nomark _))))))
          (pss_one (ps_ret (pe_call (ok_law_pick T) (hr.mono (by decide)) rfl T.m_law_pick T.F_law_pick.kp T.b_law_pick .nil pass0 (pa_cons (pv 0) (pa_cons (pv 6) pa_nil)))))
          pss_nil)
        (pss_cons (ps_if (pt_cmpR op_gt (pv 2) pe_int (nomark _))
          (pss_one (ps_set (i := 4) sc_law_goal.nd rfl (Or.inl rfl) (pe_op (Da.addK (K := K) rfl) (pv 4) (pe_op (Da.mulK (K := K) rfl) (pe_lc rfl sc_law_goal.nd (pi_range2 (by rfl) T.z_range (pa_cons (pe_op (Da.addK (K := K) rfl) (pv 2) pe_int) (pa_cons (pe_callB (Da.lenK (K := K) rfl) (by rfl) T.z_len (by decide +kernel) (pa_cons (pv 1) pa_nil)) pa_nil))) (blkOk_by (own := [("_law_spot", 5)]) (N := ["_law_pen", "_law_words_here", "_law_at", "_law_looks", "_law_spots", "_law_spot", "_law_ends", "_law_near"]) (sc := defScope s_law_goal) (by decide +kernel)) (fun _ _ _ _ _ => (pg_name (i := 5) sc_law_goal.nd rfl (Or.inl rfl))) (fun _ _ _ _ _ => (pts_one (pt_cmpR (Da.ninK (K := K) rfl (Da.u65 hr)) (pe_ix (Da.ixK (K := K) rfl) (pv 1) (pv 5) (fun _ _ => rfl)) (pv 3) (by rfl)))) (fun _ _ _ _ _ => (pv 5))) pe_int))))
          pss_nil)
        (pss_one (ps_ret (pe_call (ok_law_pick T) (hr.mono (by decide)) rfl T.m_law_pick T.F_law_pick.kp T.b_law_pick .nil pass0 (pa_cons (pv 0) (pa_cons (pv 4) pa_nil))))))))
        pss_nil)
      (Evl.pss_cut (ps_setLc (i := 7) rfl sc_law_goal.nd rfl rfl (sw_true rfl rfl rfl (by decide +kernel)) (pi_range1 (by rfl) T.z_range (pa_cons (pe_callB (Da.lenK (K := K) rfl) (by rfl) T.z_len (by decide +kernel) (pa_cons (pv 1) pa_nil)) pa_nil)) (blkOk_by (own := [("_law_spot", 5)]) (N := ["_law_pen", "_law_words_here", "_law_at", "_law_looks", "_law_spots", "_law_spot", "_law_ends", "_law_near"]) (sc := defScope s_law_goal) (by decide +kernel)) (fun _ _ _ _ _ => (pg_name (i := 5) sc_law_goal.nd rfl (Or.inl rfl))) (fun _ _ _ _ _ => (pts_one (pt_cmpR (Da.inK (K := K) rfl (Da.u65 hr)) (pe_ix (Da.ixK (K := K) rfl) (pv 1) (pv 5) (fun _ _ => rfl)) (pe_tup (pa_cons pe_str (pa_cons pe_str pa_nil))) (by rfl)))) (fun _ _ _ _ _ => (pv 5)))
      (Evl.pss_cut (ps_if (pt_cmpR (Da.inK (K := K) rfl (Da.u65 hr)) (pe_ix (Da.ixK (K := K) rfl) (pv 1) (pv 2) (fun _ _ => rfl)) (pe_tup (pa_cons pe_str (pa_cons pe_str pa_nil))) (by rfl))
        (pss_one (ps_setLc (i := 7) rfl sc_law_goal.nd rfl rfl (sw_true rfl rfl rfl (by decide +kernel)) (pi_range1 (by rfl) T.z_range (pa_cons (pe_callB (Da.lenK (K := K) rfl) (by rfl) T.z_len (by decide +kernel) (pa_cons (pv 1) pa_nil)) pa_nil)) (blkOk_by (own := [("_law_spot", 5)]) (N := ["_law_pen", "_law_words_here", "_law_at", "_law_looks", "_law_spots", "_law_spot", "_law_ends", "_law_near"]) (sc := defScope s_law_goal) (by decide +kernel)) (fun _ _ _ _ _ => (pg_name (i := 5) sc_law_goal.nd rfl (Or.inl rfl))) (fun _ _ _ _ _ => (pts_one (pt_cmpR (Da.inK (K := K) rfl (Da.u65 hr)) (pe_ix (Da.ixK (K := K) rfl) (pv 1) (pv 5) (fun _ _ => rfl)) (pe_tup (pa_cons pe_str (pa_cons pe_str pa_nil))) (by rfl)))) (fun _ _ _ _ _ => (pv 5))))
        pss_nil)
      (Evl.pss_cut (ps_if (PW.pt (pw_or (pt_cmpR (Da.eqK (K := K) rfl hr.units) (pv 7) (pe_lst pa_nil) (nomark _)) (pw_or1 (pt_cmpR (Da.eqK (K := K) rfl hr.units) (pe_call (ok_law_draw T) (hr.mono (by decide)) rfl T.m_law_draw T.F_law_draw.kp T.b_law_draw .nil pass0 (pa_cons (pv 0) (pa_cons pe_int pa_nil))) pe_int (nomark _)))))
        (pss_one (ps_set (i := 7) sc_law_goal.nd rfl (Or.inl rfl) (pe_op (Da.addK (K := K) rfl) (pe_listRg rfl (by rfl) T.z_list (prg_1 (by rfl) T.z_range (pe_callB (Da.lenK (K := K) rfl) (by rfl) T.z_len (by decide +kernel) (pa_cons (pv 1) pa_nil)))) (pe_op (Da.mulK (K := K) rfl) (pe_listRg rfl (by rfl) T.z_list (prg_2 (by rfl) T.z_range (pe_op (Da.addK (K := K) rfl) (pv 2) pe_int) (pe_callB (Da.lenK (K := K) rfl) (by rfl) T.z_len (by decide +kernel) (pa_cons (pv 1) pa_nil)))) pe_int))))
        pss_nil)
      (pss_one (ps_ret (pe_call (ok_law_pick T) (hr.mono (by decide)) rfl T.m_law_pick T.F_law_pick.kp T.b_law_pick .nil pass0 (pa_cons (pv 0) (pa_cons (pv 7) pa_nil))))))))))), Da.go_up3 h ?_⟩
  intro pn a b c n Q _ h
  unfold dGoal at h
  obtain ⟨⟨p, q, rfl, rfl⟩, ws, at_, rfl, rfl, ⟨n1, a1, w8⟩, hw, h⟩ := h
  have ok : ∀ g, g < ws.length → Pl 0 (.str (wAt ws g)) := fun g hg => wd_ok (hw.all _ (wAt_mem hg))
  have okl : ∀ d ∈ lk5.map D.str, Pl 0 d := str_plain fun x hx => strs_ok x (List.mem_append_left _ hx)
  walk_at "w"
  refine ⟨by rw [List.length_map]; omega, ?_⟩
  walk_at "w"
  refine lc_places (b := 0) (k := ws.length) (fun g => Lk (wAt ws g)) rfl (by rw [List.length_map]; omega) (by omega) (fun _ => rfl) (fun g Q' h1 h2 ht hf => ?_) (fun gs hgs => ?_)
  · walk_at "w"
    refine ⟨_, at_str (i := g) (by omega) rfl, ?_⟩
    walk_at "w"
    refine ⟨⟨0, by decide, ok g (by omega), okl⟩, ?_⟩
    exact q_dec lk_in ht hf
  walk_at "w"
  refine ⟨_, at_str a1 rfl, ?_⟩
  walk_at "w"
  refine ⟨⟨0, by decide, ok _ a1, okl⟩, ?_⟩
  obtain ⟨g0, hg0, hl0⟩ := wd_lk hw
  have hs0 := hgs.has g0 (Nat.zero_le _) (by omega) hl0
  have hpos : 0 < gs.length := List.length_pos_of_mem hs0
  have hfew := hgs.few
  walk_at "w"
  refine .ndec (fun hq => ?_) (fun hq => ?_)
  · have hq : ¬ Lk (wAt ws at_) := fun z => hq (lk_in.mpr z)
    walk_at "w"
    refine ⟨by rw [List.length_map]; omega, ?_⟩
    refine lc_places (b := at_ + 1) (k := ws.length - (at_ + 1)) (fun g => wAt ws g = "cut") (by omega) (by rw [List.length_map]; omega) (by omega) (fun _ => rfl) (fun g Q' h1 h2 ht hf => ?_) (fun es hes => ?_)
    · walk_at "w"
      refine ⟨_, at_str (i := g) (by omega) rfl, ?_⟩
      walk_at "w"
      exact q_dec Iff.rfl ht hf
    have hfe := hes.few
    walk_at "w"
    refine ⟨_, at_str a1 rfl, ?_⟩
    walk_at "w"
    refine .dec (fun hk => ?_) (fun _ => ?_)
    walk_at "w"
    refine ⟨⟨1, 1, by decide, by decide, pl_plain _, fun d hd => nomatch hd⟩, ?_⟩
    walk_at "w"
    refine .ndec (fun he => ?_) (fun _ => ?_)
    walk_at "draw"
    intro r r0 r1
    walk_at "w"
    refine ⟨fun _ => ?_, fun _ => ?_⟩
    · walk_at "w"
      have hne : es ≠ [] := fun z => he (plD_nil.mpr z)
      refine i_pickP ⟨by walk_at "n", List.length_pos_iff.mpr hne, by omega⟩ (fun g hg => ?_)
      walk_at "w"
      obtain ⟨f1, f2, f3⟩ := hes.all g hg
      exact h _ _ ⟨by omega, fun _ => .inr ⟨skip_pos hw hk, by omega⟩⟩ (by walk_at "n")
    all_goals
      walk_at "w"
      refine .dec (fun hp => ?_) (fun _ => ?_)
      · walk_at "w"
        refine ⟨by rw [List.length_map]; omega, ?_⟩
        refine lc_places (b := at_ + 1) (k := ws.length - (at_ + 1)) (fun g => ¬ Lk (wAt ws g)) (by omega) (by rw [List.length_map]; omega) (by omega) (fun _ => rfl) (fun g Q' h1 h2 ht hf => ?_) (fun fs hfs => ?_)
        · walk_at "w"
          refine ⟨_, at_str (i := g) (by omega) rfl, ?_⟩
          walk_at "w"
          refine ⟨⟨0, by decide, ok g (by omega), okl⟩, ?_⟩
          exact q_ndec (not_congr lk_in) ht hf
        have hff := hfs.few
        have l2 : (plD fs).length = fs.length := List.length_map _
        walk_at "w"
        refine ⟨⟨by decide, by decide, ?_⟩, ?_⟩
        · show (plD fs).length * 2 ≤ sizeLine
          exact le1000 (by omega)
        walk_at "w"
        refine ⟨?_, ?_⟩
        · show (plD gs).length + (List.replicate 2 (plD fs)).flatten.length ≤ sizeLine
          exact le1000 (by rw [rep_len, l2, List.length_map]; omega)
        walk_at "w"
        rw [plD_two]
        refine i_pickP ⟨by walk_at "n", by rw [List.length_append]; omega, by rw [List.length_append, List.length_append]; omega⟩ (fun g hg => ?_)
        walk_at "w"
        rcases List.mem_append.mp hg with hg | hg
        · obtain ⟨f1, f2, f3⟩ := hgs.all g hg
          exact h _ _ ⟨by omega, fun _ => .inl f3⟩ (by walk_at "n")
        · have hg : g ∈ fs := (List.mem_append.mp hg).elim id id
          obtain ⟨f1, f2, f3⟩ := hfs.all g hg
          exact h _ _ ⟨by omega, fun _ => .inr ⟨by omega, by omega⟩⟩ (by walk_at "n")
      · walk_at "w"
        refine i_pickP ⟨by walk_at "n", hpos, by omega⟩ (fun g hg => ?_)
        walk_at "w"
        obtain ⟨f1, f2, f3⟩ := hgs.all g hg
        exact h _ _ ⟨by omega, fun _ => .inl f3⟩ (by walk_at "n")
  · have hq : Lk (wAt ws at_) := lk_in.mp hq
    refine ⟨fun Γ s => ∃ (gs hs : List Nat) (u5 u6 : Option D), Γ = [some (.val (.ref p)), some (.lst (ws.map D.str)), some (.int at_), some (.lst (lk5.map D.str)), some (.lst (plD gs)), u5, u6, some (.lst (plD hs))] ∧ s = st0 n (some (p, q)) ∧ (∀ g ∈ hs, g < ws.length) ∧ hs.length ≤ 10, ?_, ?_⟩
    · walk_at "w"
      refine ⟨by rw [List.length_map]; omega, ?_⟩
      refine lc_places (b := 0) (k := ws.length) (fun g => wAt ws g ∈ (["skip", "upto"] : List Str)) rfl (by rw [List.length_map]; omega) (by omega) (fun _ => rfl) (fun g Q' h1 h2 ht hf => ?_) (fun es hes => ?_)
      · walk_at "w"
        refine ⟨_, at_str (i := g) (by omega) rfl, ?_⟩
        walk_at "w"
        refine ⟨⟨ok g (by omega), str_plain (ws := ["skip", "upto"]) (by decide +kernel)⟩, ?_⟩
        exact q_dec (str_mem (ws := ["skip", "upto"])) ht hf
      · have := hes.few
        exact ⟨gs, es, _, _, rfl, rfl, fun g hg => by have := (hes.all g hg).2.1; omega, by omega⟩
    rintro _ _ ⟨gs2, hs, u5, u6, rfl, rfl, k1, k2⟩
    refine ⟨fun Γ s => ∃ (gs hs : List Nat) (u5 u6 : Option D), Γ = [some (.val (.ref p)), some (.lst (ws.map D.str)), some (.int at_), some (.lst (lk5.map D.str)), some (.lst (plD gs)), u5, u6, some (.lst (plD hs))] ∧ s = st0 n (some (p, q)) ∧ (∀ g ∈ hs, g < ws.length) ∧ hs.length ≤ 10, ?_, ?_⟩
    · walk_at "w"
      refine ⟨_, at_str a1 rfl, ?_⟩
      walk_at "w"
      refine ⟨⟨ok _ a1, str_plain (ws := ["case", "jump"]) (by decide +kernel)⟩, ?_⟩
      walk_at "w"
      refine .dec (fun _ => ?_) (fun _ => ?_)
      · walk_at "w"
        refine ⟨by rw [List.length_map]; omega, ?_⟩
        refine lc_places (b := 0) (k := ws.length) (fun g => wAt ws g ∈ (["cut", "take"] : List Str)) rfl (by rw [List.length_map]; omega) (by omega) (fun _ => rfl) (fun g Q' h1 h2 ht hf => ?_) (fun es hes => ?_)
        · walk_at "w"
          refine ⟨_, at_str (i := g) (by omega) rfl, ?_⟩
          walk_at "w"
          refine ⟨⟨ok g (by omega), str_plain (ws := ["cut", "take"]) (by decide +kernel)⟩, ?_⟩
          exact q_dec (str_mem (ws := ["cut", "take"])) ht hf
        · have := hes.few
          exact ⟨gs2, es, _, _, rfl, rfl, fun g hg => by have := (hes.all g hg).2.1; omega, by omega⟩
      · walk_at "w"
        exact ⟨gs2, hs, _, _, rfl, rfl, k1, k2⟩
    clear k1 k2 gs2 hs u5 u6
    rintro _ _ ⟨gs2, hs, u5, u6, rfl, rfl, k1, k2⟩
    refine ⟨fun Γ s => ∃ (gs hs : List Nat) (u5 u6 : Option D) (n' : Nat), Γ = [some (.val (.ref p)), some (.lst (ws.map D.str)), some (.int at_), some (.lst (lk5.map D.str)), some (.lst (plD gs)), u5, u6, some (.lst (plD hs))] ∧ s = st0 n' (some (p, q)) ∧ n' ≤ n + 1 ∧ (∀ g ∈ hs, g < ws.length) ∧ hs.length ≤ 100 ∧ 0 < hs.length, ?_, ?_⟩
    · walk_at "w"
      refine ⟨⟨1, 1, by decide, by decide, pl_plain _, fun d hd => nomatch hd⟩, ?_⟩
      walk_at "w"
      refine .dec (fun he => ?_) (fun he => ?_)
      rotate_left
      walk_at "draw"
      intro r r0 r1
      walk_at "w"
      refine .dec (fun _ => ?_) (fun _ => ?_)
      rotate_left
      · walk_at "w"
        exact ⟨gs2, hs, _, _, n + 1, rfl, rfl, by omega, k1, by omega, List.length_pos_iff.mpr fun z => he (plD_nil.mpr z)⟩
      all_goals
        walk_at "w"
        refine ⟨⟨by omega, by omega, by omega, by rw [List.length_map]; omega, by rw [List.length_map]; omega⟩, ?_⟩
        walk_at "w"
        refine ⟨⟨by omega, by omega, by omega, by rw [List.length_map]; omega, by rw [List.length_map]; omega⟩, ?_⟩
        have e1 : rgD 0 ↑(List.map D.str ws).length = plD ((List.range (ws.length - 0)).map (0 + ·)) := rgD_pl rfl (by rw [List.length_map])
        have e2 : rgD (↑at_ + 1) ↑(List.map D.str ws).length = plD ((List.range (ws.length - (at_ + 1))).map (at_ + 1 + ·)) := rgD_pl (by omega) (by rw [List.length_map])
        rw [e1, e2]
        walk_at "w"
        refine ⟨⟨by decide, by decide, ?_⟩, ?_⟩
        · show (plD _).length * 2 ≤ sizeLine
          exact le1000 (by rw [List.length_map, List.length_map, List.length_range]; omega)
        walk_at "w"
        refine ⟨?_, ?_⟩
        · show (plD _).length + (List.replicate 2 (plD _)).flatten.length ≤ sizeLine
          exact le1000 (by rw [rep_len, List.length_map, List.length_map, List.length_range, List.length_map, List.length_map, List.length_range]; omega)
        walk_at "w"
        rw [plD_two]
        refine ⟨gs2, _, _, _, _, rfl, rfl, by walk_at "n", fun g hg => ?_, ?_, ?_⟩
        · simp only [List.mem_append, List.mem_map, List.mem_range] at hg
          rcases hg with ⟨a, ha, rfl⟩ | ⟨a, ha, rfl⟩ | ⟨a, ha, rfl⟩ <;> omega
        · simp only [List.length_append, List.length_map, List.length_range]; omega
        · simp only [List.length_append, List.length_map, List.length_range]; omega
    rintro _ _ ⟨gs3, hs, u5, u6, n', rfl, rfl, k0, k1, k2, k3⟩
    walk_at "w"
    refine i_pickP ⟨by walk_at "n", k3, by omega⟩ (fun g hg => ?_)
    walk_at "w"
    exact h _ _ ⟨k1 g hg, fun z => absurd hq z⟩ (by walk_at "n")
end
end Lw

namespace Lw
open PySem L2
open Evl Da
local macro_rules
  | `(tactic| walk_at "f") => `(tactic| first | exact lookF_put | exact lookF_hit | exact (lookF_skip (by decide +kernel) lookF_hit) | exact (lookF_skip (by decide +kernel) (lookF_skip (by decide +kernel) lookF_hit)) | exact (lookF_skip (by decide +kernel) (lookF_skip (by decide +kernel) (lookF_skip (by decide +kernel) lookF_hit))) | exact (lookF_skip (by decide +kernel) (lookF_skip (by decide +kernel) (lookF_skip (by decide +kernel) (lookF_skip (by decide +kernel) lookF_hit)))) | exact (lookF_skip (by decide +kernel) (lookF_skip (by decide +kernel) (lookF_skip (by decide +kernel) (lookF_skip (by decide +kernel) (lookF_skip (by decide +kernel) lookF_hit))))) | exact (lookF_skip (by decide +kernel) (lookF_skip (by decide +kernel) (lookF_skip (by decide +kernel) (lookF_skip (by decide +kernel) (lookF_skip (by decide +kernel) (lookF_skip (by decide +kernel) lookF_hit)))))) | ((refine lookF_other (by decide +kernel) ?_); walk_at "f") | ((refine lookF_skip (by decide +kernel) ?_); walk_at "f"))
  | `(tactic| walk_at "fl") => `(tactic| first | exact Nat.zero_lt_succ _ | ((refine putFD_lt ?_); walk_at "fl"))
  | `(tactic| walk_at "a") => `(tactic| first | exact le1000 (Nat.le_of_ble_eq_true rfl) | exact rfl | decide +kernel | exact And.intro (by with_reducible assumption) (by with_reducible assumption) | exact And.intro (And.intro (by with_reducible assumption) (by with_reducible assumption)) (by walk_at "fl"))
  | `(tactic| walk_at "w") => `(tactic| ((conv => whnf); repeat ((first | ((with_reducible refine And.intro ?_ ?_); (focus (walk_at "a"))) | ((with_reducible refine Br.yes ?_ ?_); (focus (first | exact rfl | decide +kernel))) | ((with_reducible refine Br.no ?_ ?_); (focus (first | exact rfl | decide +kernel))) | ((with_reducible refine ex_fld ?_); (refine fld_w (by walk_at "f") ?_)) | ((with_reducible refine ex_at ?_); (refine at_w rfl ?_))); (conv => whnf))))
  | `(tactic| walk_at "n") => `(tactic| ((try dsimp only [st0, st1, S.at, S.drop, S.own, S.put, S.frz, Src.n] at *); omega))
  | `(tactic| walk_at "draw") => `(tactic| ((try walk_at "w"); (refine i_draw ⟨by walk_at "n", by walk_at "n", by walk_at "n"⟩ ?_)))
section
variable {P : Program} {w : World} {K : PySem.W.Frag} {mg : Str → Option Value} {base : Heap}
theorem i_goal {p q : Addr} {ws : List Str} {at_ n : Nat} {Q : D → Nat → Prop} {X : XD} (h : n < 549755813000 ∧ at_ < ws.length ∧ ws.length ≤ 8) (hw : Wds ws) (k : ∀ (g : Nat) n', Gok ws at_ g → n' ≤ n + 3 → Q (.int g) n') : dGoal (some (p, q)) (.val (.ref p)) (.lst (ws.map D.str)) (.int at_) n Q X := by
  unfold dGoal
  exact ⟨⟨p, q, rfl, rfl⟩, ws, at_, rfl, rfl, h, hw, k⟩
theorem mulW {i j : Int} (hi : i.natAbs < 2 ^ 40) (hj : j.natAbs < 2 ^ 40) : CMulW i j := by
  have h1 : i.natAbs.log2 < 40 := log2_small hi (by decide)
  have h2 : j.natAbs.log2 < 40 := log2_small hj (by decide)
  show i.natAbs.log2 + j.natAbs.log2 < 1000000
  omega
@[irreducible] def dWays : R4 := fun pn a b c d n Q _ => IsPen pn a ∧ ∃ (ns ws : List Str) (at_ : Nat), b = .lst (ns.map D.str) ∧ c = .lst (ws.map D.str) ∧ d = .int at_ ∧ (n < 549755812000 ∧ at_ < ws.length ∧ ws.length ≤ 8 ∧ ns.length = ws.length) ∧ Wds ws ∧
  ∀ (wy : List (Int × Nat)) n', (wy.map (·.1)).Nodup → (∀ y ∈ wy, 0 ≤ y.1 ∧ y.1 ≤ 5 ∧ Gok ws at_ y.2) → wy.length ≤ 5 → n' ≤ n + 30 → Q (.lst (wy.map (wayD ns))) n'
theorem ok_law_ways (T : Tx w K mg) : FnOk P w K mg base CX0 4 T.f_law_ways T.d_law_ways ["_law_pen", "_law_names_here", "_law_words_here", "_law_at"] (Da.upSp K (sp4 dWays)) := by
  refine T.F_law_ways.ok sc_law_ways (fun vs H Q E h => Da.up_len4 h) (fun cdv A outer s H vs Q E hr h => ?_)
  refine ⟨_, (pss_cons (ps_set (i := 4) sc_law_ways.nd rfl (Or.inr rfl) (pe_call (ok_law_draw T) (hr.mono (by decide)) rfl T.m_law_draw T.F_law_draw.kp T.b_law_draw .nil pass0 (pa_cons (pv 0) (pa_cons pe_int pa_nil))))
      (pss_cons (ps_set (i := 5) sc_law_ways.nd rfl (Or.inr rfl) (pe_call (ok_law_pick T) (hr.mono (by decide)) rfl T.m_law_pick T.F_law_pick.kp T.b_law_pick .nil pass0 (pa_cons (pv 0) (pa_cons (pe_lst (pa_cons pe_int (pa_cons pe_int pa_nil))) pa_nil))))
      (pss_cons (ps_setLc (i := 6) rfl sc_law_ways.nd rfl rfl (sw_true rfl rfl rfl (by decide +kernel)) (pi_range1 (by rfl) T.z_range (pa_cons (pe_call (ok_law_draw T) (hr.mono (by decide)) rfl T.m_law_draw T.F_law_draw.kp T.b_law_draw .nil pass0 (pa_cons (pv 0) (pa_cons pe_int pa_nil))) pa_nil)) (blkOk_by (own := [("_law_k", 7)]) (N := ["_law_pen", "_law_names_here", "_law_words_here", "_law_at", "_law_start", "_law_turn", "_law_values", "_law_k", "_law_value"]) (sc := defScope s_law_ways) (by decide +kernel)) (fun _ _ _ _ _ => (pg_name (i := 7) sc_law_ways.nd rfl (Or.inl rfl))) (fun _ _ _ _ _ => pts_nil) (fun _ _ _ _ _ => (pe_op op_modN (pe_callTy call_int1 (by rfl) T.z_int (by decide +kernel) (pa_cons (pe_op (Da.addK (K := K) rfl) (pv 4) (pe_op (Da.mulK (K := K) rfl) (pv 5) (pv 7))) pa_nil)) pe_int)))
      (pss_one (ps_ret (pe_lc rfl sc_law_ways.nd (Da.seqK (K := K) rfl (pv 6)) (blkOk_by (own := [("_law_value", 8)]) (N := ["_law_pen", "_law_names_here", "_law_words_here", "_law_at", "_law_start", "_law_turn", "_law_values", "_law_k", "_law_value"]) (sc := defScope s_law_ways) (by decide +kernel)) (fun _ _ _ _ _ => (pg_name (i := 8) sc_law_ways.nd rfl (Or.inl rfl))) (fun _ _ _ _ _ => pts_nil) (fun _ _ _ _ _ => (pe_tup (pa_cons (pv 8) (pa_cons (pe_ix (Da.ixK (K := K) rfl) (pv 1) (pe_call (ok_law_goal T) (hr.mono (by decide)) rfl T.m_law_goal T.F_law_goal.kp T.b_law_goal .nil pass0 (pa_cons (pv 0) (pa_cons (pv 2) (pa_cons (pv 3) pa_nil)))) (fun _ _ => rfl)) pa_nil)))))))))), Da.go_up4 h ?_⟩
  intro pn a b c d n Q _ h
  unfold dWays at h
  obtain ⟨⟨p, q, rfl, rfl⟩, ns, ws, at_, rfl, rfl, rfl, ⟨n1, a1, w8, hl⟩, hw, h⟩ := h
  walk_at "draw"
  intro st s0 s1
  walk_at "w"
  refine i_pickI (ns := [1, 5]) ⟨by walk_at "n", by decide, by decide⟩ (fun tn ht => ?_)
  walk_at "draw"
  intro m m0 m1
  walk_at "w"
  refine ⟨by omega, ?_⟩
  refine lc_inv (fun i acc s => acc = (vals st tn i).map D.int ∧ s = st0 (n + 3) (some (p, q))) (le1000 (by walk_at "n")) ⟨rfl, rfl⟩ ?_ ?_
  · rintro j e _ _ hj he hl ⟨rfl, rfl⟩
    obtain ⟨hj, rfl⟩ := rng_at he
    have htn : tn.natAbs ≤ 5 := by
      rcases List.mem_cons.mp ht with e | ht
      · rw [e]; decide
      · rw [List.mem_singleton.mp ht]; decide
    walk_at "w"
    refine ⟨mulW (by omega) (by omega), ?_⟩
    walk_at "w"
    refine ⟨(by decide : (6 : Int) ≠ 0), ?_⟩
    walk_at "w"
    refine ⟨?_, rfl⟩
    rw [vals_succ, List.map_append]
    have e : st + tn * (0 + (j : Int)) = st + tn * (j : Int) := by rw [Int.zero_add]
    rw [e]
    rfl
  · rintro _ _ hl2 ⟨rfl, rfl⟩
    have em : (Src.rng 0 m.toNat).n = m.toNat := rfl
    rw [em]
    have hin := @vals_in st tn m.toNat
    have hnd := vals_nodup (m := m.toNat) s0 s1 ht (by omega)
    have hvl := @vals_len st tn m.toNat
    generalize vals st tn m.toNat = vs at hin hnd hvl ⊢
    walk_at "w"
    refine lc_inv (fun i acc s => ∃ (wy : List (Int × Nat)) (n' : Nat), acc = wy.map (wayD ns) ∧ s = st0 n' (some (p, q)) ∧ n' ≤ n + 3 + 3 * i ∧ wy.map (·.1) = vs.take i ∧ ∀ y ∈ wy, Gok ws at_ y.2) (le1000 (by show (vs.map D.int).length ≤ 1000; rw [List.length_map]; omega)) ⟨[], n + 3, rfl, rfl, by omega, rfl, fun y hy => nomatch hy⟩ ?_ ?_
    · rintro j e _ _ hj he hl3 ⟨wy, n', rfl, rfl, g1, g2, g3⟩
      have he := seq_at he
      rw [List.getElem?_map] at he
      obtain ⟨v, hv, rfl⟩ := Option.map_eq_some_iff.mp he
      have hjv : j < vs.length := (List.getElem?_eq_some_iff.mp hv).1
      walk_at "w"
      refine i_goal ⟨by walk_at "n", a1, w8⟩ hw (fun g n2 hg h2 => ?_)
      have hg1 := hg.1
      walk_at "w"
      refine ⟨.str (wAt ns g), at_str (by omega) rfl, ?_⟩
      walk_at "w"
      refine ⟨wy ++ [(v, g)], n2, by rw [List.map_append]; rfl, rfl, by walk_at "n", ?_, fun y hy => ?_⟩
      · rw [List.map_append, g2, List.take_succ, hv]
        rfl
      · rcases List.mem_append.mp hy with hy | hy
        · exact g3 y hy
        · rw [List.mem_singleton] at hy
          rw [hy]
          exact hg
    · rintro _ _ hl3 ⟨wy, n', rfl, rfl, g1, g2, g3⟩
      have en : (Src.seq (vs.map D.int)).n = vs.length := List.length_map _
      rw [en, List.take_length] at g2
      rw [en] at g1
      walk_at "w"
      refine h wy n' (by rw [g2]; exact hnd) (fun y hy => ?_) ?_ (by omega)
      · have : y.1 ∈ vs := by rw [← g2]; exact List.mem_map_of_mem hy
        exact ⟨(hin _ this).1, (hin _ this).2, g3 y hy⟩
      · have := congrArg List.length g2
        rw [List.length_map] at this
        omega
theorem i_ways {p q : Addr} {ns ws : List Str} {at_ n : Nat} {Q : D → Nat → Prop} {X : XD} (h : n < 549755812000 ∧ at_ < ws.length ∧ ws.length ≤ 8 ∧ ns.length = ws.length) (hw : Wds ws) (k : ∀ (wy : List (Int × Nat)) n', (wy.map (·.1)).Nodup → (∀ y ∈ wy, 0 ≤ y.1 ∧ y.1 ≤ 5 ∧ Gok ws at_ y.2) → wy.length ≤ 5 → n' ≤ n + 30 → Q (.lst (wy.map (wayD ns))) n') : dWays (some (p, q)) (.val (.ref p)) (.lst (ns.map D.str)) (.lst (ws.map D.str)) (.int at_) n Q X := by
  unfold dWays
  exact ⟨⟨p, q, rfl, rfl⟩, ns, ws, at_, rfl, rfl, rfl, h, hw, k⟩
@[irreducible] def dLine : R4 := fun pn a b c d n Q _ => IsPen pn a ∧ ∃ (ns ws : List Str) (at_ : Nat), b = .lst (ns.map D.str) ∧ c = .lst (ws.map D.str) ∧ d = .int at_ ∧ (n < 549755811000 ∧ at_ < ws.length ∧ ws.length ≤ 8 ∧ ns.length = ws.length) ∧ Wds ws ∧
  ∀ (li : Li) n', LiOk ws at_ li → n' ≤ n + 50 → Q (liD ns false li) n'
theorem ok_law_line (T : Tx w K mg) : FnOk P w K mg base CX0 5 T.f_law_line T.d_law_line ["_law_pen", "_law_names_here", "_law_words_here", "_law_at"] (Da.upSp K (sp4 dLine)) := by
  refine T.F_law_line.ok sc_law_line (fun vs H Q E h => Da.up_len4 h) (fun cdv A outer s H vs Q E hr h => ?_)
  refine ⟨_, (pss_cons (ps_set (i := 4) sc_law_line.nd rfl (Or.inl rfl) (pe_ix (Da.ixK (K := K) rfl) (pv 2) (pv 3) (fun _ _ => rfl)))
      (pss_cons (ps_if (pt_cmpR (Da.inK (K := K) rfl (Da.u65 hr)) (pv 4) (pe_tup (pa_cons pe_str (pa_cons pe_str pa_nil))) (by rfl))
        (pss_one (ps_ret (pe_tup (pa_cons (pv 4) pa_nil))))
        pss_nil)
      (pss_cons (ps_set (i := 5) sc_law_line.nd rfl (Or.inl rfl) (pe_ix (Da.ixK (K := K) rfl) (pv 1) (pe_call (ok_law_goal T) (hr.mono (by decide)) rfl T.m_law_goal T.F_law_goal.kp T.b_law_goal .nil pass0 (pa_cons (pv 0) (pa_cons (pv 2) (pa_cons (pv 3) pa_nil)))) (fun _ _ => rfl)))
      (pss_cons (ps_if (pt_cmpR (Da.eqK (K := K) rfl hr.units) (pv 4) pe_str (nomark _))
        (pss_one (ps_ret (pe_tup (pa_cons (pv 4) (pa_cons (pv 5) pa_nil)))))
        pss_nil)
      (pss_cons (ps_if (pt_cmpR (Da.eqK (K := K) rfl hr.units) (pv 4) pe_str (nomark _))
        (pss_one (ps_ret (pe_tup (pa_cons (pv 4) (pa_cons (pe_call (ok_law_ways T) (hr.mono (by decide)) rfl T.m_law_ways T.F_law_ways.kp T.b_law_ways .nil pass0 (pa_cons (pv 0) (pa_cons (pv 1) (pa_cons (pv 2) (pa_cons (pv 3) pa_nil))))) (pa_cons (pv 5) pa_nil))))))
        pss_nil)
      (pss_cons (ps_if (pt_cmpR (Da.eqK (K := K) rfl hr.units) (pv 4) pe_str (nomark _))
        (pss_one (ps_ret (pe_tup (pa_cons (pv 4) (pa_cons (pe_call (ok_law_draw T) (hr.mono (by decide)) rfl T.m_law_draw T.F_law_draw.kp T.b_law_draw .nil pass0 (pa_cons (pv 0) (pa_cons pe_int pa_nil))) (pa_cons (pv 5) (pa_cons (pe_ix (Da.ixK (K := K) rfl) (pv 1) (pe_call (ok_law_goal T) (hr.mono (by decide)) rfl T.m_law_goal T.F_law_goal.kp T.b_law_goal .nil pass0 (pa_cons (pv 0) (pa_cons (pv 2) (pa_cons (pv 3) pa_nil)))) (fun _ _ => rfl)) pa_nil)))))))
        pss_nil)
      (pss_cons (ps_set (i := 6) sc_law_line.nd rfl (Or.inl rfl) (pe_disp (pps_cons pe_str pe_int (pps_cons pe_str pe_int (pps_cons pe_str pe_int (pps_cons pe_str pe_int (pps_cons pe_str (pe_un un_neg pe_int) pps_nil))))) (by rfl) (by rfl) (fun z => by cases z) (by decide)))
      (pss_cons (ps_set (i := 7) sc_law_line.nd rfl (Or.inl rfl) (pe_disp (pps_cons pe_str pe_int (pps_cons pe_str pe_int (pps_cons pe_str pe_int (pps_cons pe_str pe_int (pps_cons pe_str pe_int pps_nil))))) (by rfl) (by rfl) (fun z => by cases z) (by decide)))
      (pss_one (ps_ret (pe_tup (pa_cons (pv 4) (pa_cons (pe_op (Da.addK (K := K) rfl) (pe_dget (hu_of hr) (pv 6) (pv 4) (fun _ _ => rfl)) (pe_call (ok_law_draw T) (hr.mono (by decide)) rfl T.m_law_draw T.F_law_draw.kp T.b_law_draw .nil pass0 (pa_cons (pv 0) (pa_cons (pe_dget (hu_of hr) (pv 7) (pv 4) (fun _ _ => rfl)) pa_nil)))) (pa_cons (pv 5) pa_nil)))))))))))))), Da.go_up4 h ?_⟩
  intro pn a b c d n Q _ h
  unfold dLine at h
  obtain ⟨⟨p, q, rfl, rfl⟩, ns, ws, at_, rfl, rfl, rfl, ⟨n1, a1, w8, hl⟩, hw, h⟩ := h
  have hwd := hw.all _ (wAt_mem a1)
  walk_at "w"
  refine ⟨_, at_str a1 rfl, ?_⟩
  walk_at "w"
  refine ⟨⟨wd_ok hwd, str_plain (ws := ["cut", "refuse"]) (by decide +kernel)⟩, ?_⟩
  walk_at "w"
  refine .dec (fun hc => ?_) (fun hc => ?_)
  · have hc := str_mem (ws := ["cut", "refuse"]).mp hc
    walk_at "w"
    refine h (.fin (wAt ws at_)) n ⟨rfl, ?_⟩ (by omega)
    rcases List.mem_cons.mp hc with e | e
    · exact .inl e
    · exact .inr (List.mem_singleton.mp e)
  have hc : wAt ws at_ ∉ (["cut", "refuse"] : List Str) := fun z => hc (str_mem (ws := ["cut", "refuse"]).mpr z)
  walk_at "w"
  refine i_goal ⟨by walk_at "n", a1, w8⟩ hw (fun g n2 hg h2 => ?_)
  have hg1 := hg.1
  walk_at "w"
  refine ⟨.str (wAt ns g), at_str (by omega) rfl, ?_⟩
  walk_at "w"
  refine .dec (fun ht => ?_) (fun ht => ?_)
  · walk_at "w"
    rw [ht]
    exact h (.take g) n2 ⟨ht, hg⟩ (by walk_at "n")
  walk_at "w"
  refine .dec (fun hk => ?_) (fun hk => ?_)
  · walk_at "w"
    refine i_ways ⟨by walk_at "n", a1, w8, hl⟩ hw (fun wy n3 k1 k2 k3 k4 => ?_)
    walk_at "w"
    rw [hk]
    exact h (.case wy g) n3 ⟨hk, k1, k2, k3, hg⟩ (by walk_at "n")
  walk_at "w"
  refine .dec (fun hu => ?_) (fun hu => ?_)
  · walk_at "draw"
    intro c0 c1 c2
    walk_at "w"
    refine i_goal ⟨by walk_at "n", a1, w8⟩ hw (fun g3 n3 hg3 h3 => ?_)
    have hg3' := hg3.1
    walk_at "w"
    refine ⟨.str (wAt ns g3), at_str (by omega) rfl, ?_⟩
    walk_at "w"
    rw [hu]
    exact h (.upto c0 g g3) n3 ⟨hu, c1, by omega, hg, hg3⟩ (by walk_at "n")
  obtain ⟨lo, mn, l1, l2, l3, l4, l5⟩ := num_of (ten hwd hc ht hk hu)
  walk_at "w"
  refine ⟨_, l1, ?_⟩
  walk_at "w"
  refine ⟨_, l2, ?_⟩
  walk_at "draw"
  intro r r0 r1
  walk_at "w"
  exact h (.num (wAt ws at_) (lo + r) g) (n2 + 1) ⟨rfl, l5 r r0 r1, hg⟩ (by walk_at "n")
theorem i_line {p q : Addr} {ns ws : List Str} {at_ n : Nat} {Q : D → Nat → Prop} {X : XD} (h : n < 549755811000 ∧ at_ < ws.length ∧ ws.length ≤ 8 ∧ ns.length = ws.length) (hw : Wds ws) (k : ∀ (li : Li) n', LiOk ws at_ li → n' ≤ n + 50 → Q (liD ns false li) n') : dLine (some (p, q)) (.val (.ref p)) (.lst (ns.map D.str)) (.lst (ws.map D.str)) (.int at_) n Q X := by
  unfold dLine
  exact ⟨⟨p, q, rfl, rfl⟩, ns, ws, at_, rfl, rfl, rfl, h, hw, k⟩
theorem i_words {p q : Addr} {m n : Nat} {z : Int} (hz : z = (m : Int)) {Q : D → Nat → Prop} {X : XD} (h : n < 549755813000 ∧ 1 ≤ m ∧ m ≤ 8) (k : ∀ (ws : List Str) n', ws.length = m → Wds ws → n' ≤ n + 100 → Q (.lst (ws.map D.str)) n') : dWords (some (p, q)) (.val (.ref p)) (.int z) n Q X := by
  unfold dWords
  exact ⟨⟨p, q, rfl, rfl⟩, m, by rw [hz], h, k⟩
theorem i_names {p q : Addr} {m n : Nat} {z : Int} (hz : z = (m : Int)) {Q : D → Nat → Prop} {X : XD} (h : n < 549755812000 ∧ m ≤ 8) (k : ∀ (ns : List Str) n', ns.length = m → ns.Nodup → (∀ x ∈ ns, Nm x) → n' ≤ n + 200 → Q (.lst (ns.map D.str)) n') : dNames (some (p, q)) (.val (.ref p)) (.int z) n Q X := by
  unfold dNames
  exact ⟨⟨p, q, rfl, rfl⟩, m, by rw [hz], h, k⟩
/-- lines of up to so many -/
@[irreducible] def dLines : R2' := fun pn a b n Q _ => IsPen pn a ∧ ∃ m : Nat, b = .int m ∧ (n < 549755810000 ∧ 4 ≤ m ∧ m ≤ 8) ∧ ∀ (ns ws : List Str) (ls : List Li) n', Drawn ns ws ls → n' ≤ n + 800 → Q (.lst (linesD ns ls false)) n'
theorem ok_law_lines (T : Tx w K mg) : FnOk P w K mg base CX0 6 T.f_law_lines T.d_law_lines ["_law_pen", "_law_most"] (Da.upSp K (sp2 dLines)) := by
  refine T.F_law_lines.ok sc_law_lines (fun vs H Q E h => Da.up_len2 h) (fun cdv A outer s H vs Q E hr h => ?_)
  refine ⟨_, (pss_cons (ps_set (i := 2) sc_law_lines.nd rfl (Or.inl rfl) (pe_ifExp (pt_cmpR (Da.eqK (K := K) rfl hr.units) (pe_call (ok_law_draw T) (hr.mono (by decide)) rfl T.m_law_draw T.F_law_draw.kp T.b_law_draw .nil pass0 (pa_cons (pv 0) (pa_cons pe_int pa_nil))) pe_int (nomark _)) (pe_call (ok_law_draw T) (hr.mono (by decide)) rfl T.m_law_draw T.F_law_draw.kp T.b_law_draw .nil pass0 (pa_cons (pv 0) (pa_cons (pv 1) pa_nil))) (pe_call (ok_law_draw T) (hr.mono (by decide)) rfl T.m_law_draw T.F_law_draw.kp T.b_law_draw .nil pass0 (pa_cons (pv 0) (pa_cons (pe_op op_sub (pv 1) pe_int) pa_nil)))))
      (pss_cons (ps_set (i := 3) sc_law_lines.nd rfl (Or.inr rfl) (pe_call (ok_law_words T) (hr.mono (by decide)) rfl T.m_law_words T.F_law_words.kp T.b_law_words .nil pass0 (pa_cons (pv 0) (pa_cons (pe_op op_sub (pv 1) (pv 2)) pa_nil))))
      (pss_cons (ps_set (i := 4) sc_law_lines.nd rfl (Or.inr rfl) (pe_call (ok_law_names T) (hr.mono (by decide)) rfl T.m_law_names T.F_law_names.kp T.b_law_names .nil pass0 (pa_cons (pv 0) (pa_cons (pe_callB (Da.lenK (K := K) rfl) (by rfl) T.z_len (by decide +kernel) (pa_cons (pv 3) pa_nil)) pa_nil))))
      (pss_one (ps_ret (pe_lc rfl sc_law_lines.nd (pi_range1 (by rfl) T.z_range (pa_cons (pe_callB (Da.lenK (K := K) rfl) (by rfl) T.z_len (by decide +kernel) (pa_cons (pv 3) pa_nil)) pa_nil)) (blkOk_by (own := [("_law_at", 5)]) (N := ["_law_pen", "_law_most", "_law_few", "_law_words_here", "_law_names_here", "_law_at"]) (sc := defScope s_law_lines) (by decide +kernel)) (fun _ _ _ _ _ => (pg_name (i := 5) sc_law_lines.nd rfl (Or.inl rfl))) (fun _ _ _ _ _ => pts_nil) (fun _ _ _ _ _ => (pe_tup (pa_cons (pe_ix (Da.ixK (K := K) rfl) (pv 4) (pv 5) (fun _ _ => rfl)) (pa_cons (pe_call (ok_law_line T) (hr.mono (by decide)) rfl T.m_law_line T.F_law_line.kp T.b_law_line .nil pass0 (pa_cons (pv 0) (pa_cons (pv 4) (pa_cons (pv 3) (pa_cons (pv 5) pa_nil))))) pa_nil)))))))))), Da.go_up2 h ?_⟩
  intro pn a b n Q _ h
  unfold dLines at h
  obtain ⟨⟨p, q, rfl, rfl⟩, m, rfl, ⟨n1, m4, m8⟩, h⟩ := h
  walk_at "draw"
  intro r r0 r1
  walk_at "w"
  have few : ∀ f : Int, 0 ≤ f → f < (m : Int) → ∃ k : Nat, (m : Int) - f = (k : Int) ∧ 1 ≤ k ∧ k ≤ 8 := fun f f0 f1 => ⟨((m : Int) - f).toNat, by omega, by omega, by omega⟩
  refine .dec (fun _ => ?_) (fun _ => ?_)
  all_goals
    walk_at "draw"
    intro f f0 f1
    obtain ⟨k, ek, k1, k8⟩ := few f f0 (by omega)
    walk_at "w"
    refine i_words (m := k) ek ⟨by walk_at "n", k1, k8⟩ (fun ws n2 wl hw h2 => ?_)
    walk_at "w"
    refine i_names (m := k) (by rw [List.length_map, wl]) ⟨by walk_at "n", k8⟩ (fun ns n3 nl nd nm h3 => ?_)
    walk_at "w"
    refine ⟨by rw [List.length_map]; omega, ?_⟩
    refine lc_inv (fun i acc s => ∃ (ls : List Li) (n' : Nat), acc = linesD ns ls false ∧ s = st0 n' (some (p, q)) ∧ n' ≤ n3 + 50 * i ∧ ls.length = i ∧ ∀ j li, ls[j]? = some li → LiOk ws j li) (le1000 (by show ((ws.map D.str).length : Int).toNat ≤ 1000; rw [List.length_map]; omega)) ⟨[], n3, rfl, rfl, by omega, rfl, fun j li hj => nomatch hj⟩ ?_ ?_
    · rintro j e _ _ hj he hl ⟨ls, n', rfl, rfl, g1, g2, g3⟩
      obtain ⟨hj, rfl⟩ := rng_at he
      rw [List.length_map] at hj
      walk_at "w"
      refine ⟨.str (wAt ns j), at_str (by omega) (by omega), ?_⟩
      walk_at "w"
      rw [Int.zero_add]
      refine i_line ⟨by walk_at "n", by omega, by omega, by omega⟩ hw (fun li n4 hli h4 => ?_)
      have fin : ∃ (ls' : List Li) (n' : Nat), linesD ns ls false ++ [pairD ns false (j, li)] = linesD ns ls' false ∧ st0 n4 (some (p, q)) = st0 n' (some (p, q)) ∧ n' ≤ n3 + 50 * (j + 1) ∧ ls'.length = j + 1 ∧ ∀ j li, ls'[j]? = some li → LiOk ws j li := by
        refine ⟨ls ++ [li], n4, by rw [linesD_app, g2], rfl, by walk_at "n", by rw [List.length_append, g2]; rfl, fun i l hi => ?_⟩
        by_cases hij : i < ls.length
        · rw [List.getElem?_append_left hij] at hi
          exact g3 i l hi
        · rw [List.getElem?_append_right (by omega)] at hi
          have hlt := (List.getElem?_eq_some_iff.mp hi).1
          have : i - ls.length = 0 := by simp only [List.length_singleton] at hlt; omega
          rw [this] at hi
          cases hi
          have : i = j := by omega
          rw [this]
          exact hli
      cases li <;> (walk_at "w"; exact fin)
    · rintro _ _ hl ⟨ls, n', rfl, rfl, g1, g2, g3⟩
      have en : (Src.rng 0 ((ws.map D.str).length : Int).toNat).n = ws.length := by show ((ws.map D.str).length : Int).toNat = _; rw [List.length_map]; omega
      rw [en] at g1 g2
      walk_at "w"
      exact h ns ws ls n' ⟨by omega, g2, by omega, by omega, nd, nm, hw, g3⟩ (by walk_at "n")
end
end Lw

namespace Lw
open PySem L2
open Evl Da
local macro_rules
  | `(tactic| walk_at "f") => `(tactic| first | exact lookF_put | exact lookF_hit | exact (lookF_skip (by decide +kernel) lookF_hit) | exact (lookF_skip (by decide +kernel) (lookF_skip (by decide +kernel) lookF_hit)) | exact (lookF_skip (by decide +kernel) (lookF_skip (by decide +kernel) (lookF_skip (by decide +kernel) lookF_hit))) | exact (lookF_skip (by decide +kernel) (lookF_skip (by decide +kernel) (lookF_skip (by decide +kernel) (lookF_skip (by decide +kernel) lookF_hit)))) | exact (lookF_skip (by decide +kernel) (lookF_skip (by decide +kernel) (lookF_skip (by decide +kernel) (lookF_skip (by decide +kernel) (lookF_skip (by decide +kernel) lookF_hit))))) | exact (lookF_skip (by decide +kernel) (lookF_skip (by decide +kernel) (lookF_skip (by decide +kernel) (lookF_skip (by decide +kernel) (lookF_skip (by decide +kernel) (lookF_skip (by decide +kernel) lookF_hit)))))) | ((refine lookF_other (by decide +kernel) ?_); walk_at "f") | ((refine lookF_skip (by decide +kernel) ?_); walk_at "f"))
  | `(tactic| walk_at "fl") => `(tactic| first | exact Nat.zero_lt_succ _ | ((refine putFD_lt ?_); walk_at "fl"))
  | `(tactic| walk_at "a") => `(tactic| first | exact le1000 (Nat.le_of_ble_eq_true rfl) | exact rfl | decide +kernel | exact And.intro (by with_reducible assumption) (by with_reducible assumption) | exact And.intro (And.intro (by with_reducible assumption) (by with_reducible assumption)) (by walk_at "fl"))
  | `(tactic| walk_at "w") => `(tactic| ((conv => whnf); repeat ((first | ((with_reducible refine And.intro ?_ ?_); (focus (walk_at "a"))) | ((with_reducible refine Br.yes ?_ ?_); (focus (first | exact rfl | decide +kernel))) | ((with_reducible refine Br.no ?_ ?_); (focus (first | exact rfl | decide +kernel))) | ((with_reducible refine ex_fld ?_); (refine fld_w (by walk_at "f") ?_)) | ((with_reducible refine ex_at ?_); (refine at_w rfl ?_))); (conv => whnf))))
  | `(tactic| walk_at "n") => `(tactic| ((try dsimp only [st0, st1, S.at, S.drop, S.own, S.put, S.frz, Src.n] at *); omega))
  | `(tactic| walk_at "draw") => `(tactic| ((try walk_at "w"); (refine i_draw ⟨by walk_at "n", by walk_at "n", by walk_at "n"⟩ ?_)))
section
variable {P : Program} {w : World} {K : PySem.W.Frag} {mg : Str → Option Value} {base : Heap}
@[irreducible] def dIsName : R1 := fun _ a n Q _ => ∃ x : Str, a = .str x ∧ Nm x ∧ Q (.bl true) n
theorem abc_has : ∀ c : _root_.Fin 26, 97 + c.1 ∈ (Str.ofString "abcdefghijklmnopqrstuvwxyz").cps.toList := by decide +kernel
theorem i_all {acc : List D} {k : Nat} (h : acc = List.replicate k (.bl true)) : ∀ d ∈ acc, d = .bl true := fun d hd => by
  rw [h] at hd
  exact (List.mem_replicate.mp hd).2
theorem ok_is_name (T : Tx w K mg) : FnOk P w K mg base CX0 1 T.f_is_name T.d_is_name ["text"] (Da.upSp K (sp1 dIsName)) := by
  refine T.F_is_name.ok sc_is_name (fun vs H Q E h => Da.up_len1 h) (fun cdv A outer s H vs Q E hr h => ?_)
  refine ⟨_, (pss_one (ps_ret (pe_and (pe_chain op_le op_le pe_int (pe_callB (Da.lenK (K := K) rfl) (by rfl) T.z_len (by decide +kernel) (pa_cons (pv 0) pa_nil)) (pe_glob (v := .int 12) rfl T.m_MOST_LETTERS ⟨_, rfl⟩)) (pe_one (pe_callB (Da.allK (K := K) rfl rfl) (by rfl) T.z_all (by decide +kernel) (pa_cons (pe_lc rfl sc_is_name.nd (pi_str (pv 0)) (blkOk_by (own := [("letter", 1)]) (N := ["text", "letter"]) (sc := defScope s_is_name) (by decide +kernel)) (fun _ _ _ _ _ => (pg_name (i := 1) sc_is_name.nd rfl (Or.inl rfl))) (fun _ _ _ _ _ => pts_nil) (fun _ _ _ _ _ => (pe_cmpR (Da.inK (K := K) rfl (Da.u65 hr)) (pv 1) (pe_glob (v := .str "abcdefghijklmnopqrstuvwxyz") rfl T.m_LETTERS ⟨_, rfl⟩) (by rfl)))) pa_nil)))))), Da.go_up1 h ?_⟩
  intro pn a n Q _ h
  unfold dIsName at h
  obtain ⟨x, rfl, hx, h⟩ := h
  have x1 := hx.lo
  have x2 := hx.hi
  walk_at "w"
  refine ⟨le1000 (by omega), ?_⟩
  walk_at "w"
  refine .y (by omega) ?_
  walk_at "w"
  refine .y (by omega) ?_
  walk_at "w"
  refine lc_inv (fun i acc s => acc = (List.replicate i true).map D.bl ∧ s = st0 n pn) (le1000 (by show x.length ≤ 1000; omega)) ⟨rfl, rfl⟩ ?_ ?_
  · rintro i d _ _ hi hd hl ⟨rfl, rfl⟩
    have hd : (x.cps[i]?).map (fun c => D.str ⟨#[c]⟩) = some d := hd
    obtain ⟨c, hc, rfl⟩ := Option.map_eq_some_iff.mp hd
    obtain ⟨c0, c1⟩ := hx.az c (by rw [← Array.getElem?_toList] at hc; exact List.mem_of_getElem? hc)
    have hab := abc_has ⟨c - 97, by omega⟩
    have e : 97 + (c - 97) = c := by omega
    simp only [e] at hab
    walk_at "w"
    refine ⟨c, rfl, ?_⟩
    walk_at "w"
    refine ⟨?_, rfl⟩
    rw [decide_eq_true hab, List.replicate_succ', List.map_append]
    rfl
  · rintro _ _ hl ⟨rfl, rfl⟩
    walk_at "w"
    refine ⟨_, rfl, ?_⟩
    walk_at "w"
    have e : (List.replicate (Src.chr x).n true).all id = true := by simp
    rw [e]
    exact h
@[irreducible] def dWithin : R2' := fun _ a b n Q _ => ∃ v lo hi : Int, a = .int v ∧ b = .tup [.int lo, .int hi] ∧ (lo ≤ v ∧ v ≤ hi) ∧ Q (.bl true) n
theorem ok_within (T : Tx w K mg) : FnOk P w K mg base CX0 1 T.f_within T.d_within ["number", "bounds"] (Da.upSp K (sp2 dWithin)) := by
  refine T.F_within.ok sc_within (fun vs H Q E h => Da.up_len2 h) (fun cdv A outer s H vs Q E hr h => ?_)
  refine ⟨_, (pss_one (ps_ret (pe_chain op_le op_le (pe_ix (Da.ixK (K := K) rfl) (pv 1) pe_int (fun _ _ => rfl)) (pv 0) (pe_ix (Da.ixK (K := K) rfl) (pv 1) pe_int (fun _ _ => rfl))))), Da.go_up2 h ?_⟩
  intro pn a b n Q _ h
  unfold dWithin at h
  obtain ⟨v, lo, hi, rfl, rfl, ⟨h1, h2⟩, h⟩ := h
  walk_at "w"
  refine .y (by omega) ?_
  walk_at "w"
  rw [decide_eq_true h2]
  exact h
theorem i_within {pn : Option (Addr × Addr)} {v lo hi : Int} {n : Nat} {Q : D → Nat → Prop} {X : XD} (h : lo ≤ v ∧ v ≤ hi) (k : Q (.bl true) n) : dWithin pn (.int v) (.tup [.int lo, .int hi]) n Q X := by
  unfold dWithin
  exact ⟨v, lo, hi, rfl, rfl, h, k⟩
@[irreducible] def dAreWays : R1 := fun _ a n Q _ => ∃ (ns : List Str) (wy : List (Int × Nat)), (a = .lst (wy.map (wayD ns)) ∨ a = .tup (wy.map (wayD ns))) ∧ (wy.map (·.1)).Nodup ∧ (∀ y ∈ wy, 0 ≤ y.1 ∧ y.1 ≤ 5) ∧ wy.length ≤ 1000 ∧ Q (.bl true) n
theorem ok_are_ways (T : Tx w K mg) : FnOk P w K mg base CX0 2 T.f_are_ways T.d_are_ways ["ways"] (Da.upSp K (sp1 dAreWays)) := by
  refine T.F_are_ways.ok sc_are_ways (fun vs H Q E h => Da.up_len1 h) (fun cdv A outer s H vs Q E hr h => ?_)
  refine ⟨_, (pss_cons (Da.ps_own 1 (ps_set (i := 1) sc_are_ways.nd rfl (Or.inl rfl) (pe_lst pa_nil)))
      (pss_cons (ps_for PassesOwn.never rfl (Da.seqK (K := K) rfl (pv 0)) (pg_name (i := 2) sc_are_ways.nd rfl (Or.inl rfl))
        (pss_cons (ps_if (PW.pt (pw_or (pt_cmpR (Da.neK (K := K) rfl hr.units) (pe_callB (Da.lenK (K := K) rfl) (by rfl) T.z_len (by decide +kernel) (pa_cons (pv 2) pa_nil)) pe_int (nomark _)) (pw_or (pt_not (pt_val (pe_call (ok_within T) (hr.mono (by decide)) rfl T.m_within T.F_within.kp T.b_within .nil pass0 (pa_cons (pe_ix (Da.ixK (K := K) rfl) (pv 2) pe_int (fun _ _ => rfl)) (pa_cons (Da.gK (K := K) rfl T.q_VALUES (pe_glob (v := .ref T.a_VALUES) rfl T.m_VALUES rfl)) pa_nil))))) (pw_or1 (pt_cmpR (Da.inK (K := K) rfl (Da.u65 hr)) (pe_ix (Da.ixK (K := K) rfl) (pv 2) pe_int (fun _ _ => rfl)) (pv 1) (by rfl))))))
          (pss_one (ps_ret pe_bl))
          pss_nil)
        (pss_one (ps_expr (Da.bmK (K := K) rfl PySem.F.plainAttrs_list PySem.F.slot_list_append PySem.F.type_list_append mt_append (pv 1) (pa_cons (pe_ix (Da.ixK (K := K) rfl) (pv 2) pe_int (fun _ _ => rfl)) pa_nil))))))
      (pss_one (ps_ret pe_bl)))), Da.go_up1 h ?_⟩
  intro pn a n Q _ h
  unfold dAreWays at h
  obtain ⟨ns, wy, ha, nd, hb, hl, h⟩ := h
  rcases ha with rfl | rfl
  all_goals
    walk_at "w"
    intro l
    walk_at "w"
    refine for_inv (fun i Γ s => ∃ u0 u2 : Option D, Γ = [u0, some (.loc l 1), u2] ∧ s = ⟨[⟨1, l, .lst (((wy.map (·.1)).take i).map D.int), false⟩], n, pn⟩) ⟨_, _, rfl, rfl⟩ ?_ ?_
    · rintro i d _ _ hi hd ⟨u0, u2, rfl, rfl⟩
      have hd := seq_at hd
      rw [List.getElem?_map] at hd
      obtain ⟨y, hy, rfl⟩ := Option.map_eq_some_iff.mp hd
      have hyb := hb y (List.mem_of_getElem? hy)
      have hy1 : (wy.map (·.1))[i]? = some y.1 := by rw [List.getElem?_map, hy]; rfl
      walk_at "w"
      refine i_within hyb ?_
      walk_at "w"
      refine ⟨⟨0, by decide, trivial, int_plain⟩, ?_⟩
      walk_at "w"
      refine .n (fun z => take_nodup nd hy1 (int_mem.mp z)) ?_
      walk_at "w"
      refine ⟨small1000 (by rw [List.length_map, List.length_take, List.length_map]; have hi : i < (wy.map (wayD ns)).length := hi; rw [List.length_map] at hi; omega), ?_⟩
      rw [take_more hy1, List.map_append]
      exact ⟨_, _, rfl, rfl⟩
    · rintro _ _ ⟨u0, u2, rfl, rfl⟩
      walk_at "w"
      exact h
theorem i_are_ways {pn : Option (Addr × Addr)} {ns : List Str} {wy : List (Int × Nat)} {n : Nat} {Q : D → Nat → Prop} {X : XD} (nd : (wy.map (·.1)).Nodup) (hb : ∀ y ∈ wy, 0 ≤ y.1 ∧ y.1 ≤ 5) (hl : wy.length ≤ 1000) {a : D} (e : a = .lst (wy.map (wayD ns)) ∨ a = .tup (wy.map (wayD ns))) (k : Q (.bl true) n) : dAreWays pn a n Q X := by
  unfold dAreWays
  exact ⟨ns, wy, e, nd, hb, hl, k⟩
theorem lookT {tab : List (Str × D)} {z : Str} {lo hi : Int} (h : (match tab.lookup z with | some (.tup [.int a, .int b]) => decide (a = lo ∧ b = hi) | _ => false) = true) : tab.lookup z = some (.tup [.int lo, .int hi]) := by
  split at h
  · rename_i a b e
    obtain ⟨rfl, rfl⟩ := of_decide_eq_true h
    exact e
  · cases h
theorem lookE {tab : List (Str × D)} {z : Str} {i : Int} (h : (match tab.lookup z with | some (.int a) => decide (a = i) | _ => false) = true) : tab.lookup z = some (.int i) := by
  split at h
  · rename_i a e
    rw [e, of_decide_eq_true h]
  · cases h
theorem num_tab {x : Str} {c : Int} (h : NumOk x c) : x ∈ (["rest", "cap", "jump", "set", "skip"] : List Str) ∧ tab_ENTRIES.lookup x = some (.int 3) ∧ ∃ lo hi, tab_BOUNDS.lookup x = some (.tup [.int lo, .int hi]) ∧ lo ≤ c ∧ c ≤ hi := by
  rcases h with ⟨rfl, h1, h2⟩ | ⟨rfl, h1, h2⟩ | ⟨rfl, h1, h2⟩ | ⟨rfl, h1, h2⟩ | ⟨rfl, h1, h2⟩
  · exact ⟨by decide +kernel, lookE (by decide +kernel), 2, 4, lookT (by decide +kernel), h1, h2⟩
  · exact ⟨by decide +kernel, lookE (by decide +kernel), 0, 5, lookT (by decide +kernel), h1, h2⟩
  · exact ⟨by decide +kernel, lookE (by decide +kernel), 1, 4, lookT (by decide +kernel), h1, h2⟩
  · exact ⟨by decide +kernel, lookE (by decide +kernel), 0, 5, lookT (by decide +kernel), h1, h2⟩
  · exact ⟨by decide +kernel, lookE (by decide +kernel), -3, 4, lookT (by decide +kernel), h1, h2⟩
theorem num_has : ∀ x ∈ (["rest", "cap", "jump", "set", "skip"] : List Str), hasT tab_ENTRIES x = true ∧ hasT tab_BOUNDS x = true ∧ x ≠ "case" := by decide +kernel
@[irreducible] def dHasForm : R1 := fun _ a n Q _ => ∃ (ns ws : List Str) (kp : Bool) (i : Nat) (li : Li), a = liD ns kp li ∧ LiOk ws i li ∧ Q (.bl true) n
theorem ok_has_form (T : Tx w K mg) : FnOk P w K mg base CX0 3 T.f_has_form T.d_has_form ["line"] (Da.upSp K (sp1 dHasForm)) := by
  refine T.F_has_form.ok sc_has_form (fun vs H Q E h => Da.up_len1 h) (fun cdv A outer s H vs Q E hr h => ?_)
  refine ⟨_, (pss_cons (ps_if (PW.pt (pw_or (pt_cmpR (Da.eqK (K := K) rfl hr.units) (pe_callB (Da.lenK (K := K) rfl) (by rfl) T.z_len (by decide +kernel) (pa_cons (pv 0) pa_nil)) pe_int (nomark _)) (pw_or (pt_cmpR (Da.kninT (K := K) (w := w) rfl rfl T.kd_ENTRIES T.v_ENTRIES (fun x (hx : x ∈ ([] : List Str)) => nomatch hx)) (pe_ix (Da.ixK (K := K) rfl) (pv 0) pe_int (fun _ _ => rfl)) (pe_glob (v := .ref T.a_ENTRIES) rfl T.m_ENTRIES rfl) (by rfl)) (pw_or1 (pt_cmpR (Da.neK (K := K) rfl hr.units) (pe_callB (Da.lenK (K := K) rfl) (by rfl) T.z_len (by decide +kernel) (pa_cons (pv 0) pa_nil)) (pe_ix (Da.ixT (K := K) (w := w) rfl rfl T.v_ENTRIES) (pe_glob (v := .ref T.a_ENTRIES) rfl T.m_ENTRIES rfl) (pe_ix (Da.ixK (K := K) rfl) (pv 0) pe_int (fun _ _ => rfl)) (fun _ _ => rfl)) (nomark _))))))
        (pss_one (ps_ret pe_bl))
        pss_nil)
      (pss_cons (ps_set (i := 1) sc_has_form.nd rfl (Or.inl rfl) (pe_ix (Da.ixK (K := K) rfl) (pv 0) pe_int (fun _ _ => rfl)))
      (pss_cons (ps_if (pt_cmpR (Da.eqK (K := K) rfl hr.units) (pv 1) pe_str (nomark _))
        (pss_one (ps_ret (pe_call (ok_are_ways T) (hr.mono (by decide)) rfl T.m_are_ways T.F_are_ways.kp T.b_are_ways .nil pass0 (pa_cons (pe_ix (Da.ixK (K := K) rfl) (pv 0) pe_int (fun _ _ => rfl)) pa_nil))))
        pss_nil)
      (pss_one (ps_ret (pe_or (pe_cmpR (Da.kninT (K := K) (w := w) rfl rfl T.kd_BOUNDS T.v_BOUNDS T.o_BOUNDS) (pv 1) (pe_glob (v := .ref T.a_BOUNDS) rfl T.m_BOUNDS rfl) (by rfl)) (pe_one (pe_call (ok_within T) (hr.mono (by decide)) rfl T.m_within T.F_within.kp T.b_within .nil pass0 (pa_cons (pe_ix (Da.ixK (K := K) rfl) (pv 0) pe_int (fun _ _ => rfl)) (pa_cons (pe_ix (Da.ixT (K := K) (w := w) rfl rfl T.v_BOUNDS) (pe_glob (v := .ref T.a_BOUNDS) rfl T.m_BOUNDS rfl) (pv 1) (fun _ _ => rfl)) pa_nil)))))))))), Da.go_up1 h ?_⟩
  intro pn a n Q _ h
  unfold dHasForm at h
  obtain ⟨ns, ws, kp, i, li, rfl, hli, h⟩ := h
  cases li with
  | case wy o =>
    obtain ⟨_, nd, hb, hl, _⟩ := hli
    cases kp
    all_goals
      walk_at "w"
      refine ⟨.int 3, lookE (by decide +kernel), ?_⟩
      walk_at "w"
    · refine i_are_ways nd (fun y hy => ⟨(hb y hy).1, (hb y hy).2.1⟩) (by omega) (.inl rfl) ?_
      exact h
    · refine i_are_ways nd (fun y hy => ⟨(hb y hy).1, (hb y hy).2.1⟩) (by omega) (.inr rfl) ?_
      exact h
  | take o =>
    walk_at "w"
    refine ⟨.int 2, lookE (by decide +kernel), ?_⟩
    walk_at "w"
    exact h
  | num x c o =>
    obtain ⟨_, hn, _⟩ := hli
    obtain ⟨hx, e1, lo, hi, e2, e3⟩ := num_tab hn
    obtain ⟨k1, k2, k3⟩ := num_has x hx
    walk_at "w"
    refine ⟨(fun z => by rw [k1] at z; cases z), ?_⟩
    rw [k1]
    walk_at "w"
    refine ⟨_, e1, ?_⟩
    walk_at "w"
    refine .n k3 ?_
    walk_at "w"
    refine ⟨(fun z => by rw [k2] at z; cases z), ?_⟩
    rw [k2]
    walk_at "w"
    refine ⟨_, e2, ?_⟩
    walk_at "w"
    refine i_within e3 ?_
    exact h
  | upto c a b =>
    obtain ⟨_, h1, h2, _⟩ := hli
    walk_at "w"
    refine ⟨.int 4, lookE (by decide +kernel), ?_⟩
    walk_at "w"
    refine ⟨_, lookT (lo := 0) (hi := 5) (by decide +kernel), ?_⟩
    walk_at "w"
    refine i_within ⟨h1, h2⟩ ?_
    exact h
  | fin x =>
    rcases hli.2 with rfl | rfl
    all_goals
      walk_at "w"
      refine ⟨.int 1, lookE (by decide +kernel), ?_⟩
      walk_at "w"
      exact h
theorem i_has_form {pn : Option (Addr × Addr)} {ns ws : List Str} {kp : Bool} {i : Nat} {li : Li} {d : D} {n : Nat} {Q : D → Nat → Prop} {X : XD} (e : liD ns kp li = d) (h : LiOk ws i li) (k : Q (.bl true) n) : dHasForm pn d n Q X := by
  unfold dHasForm
  exact ⟨ns, ws, kp, i, li, e.symm, h, k⟩
end
end Lw

namespace Lw
open PySem L2
open Evl Da
local macro_rules
  | `(tactic| walk_at "f") => `(tactic| first | exact lookF_put | exact lookF_hit | exact (lookF_skip (by decide +kernel) lookF_hit) | exact (lookF_skip (by decide +kernel) (lookF_skip (by decide +kernel) lookF_hit)) | exact (lookF_skip (by decide +kernel) (lookF_skip (by decide +kernel) (lookF_skip (by decide +kernel) lookF_hit))) | exact (lookF_skip (by decide +kernel) (lookF_skip (by decide +kernel) (lookF_skip (by decide +kernel) (lookF_skip (by decide +kernel) lookF_hit)))) | exact (lookF_skip (by decide +kernel) (lookF_skip (by decide +kernel) (lookF_skip (by decide +kernel) (lookF_skip (by decide +kernel) (lookF_skip (by decide +kernel) lookF_hit))))) | exact (lookF_skip (by decide +kernel) (lookF_skip (by decide +kernel) (lookF_skip (by decide +kernel) (lookF_skip (by decide +kernel) (lookF_skip (by decide +kernel) (lookF_skip (by decide +kernel) lookF_hit)))))) | ((refine lookF_other (by decide +kernel) ?_); walk_at "f") | ((refine lookF_skip (by decide +kernel) ?_); walk_at "f"))
  | `(tactic| walk_at "fl") => `(tactic| first | exact Nat.zero_lt_succ _ | ((refine putFD_lt ?_); walk_at "fl"))
  | `(tactic| walk_at "a") => `(tactic| first | exact le1000 (Nat.le_of_ble_eq_true rfl) | exact rfl | decide +kernel | exact And.intro (by with_reducible assumption) (by with_reducible assumption) | exact And.intro (And.intro (by with_reducible assumption) (by with_reducible assumption)) (by walk_at "fl"))
  | `(tactic| walk_at "w") => `(tactic| ((conv => whnf); repeat ((first | ((with_reducible refine And.intro ?_ ?_); (focus (walk_at "a"))) | ((with_reducible refine Br.yes ?_ ?_); (focus (first | exact rfl | decide +kernel))) | ((with_reducible refine Br.no ?_ ?_); (focus (first | exact rfl | decide +kernel))) | ((with_reducible refine ex_fld ?_); (refine fld_w (by walk_at "f") ?_)) | ((with_reducible refine ex_at ?_); (refine at_w rfl ?_))); (conv => whnf))))
  | `(tactic| walk_at "n") => `(tactic| ((try dsimp only [st0, st1, S.at, S.drop, S.own, S.put, S.frz, Src.n] at *); omega))
  | `(tactic| walk_at "draw") => `(tactic| ((try walk_at "w"); (refine i_draw ⟨by walk_at "n", by walk_at "n", by walk_at "n"⟩ ?_)))
section
variable {P : Program} {w : World} {K : PySem.W.Frag} {mg : Str → Option Value} {base : Heap}
theorem map_tup {ns : List Str} (wy : List (Int × Nat)) : wy.map (wayD ns) = wy.map (wayD ns) := rfl
@[irreducible] def dFrozen : R1 := fun _ a n Q _ => ∃ (ns ws : List Str) (kp : Bool) (i : Nat) (li : Li), a = liD ns kp li ∧ LiOk ws i li ∧ Q (liD ns true li) n
theorem ok_frozen (T : Tx w K mg) : FnOk P w K mg base CX0 1 T.f_frozen T.d_frozen ["line"] (Da.upSp K (sp1 dFrozen)) := by
  refine T.F_frozen.ok sc_frozen (fun vs H Q E h => Da.up_len1 h) (fun cdv A outer s H vs Q E hr h => ?_)
  refine ⟨_, (pss_cons (ps_if (pt_cmpR (Da.eqK (K := K) rfl hr.units) (pe_ix (Da.ixK (K := K) rfl) (pv 0) pe_int (fun _ _ => rfl)) pe_str (nomark _))
        (pss_one (ps_ret (pe_tup (pa_cons pe_str (pa_cons (pe_callTy (Da.tupleK (K := K) rfl) (by rfl) T.z_tuple (by decide +kernel) (pa_cons (pe_lc rfl sc_frozen.nd (Da.seqK (K := K) rfl (pe_ix (Da.ixK (K := K) rfl) (pv 0) pe_int (fun _ _ => rfl))) (blkOk_by (own := [("way", 1)]) (N := ["line", "way"]) (sc := defScope s_frozen) (by decide +kernel)) (fun _ _ _ _ _ => (pg_name (i := 1) sc_frozen.nd rfl (Or.inl rfl))) (fun _ _ _ _ _ => pts_nil) (fun _ _ _ _ _ => (pe_callTy (Da.tupleK (K := K) rfl) (by rfl) T.z_tuple (by decide +kernel) (pa_cons (pv 1) pa_nil)))) pa_nil)) (pa_cons (pe_ix (Da.ixK (K := K) rfl) (pv 0) pe_int (fun _ _ => rfl)) pa_nil))))))
        pss_nil)
      (pss_one (ps_ret (pe_callTy (Da.tupleK (K := K) rfl) (by rfl) T.z_tuple (by decide +kernel) (pa_cons (pv 0) pa_nil))))), Da.go_up1 h ?_⟩
  intro pn a n Q _ h
  unfold dFrozen at h
  obtain ⟨ns, ws, kp, i, li, rfl, hli, h⟩ := h
  have tail : ∀ x : Str, x ≠ "case" → ∀ r : List D, True := fun _ _ _ => trivial
  cases li with
  | case wy o =>
    cases kp
    all_goals
      walk_at "w"
      refine lc_inv (fun i acc s => acc = (wy.take i).map (wayD ns) ∧ s = st0 n pn) (le1000 (by show (wy.map (wayD ns)).length ≤ 1000; rw [List.length_map]; have := hli.2.2.2.1; omega)) ⟨rfl, rfl⟩ ?_ ?_
      · rintro j e _ _ hj he hl ⟨rfl, rfl⟩
        have he := seq_at he
        rw [List.getElem?_map] at he
        obtain ⟨y, hy, rfl⟩ := Option.map_eq_some_iff.mp he
        walk_at "w"
        refine ⟨?_, rfl⟩
        rw [take_more hy, List.map_append]
        rfl
      · rintro _ _ hl ⟨rfl, rfl⟩
        have en : (Src.seq (wy.map (wayD ns))).n = wy.length := List.length_map _
        rw [en, List.take_length]
        walk_at "w"
        exact h
  | take o =>
    walk_at "w"
    exact h
  | num x c o =>
    obtain ⟨_, hn, _⟩ := hli
    obtain ⟨hx, _⟩ := num_tab hn
    obtain ⟨k1, k2, k3⟩ := num_has x hx
    walk_at "w"
    refine .n k3 ?_
    walk_at "w"
    exact h
  | upto c a b =>
    walk_at "w"
    exact h
  | fin x =>
    rcases hli.2 with rfl | rfl
    all_goals
      walk_at "w"
      exact h
theorem i_frozen {pn : Option (Addr × Addr)} {ns ws : List Str} {kp : Bool} {i : Nat} {li : Li} {d : D} {n : Nat} {Q : D → Nat → Prop} {X : XD} (e : liD ns kp li = d) (h : LiOk ws i li) (k : Q (liD ns true li) n) : dFrozen pn d n Q X := by
  unfold dFrozen
  exact ⟨ns, ws, kp, i, li, e.symm, h, k⟩
/-- where a line may go -/
def goalsL : Li → List Nat
  | .case wy o => wy.map (·.2) ++ [o]
  | .take o => [o]
  | .num _ _ o => [o]
  | .upto _ a b => [a, b]
  | .fin _ => []
def goalD (ns : List Str) (gs : List Nat) : D := .lst (gs.map fun g => .str (wAt ns g))
theorem goals_ok {ws : List Str} {i : Nat} {li : Li} (h : LiOk ws i li) : ∀ g ∈ goalsL li, Gok ws i g := by
  cases li with
  | case wy o =>
    intro g hg
    rcases List.mem_append.mp hg with hg | hg
    · obtain ⟨y, hy, rfl⟩ := List.mem_map.mp hg
      exact (h.2.2.1 y hy).2.2
    · rw [List.mem_singleton.mp hg]
      exact h.2.2.2.2
  | take o => intro g hg; rw [List.mem_singleton.mp hg]; exact h.2
  | num x c o => intro g hg; rw [List.mem_singleton.mp hg]; exact h.2.2
  | upto c a b =>
    intro g hg
    rcases List.mem_cons.mp hg with rfl | hg
    · exact h.2.2.2.1
    · rw [List.mem_singleton.mp hg]; exact h.2.2.2.2
  | fin x => intro g hg; cases hg
theorem goals_few {ws : List Str} {i : Nat} {li : Li} (h : LiOk ws i li) : (goalsL li).length ≤ 10 := by
  cases li with
  | case wy o =>
    have := h.2.2.2.1
    show (wy.map (·.2) ++ [o]).length ≤ 10
    rw [List.length_append, List.length_map]
    show wy.length + 1 ≤ 10
    omega
  | take o => exact (by decide : 1 ≤ 10)
  | num x c o => exact (by decide : 1 ≤ 10)
  | upto c a b => exact (by decide : 2 ≤ 10)
  | fin x => exact (by decide : 0 ≤ 10)
@[irreducible] def dGoals : R1 := fun _ a n Q _ => ∃ (ns ws : List Str) (i : Nat) (li : Li), a = liD ns true li ∧ LiOk ws i li ∧ Q (goalD ns (goalsL li)) n
theorem ok_goals (T : Tx w K mg) : FnOk P w K mg base CX0 1 T.f_goals T.d_goals ["line"] (Da.upSp K (sp1 dGoals)) := by
  refine T.F_goals.ok sc_goals (fun vs H Q E h => Da.up_len1 h) (fun cdv A outer s H vs Q E hr h => ?_)
  refine ⟨_, (pss_cons (ps_if (pt_cmpR (Da.eqK (K := K) rfl hr.units) (pe_ix (Da.ixK (K := K) rfl) (pv 0) pe_int (fun _ _ => rfl)) pe_str (nomark _))
        (pss_one (ps_ret (pe_lst (Da.starK (K := K) rfl (pe_lc (g := gTup K 2 (gCons (gName 1) (gCons (gName 2) gNil))) rfl sc_goals.nd (Da.seqK (K := K) rfl (pe_ix (Da.ixK (K := K) rfl) (pv 0) pe_int (fun _ _ => rfl))) (blkOk_by (own := [("_", 1), ("name", 2)]) (N := ["line", "_", "name"]) (sc := defScope s_goals) (by decide +kernel)) (fun _ _ _ _ _ => (Da.gtupK (n := 2) (K := K) rfl (by rfl) (pgs_cons (pg_name (i := 1) sc_goals.nd rfl (Or.inl rfl)) (pgs_cons (pg_name (i := 2) sc_goals.nd rfl (Or.inl rfl)) pgs_nil)))) (fun _ _ _ _ _ => pts_nil) (fun _ _ _ _ _ => (pv 2))) (pa_cons (pe_ix (Da.ixK (K := K) rfl) (pv 0) pe_int (fun _ _ => rfl)) pa_nil)))))
        pss_nil)
      (pss_cons (ps_if (pt_cmpR (Da.kinT (K := K) (w := w) rfl rfl T.kd_BOUNDS T.v_BOUNDS T.o_BOUNDS) (pe_ix (Da.ixK (K := K) rfl) (pv 0) pe_int (fun _ _ => rfl)) (pe_glob (v := .ref T.a_BOUNDS) rfl T.m_BOUNDS rfl) (by rfl))
        (pss_one (ps_ret (pe_callTy (Da.listK (K := K) rfl) (by rfl) T.z_list (by decide +kernel) (pa_cons (pe_slice (Da.slK (K := K) rfl) (pv 0) (po_some pe_int) po_none) pa_nil))))
        pss_nil)
      (pss_one (ps_ret (pe_callTy (Da.listK (K := K) rfl) (by rfl) T.z_list (by decide +kernel) (pa_cons (pe_slice (Da.slK (K := K) rfl) (pv 0) (po_some pe_int) po_none) pa_nil)))))), Da.go_up1 h ?_⟩
  intro pn a n Q _ h
  unfold dGoals at h
  obtain ⟨ns, ws, i, li, rfl, hli, h⟩ := h
  cases li with
  | case wy o =>
    walk_at "w"
    refine lc_inv (fun i acc s => acc = ((wy.take i).map (·.2)).map (fun g => .str (wAt ns g)) ∧ s = st0 n pn) (le1000 (by show (wy.map (wayD ns)).length ≤ 1000; rw [List.length_map]; have := hli.2.2.2.1; omega)) ⟨rfl, rfl⟩ ?_ ?_
    · rintro j e _ _ hj he hl ⟨rfl, rfl⟩
      have he := seq_at he
      rw [List.getElem?_map] at he
      obtain ⟨y, hy, rfl⟩ := Option.map_eq_some_iff.mp he
      walk_at "w"
      refine ⟨?_, rfl⟩
      rw [take_more hy, List.map_append, List.map_append]
      rfl
    · rintro _ _ hl ⟨rfl, rfl⟩
      have en : (Src.seq (wy.map (wayD ns))).n = wy.length := List.length_map _
      rw [en, List.take_length]
      have e : goalD ns (goalsL (.case wy o)) = .lst (((wy.map (·.2)).map fun g => D.str (wAt ns g)) ++ [.str (wAt ns o)]) := by
        show D.lst ((wy.map (·.2) ++ [o]).map fun g => D.str (wAt ns g)) = _
        rw [List.map_append]
        rfl
      rw [e] at h
      have := hli.2.2.2.1
      generalize hgs : ((wy.map (·.2)).map fun g => D.str (wAt ns g)) = gs at h ⊢
      have hlg : gs.length ≤ 5 := by rw [← hgs, List.length_map, List.length_map]; exact this
      have hno : ∀ d ∈ gs ++ [.str (wAt ns o)], NoL d := fun d hd a k e => by
        subst e
        rcases List.mem_append.mp hd with hd | hd
        · rw [← hgs] at hd
          obtain ⟨_, _, e⟩ := List.mem_map.mp hd
          cases e
        · cases List.mem_singleton.mp hd
      walk_at "w"
      refine escA_of hno ⟨le1000 (by rw [List.length_append]; show gs.length + 1 ≤ 1000; omega), ?_⟩
      walk_at "w"
      exact h
  | take o =>
    walk_at "w"
    exact h
  | num x c o =>
    obtain ⟨_, hn, _⟩ := hli
    obtain ⟨hx, _⟩ := num_tab hn
    obtain ⟨k1, k2, k3⟩ := num_has x hx
    walk_at "w"
    refine .n k3 ?_
    walk_at "w"
    refine ⟨(fun z => by rw [k2] at z; cases z), ?_⟩
    rw [k2]
    walk_at "w"
    exact h
  | upto c a b =>
    walk_at "w"
    exact h
  | fin x =>
    rcases hli.2 with rfl | rfl
    all_goals
      walk_at "w"
      exact h
theorem i_goals {pn : Option (Addr × Addr)} {ns ws : List Str} {i : Nat} {li : Li} {d : D} {n : Nat} {Q : D → Nat → Prop} {X : XD} (e : liD ns true li = d) (h : LiOk ws i li) (k : Q (goalD ns (goalsL li)) n) : dGoals pn d n Q X := by
  unfold dGoals
  exact ⟨ns, ws, i, li, e.symm, h, k⟩
theorem i_is_name {pn : Option (Addr × Addr)} {x : Str} {n : Nat} {Q : D → Nat → Prop} {X : XD} (h : Nm x) (k : Q (.bl true) n) : dIsName pn (.str x) n Q X := by
  unfold dIsName
  exact ⟨x, rfl, h, k⟩
theorem ls_at {ns : List Str} {ls : List Li} {k : Bool} {i : Nat} {d : D} (h : (linesD ns ls k)[i]? = some d) : ∃ li ds, ls[i]? = some li ∧ liD ns k li = .tup ds ∧ d = .tup [.str (wAt ns i), .tup ds] := by
  have hi := (List.getElem?_eq_some_iff.mp h).1
  rw [linesD_len] at hi
  have e := linesD_at (ns := ns) (k := k) (List.getElem?_eq_getElem hi)
  rw [h] at e
  obtain ⟨ds, hds⟩ := liD_tup ns k (ls[i])
  refine ⟨_, ds, List.getElem?_eq_getElem hi, hds, ?_⟩
  rw [Option.some.inj e, ← hds]
  rfl
theorem enu_at {ds : List D} {i : Nat} {d : D} (h : (Src.enu ds).at i = some d) : ∃ e, ds[i]? = some e ∧ d = .tup [.int i, e] := by
  have h : (ds[i]?).map (fun d => D.tup [.int (i : Nat), d]) = some d := h
  obtain ⟨e, h1, rfl⟩ := Option.map_eq_some_iff.mp h
  exact ⟨e, h1, rfl⟩
theorem name_at {ns ws : List Str} {ls : List Li} (dr : Drawn ns ws ls) {i : Nat} (h : i < ls.length) : ns[i]? = some (wAt ns i) := wAt_at (by have := dr.len; have := dr.lenL; omega)
@[irreducible] def dForms : R1 := fun _ a n Q _ => ∃ (ns ws : List Str) (kp : Bool) (ls : List Li), a = .lst (linesD ns ls kp) ∧ Drawn ns ws ls ∧ Q .non n
theorem ok_check_forms (T : Tx w K mg) : FnOk P w K mg base CX0 4 T.f_check_forms T.d_check_forms ["lines"] (Da.upSp K (sp1 dForms)) := by
  refine T.F_check_forms.ok sc_check_forms (fun vs H Q E h => Da.up_len1 h) (fun cdv A outer s H vs Q E hr h => ?_)
  refine ⟨_, (pss_cons (Da.ps_own 1 (ps_set (i := 1) sc_check_forms.nd rfl (Or.inl rfl) (pe_lst pa_nil)))
      (pss_one (ps_for PassesOwn.never rfl (Da.enumK (K := K) rfl (by rfl) T.z_enumerate (pa_cons (pv 0) pa_nil)) (Da.gtupK (n := 2) (K := K) rfl (by rfl) (pgs_cons (pg_name (i := 2) sc_check_forms.nd rfl (Or.inl rfl)) (pgs_cons (Da.gtupK (n := 2) (K := K) rfl (by rfl) (pgs_cons (pg_name (i := 3) sc_check_forms.nd rfl (Or.inl rfl)) (pgs_cons (pg_name (i := 4) sc_check_forms.nd rfl (Or.inl rfl)) pgs_nil))) pgs_nil)))
        (pss_cons (ps_if (PW.pt (pw_or (pt_not (pt_val (pe_call (ok_is_name T) (hr.mono (by decide)) rfl T.m_is_name T.F_is_name.kp T.b_is_name .nil pass0 (pa_cons (pv 3) pa_nil)))) (pw_or (pt_cmpR (Da.inK (K := K) rfl (Da.u65 hr)) (pv 3) (pv 1) (by rfl)) (pw_or1 (pt_not (pt_val (pe_call (ok_has_form T) (hr.mono (by decide)) rfl T.m_has_form T.F_has_form.kp T.b_has_form .nil pass0 (pa_cons (pv 4) pa_nil))))))))
          (pss_one ps_never)
          pss_nil)
        (pss_one (ps_expr (Da.bmK (K := K) rfl PySem.F.plainAttrs_list PySem.F.slot_list_append PySem.F.type_list_append mt_append (pv 1) (pa_cons (pv 3) pa_nil)))))))), Da.go_up1 h ?_⟩
  intro pn a n Q _ h
  unfold dForms at h
  obtain ⟨ns, ws, kp, ls, rfl, dr, h⟩ := h
  walk_at "w"
  intro l
  walk_at "w"
  refine for_inv (fun i Γ s => ∃ u2 u3 u4 : Option D, Γ = [some (.lst (linesD ns ls kp)), some (.loc l 1), u2, u3, u4] ∧ s = ⟨[⟨1, l, .lst ((ns.take i).map D.str), false⟩], n, pn⟩) ⟨_, _, _, rfl, rfl⟩ ?_ ?_
  · rintro i d _ _ hi hd ⟨u2, u3, u4, rfl, rfl⟩
    obtain ⟨e, he, rfl⟩ := enu_at hd
    obtain ⟨li, ds, hli, eds, rfl⟩ := ls_at he
    have hn := name_at dr (List.getElem?_eq_some_iff.mp hli).1
    have hnm := dr.nm _ (List.mem_of_getElem? hn)
    walk_at "w"
    refine i_is_name hnm ?_
    walk_at "w"
    refine ⟨⟨0, by decide, az_ok hnm.az, str_plain fun x hx => az_ok (dr.nm x (List.mem_of_mem_take hx)).az⟩, ?_⟩
    walk_at "w"
    refine .n (fun z => take_nodup dr.nd hn (str_mem.mp z)) ?_
    walk_at "w"
    refine i_has_form eds (dr.ok i li hli) ?_
    walk_at "w"
    refine ⟨small1000 (by rw [List.length_map, List.length_take]; have := dr.most; have := dr.len; omega), ?_⟩
    rw [take_more hn, List.map_append]
    exact ⟨_, _, _, rfl, rfl⟩
  · rintro _ _ ⟨u2, u3, u4, rfl, rfl⟩
    walk_at "w"
    exact h
/-- the names of lines, in their order -/
theorem names_lc {ns ws : List Str} {ls : List Li} (dr : Drawn ns ws ls) : True := trivial
@[irreducible] def dChkGoals : R1 := fun _ a n Q _ => ∃ (ns ws : List Str) (ls : List Li), a = .tup (linesD ns ls true) ∧ Drawn ns ws ls ∧ Q .non n
theorem ok_check_goals (T : Tx w K mg) : FnOk P w K mg base CX0 2 T.f_check_goals T.d_check_goals ["lines"] (Da.upSp K (sp1 dChkGoals)) := by
  refine T.F_check_goals.ok sc_check_goals (fun vs H Q E h => Da.up_len1 h) (fun cdv A outer s H vs Q E hr h => ?_)
  refine ⟨_, (pss_cons (ps_set (i := 1) sc_check_goals.nd rfl (Or.inr rfl) (pe_lc (g := gTup K 2 (gCons (gName 2) (gCons (gName 3) gNil))) rfl sc_check_goals.nd (Da.seqK (K := K) rfl (pv 0)) (blkOk_by (own := [("name", 2), ("_", 3)]) (N := ["lines", "names", "name", "_", "number", "line", "goal"]) (sc := defScope s_check_goals) (by decide +kernel)) (fun _ _ _ _ _ => (Da.gtupK (n := 2) (K := K) rfl (by rfl) (pgs_cons (pg_name (i := 2) sc_check_goals.nd rfl (Or.inl rfl)) (pgs_cons (pg_name (i := 3) sc_check_goals.nd rfl (Or.inl rfl)) pgs_nil)))) (fun _ _ _ _ _ => pts_nil) (fun _ _ _ _ _ => (pv 2))))
      (pss_one (ps_for PassesOwn.never rfl (Da.enumTK (K := K) rfl (by rfl) T.z_enumerate (pa_cons (pv 0) pa_nil)) (Da.gtupK (n := 2) (K := K) rfl (by rfl) (pgs_cons (pg_name (i := 4) sc_check_goals.nd rfl (Or.inl rfl)) (pgs_cons (Da.gtupK (n := 2) (K := K) rfl (by rfl) (pgs_cons (pg_name (i := 3) sc_check_goals.nd rfl (Or.inl rfl)) (pgs_cons (pg_name (i := 5) sc_check_goals.nd rfl (Or.inl rfl)) pgs_nil))) pgs_nil)))
        (pss_one (ps_if (pt_not (pt_val (pe_callB (Da.allK (K := K) rfl rfl) (by rfl) T.z_all (by decide +kernel) (pa_cons (pe_lc rfl sc_check_goals.nd (Da.seqK (K := K) rfl (pe_call (ok_goals T) (hr.mono (by decide)) rfl T.m_goals T.F_goals.kp T.b_goals .nil pass0 (pa_cons (pv 5) pa_nil))) (blkOk_by (own := [("goal", 6)]) (N := ["lines", "names", "name", "_", "number", "line", "goal"]) (sc := defScope s_check_goals) (by decide +kernel)) (fun _ _ _ _ _ => (pg_name (i := 6) sc_check_goals.nd rfl (Or.inl rfl))) (fun _ _ _ _ _ => pts_nil) (fun _ _ _ _ _ => (pe_cmpR (Da.inK (K := K) rfl (Da.u65 hr)) (pv 6) (pv 1) (by rfl)))) pa_nil))))
          (pss_one ps_never)
          pss_nil))))), Da.go_up1 h ?_⟩
  intro pn a n Q _ h
  unfold dChkGoals at h
  obtain ⟨ns, ws, ls, rfl, dr, h⟩ := h
  have l8 := dr.most
  have hl1 := dr.len
  have hl2 := dr.lenL
  walk_at "w"
  refine lc_inv (fun i acc s => acc = (ns.take i).map D.str ∧ s = st0 n pn) (le1000 (by show (linesD ns ls true).length ≤ 1000; rw [linesD_len]; omega)) ⟨rfl, rfl⟩ ?_ ?_
  · rintro i d _ _ hi hd hl ⟨rfl, rfl⟩
    obtain ⟨li, ds, hli, eds, rfl⟩ := ls_at (seq_at hd)
    have hn := name_at dr (List.getElem?_eq_some_iff.mp hli).1
    walk_at "w"
    refine ⟨?_, rfl⟩
    rw [take_more hn, List.map_append]
    rfl
  rintro _ _ hl ⟨rfl, rfl⟩
  have en : (Src.seq (linesD ns ls true)).n = ns.length := by show (linesD ns ls true).length = _; rw [linesD_len]; omega
  rw [en, List.take_length]
  walk_at "w"
  refine for_inv (fun i Γ s => ∃ u2 u3 u4 u5 u6 : Option D, Γ = [some (.tup (linesD ns ls true)), some (.lst (ns.map D.str)), u2, u3, u4, u5, u6] ∧ s = st0 n pn) ⟨_, _, _, _, _, rfl, rfl⟩ ?_ ?_
  · rintro i d _ _ hi hd ⟨u2, u3, u4, u5, u6, rfl, rfl⟩
    obtain ⟨e, he, rfl⟩ := enu_at hd
    obtain ⟨li, ds, hli, eds, rfl⟩ := ls_at he
    walk_at "w"
    refine i_goals eds (dr.ok i li hli) ?_
    walk_at "w"
    have hlg : ((goalsL li).map fun g => D.str (wAt ns g)).length ≤ 10 := by rw [List.length_map]; exact goals_few (dr.ok i li hli)
    refine lc_inv (fun i acc s => acc = (List.replicate i true).map D.bl ∧ s = st0 n pn) (le1000 (by show ((goalsL li).map fun g => D.str (wAt ns g)).length ≤ 1000; omega)) ⟨rfl, rfl⟩ ?_ ?_
    · rintro j d _ _ hj hd2 hl2 ⟨rfl, rfl⟩
      have hd2 := seq_at hd2
      rw [List.getElem?_map] at hd2
      obtain ⟨g, hg, rfl⟩ := Option.map_eq_some_iff.mp hd2
      have hg1 := (goals_ok (dr.ok i li hli) g (List.mem_of_getElem? hg)).1
      have hgm : wAt ns g ∈ ns := wAt_mem (by omega)
      walk_at "w"
      refine ⟨⟨0, by decide, az_ok (dr.nm _ hgm).az, str_plain fun x hx => az_ok (dr.nm x hx).az⟩, ?_⟩
      walk_at "w"
      refine ⟨?_, rfl⟩
      rw [dec_t (str_mem.mpr hgm), List.replicate_succ', List.map_append]
      rfl
    · rintro _ _ hl2 ⟨rfl, rfl⟩
      walk_at "w"
      refine ⟨_, rfl, ?_⟩
      have e : ∀ k, (List.replicate k true).all id = true := fun k => by simp
      walk_at "w"
      rw [e]
      walk_at "w"
      exact ⟨_, _, _, _, _, rfl, rfl⟩
  · rintro _ _ ⟨u2, u3, u4, u5, u6, rfl, rfl⟩
    exact h
/-- what is known of the silent ways of a reader -/
def Sil (ns ws : List Str) (ls : List Li) (kvs : List (Key × D)) : Prop := ∀ x d, lookK kvs (Sum.inr x) = some d → ∃ i li, ls[i]? = some li ∧ x = wAt ns i ∧ ¬ Lk (wAt ws i) ∧ d = goalD ns (goalsL li)
theorem look_put {kvs : List (Key × D)} {k x : Key} {d e : D} (h : lookK (putKE kvs k d) x = some e) : (x = k ∧ e = d) ∨ lookK kvs x = some e := by
  have app : ∀ {l r : List (Key × D)} {x : Key} {e : D}, lookK (l ++ r) x = some e → lookK l x = some e ∨ lookK r x = some e := fun {l r x e} h => by
    induction l with
    | nil => exact .inr h
    | cons y l ih =>
      obtain ⟨k', d'⟩ := y
      have h : (if k' = x then some d' else lookK (l ++ r) x) = some e := h
      show (if k' = x then some d' else lookK l x) = some e ∨ _
      by_cases hk : k' = x
      · rw [if_pos hk] at h ⊢; exact .inl h
      · rw [if_neg hk] at h ⊢; exact ih h
  unfold putKE at h
  split at h
  · clear app
    rename_i hany
    induction kvs with
    | nil => cases h
    | cons y l ih =>
      obtain ⟨k', d'⟩ := y
      by_cases hk : k' = k
      · have h : lookK ((k', d) :: l.map (fun kv => if kv.1 = k then (kv.1, d) else kv)) x = some e := by rw [List.map_cons, if_pos hk] at h; exact h
        have h : (if k' = x then some d else lookK (l.map (fun kv => if kv.1 = k then (kv.1, d) else kv)) x) = some e := h
        by_cases hx : k' = x
        · rw [if_pos hx] at h
          exact .inl ⟨by rw [← hx, hk], (Option.some.inj h).symm⟩
        · rw [if_neg hx] at h
          have h2 : (x = k ∧ e = d) ∨ lookK l x = some e := by
            by_cases hl : (l.any fun kv => decide (kv.1 = k)) = true
            · exact ih hl h
            · have : l.map (fun kv => if kv.1 = k then (kv.1, d) else kv) = l := by
                refine (List.map_congr_left fun kv hkv => ?_).trans (List.map_id _)
                rw [if_neg fun z => hl (List.any_eq_true.mpr ⟨kv, hkv, decide_eq_true z⟩)]
                rfl
              rw [this] at h
              exact .inr h
          rcases h2 with h2 | h2
          · exact .inl h2
          · refine .inr ?_
            show (if k' = x then some d' else lookK l x) = some e
            rw [if_neg hx]
            exact h2
      · have h : lookK ((k', d') :: l.map (fun kv => if kv.1 = k then (kv.1, d) else kv)) x = some e := by rw [List.map_cons, if_neg hk] at h; exact h
        have h : (if k' = x then some d' else lookK (l.map (fun kv => if kv.1 = k then (kv.1, d) else kv)) x) = some e := h
        show _ ∨ (if k' = x then some d' else lookK l x) = some e
        by_cases hx : k' = x
        · rw [if_pos hx] at h ⊢; exact .inr h
        · rw [if_neg hx] at h ⊢
          rw [List.any_cons, decide_eq_false hk] at hany
          exact ih hany h
  · rcases app h with h | h
    · exact .inr h
    · have h : (if k = x then some d else none) = some e := h
      by_cases hx : k = x
      · rw [if_pos hx] at h; exact .inl ⟨hx.symm, (Option.some.inj h).symm⟩
      · rw [if_neg hx] at h; cases h
theorem word_at {ns ws : List Str} {k : Bool} {i : Nat} {li : Li} {ds : List D} (h : LiOk ws i li) (e : liD ns k li = .tup ds) : atI ds 0 = some (.str (wAt ws i)) := by
  cases li with
  | case wy o => cases e; rw [h.1]; rfl
  | take o => cases e; rw [h.1]; rfl
  | num x c o => cases e; rw [h.1]; rfl
  | upto c a b => cases e; rw [h.1]; rfl
  | fin x => cases e; rw [h.1]; rfl
theorem ok_at {ns ws : List Str} {ls : List Li} (dr : Drawn ns ws ls) {i : Nat} (h : i < ws.length) : Pl 0 (.str (wAt ws i)) := wd_ok (dr.wds.all _ (wAt_mem h))
abbrev rdL : List Str := ["case", "take", "rest", "cap", "jump"]
theorem rd_ok : ∀ x ∈ rdL, PyData.strOk x = true := by decide +kernel
theorem rd_in {x : Str} : D.str x ∈ rdL.map D.str ↔ Lk x := by
  rw [str_mem]
  unfold Lk rdL
  simp only [List.mem_cons, List.not_mem_nil, or_false]
  exact or_left_comm
@[irreducible] def dSilent : R1 := fun _ a n Q _ => ∃ (ns ws : List Str) (ls : List Li), a = .tup (linesD ns ls true) ∧ Drawn ns ws ls ∧ ∀ kvs, Sil ns ws ls kvs → Q (.dct kvs) n
theorem ok_silent_ways (T : Tx w K mg) : FnOk P w K mg base CX0 2 T.f_silent_ways T.d_silent_ways ["lines"] (Da.upSp K (sp1 dSilent)) := by
  refine T.F_silent_ways.ok sc_silent_ways (fun vs H Q E h => Da.up_len1 h) (fun cdv A outer s H vs Q E hr h => ?_)
  refine ⟨_, (pss_one (ps_ret (pe_dc (g := gTup K 2 (gCons (gName 1) (gCons (gName 2) gNil))) rfl sc_silent_ways.nd (Da.seqK (K := K) rfl (pv 0)) (blkOk_by (own := [("name", 1), ("line", 2)]) (N := ["lines", "name", "line"]) (sc := defScope s_silent_ways) (by decide +kernel)) (fun _ _ _ _ _ => (Da.gtupK (n := 2) (K := K) rfl (by rfl) (pgs_cons (pg_name (i := 1) sc_silent_ways.nd rfl (Or.inl rfl)) (pgs_cons (pg_name (i := 2) sc_silent_ways.nd rfl (Or.inl rfl)) pgs_nil)))) (fun _ _ _ _ _ => (pts_one (pt_cmpR (Da.ninK (K := K) rfl (Da.u65 hr)) (pe_ix (Da.ixK (K := K) rfl) (pv 2) pe_int (fun _ _ => rfl)) (Da.gK (K := K) rfl T.q_READING (pe_glob (v := .ref T.a_READING) rfl T.m_READING rfl)) (by rfl)))) (fun _ _ _ _ _ => (pv 1)) (fun _ _ _ _ _ => (pe_call (ok_goals T) (hr.mono (by decide)) rfl T.m_goals T.F_goals.kp T.b_goals .nil pass0 (pa_cons (pv 2) pa_nil)))))), Da.go_up1 h ?_⟩
  intro pn a n Q _ h
  unfold dSilent at h
  obtain ⟨ns, ws, ls, rfl, dr, h⟩ := h
  have l8 := dr.most
  have hl2 := dr.lenL
  walk_at "w"
  refine dc_inv (fun i acc s => Sil ns ws ls acc ∧ s = st0 n pn) (le1000 (by show (linesD ns ls true).length ≤ 1000; rw [linesD_len]; omega)) ⟨(fun x d hx => by cases hx), rfl⟩ ?_ ?_
  · rintro i d acc _ hi hd hl ⟨hs, rfl⟩
    obtain ⟨li, ds, hli, eds, rfl⟩ := ls_at (seq_at hd)
    have hi2 := (List.getElem?_eq_some_iff.mp hli).1
    have hok := dr.ok i li hli
    walk_at "w"
    refine ⟨_, word_at hok eds, ?_⟩
    walk_at "w"
    refine ⟨⟨ok_at dr (by omega), str_plain (ws := rdL) rd_ok⟩, ?_⟩
    walk_at "w"
    refine .ndec (fun hk => ?_) (fun _ => ⟨hs, rfl⟩)
    walk_at "w"
    refine i_goals eds hok ?_
    walk_at "w"
    refine ⟨fun x d hx => ?_, rfl⟩
    rcases look_put hx with ⟨e1, e2⟩ | hx
    · cases e1
      exact ⟨i, li, hli, rfl, (fun z => hk (rd_in.mpr z)), e2⟩
    · exact hs x d hx
  · rintro acc _ hl ⟨hs, rfl⟩
    exact h acc hs
theorem i_silent {pn : Option (Addr × Addr)} {ns ws : List Str} {ls : List Li} {n : Nat} {Q : D → Nat → Prop} {X : XD} (dr : Drawn ns ws ls) (k : ∀ kvs, Sil ns ws ls kvs → Q (.dct kvs) n) : dSilent pn (.tup (linesD ns ls true)) n Q X := by
  unfold dSilent
  exact ⟨ns, ws, ls, rfl, dr, k⟩
/-- places that a reader's silent lines do not lead out of -/
def Closed (ws : List Str) (ls : List Li) (p : Nat → Prop) : Prop := ∀ i li, ls[i]? = some li → ¬ Lk (wAt ws i) → p i → ∀ g ∈ goalsL li, p g
@[irreducible] def dReached : R2' := fun _ a b n Q _ => ∃ (ns ws : List Str) (ls : List Li) (kvs : List (Key × D)) (gs : List Nat) (p : Nat → Prop), a = .dct kvs ∧ b = goalD ns gs ∧ Drawn ns ws ls ∧ Sil ns ws ls kvs ∧ Closed ws ls p ∧ (∀ g ∈ gs, g < ws.length ∧ p g) ∧ gs.length ≤ 10 ∧ ∀ fs : List Nat, (∀ f ∈ fs, f < ws.length ∧ p f) → Q (goalD ns fs) n
theorem ok_reached (T : Tx w K mg) : FnOk P w K mg base CX0 1 T.f_reached T.d_reached ["ways", "names"] (Da.upSp K (sp2 dReached)) := by
  refine T.F_reached.ok sc_reached (fun vs H Q E h => Da.up_len2 h) (fun cdv A outer s H vs Q E hr h => ?_)
  refine ⟨_, (pss_cons (Da.ps_own 1 (ps_set (i := 2) sc_reached.nd rfl (Or.inl rfl) (pe_lst pa_nil)))
      (pss_cons (Da.ps_own 2 (ps_set (i := 3) sc_reached.nd rfl (Or.inl rfl) (pe_callTy (Da.listK (K := K) rfl) (by rfl) T.z_list (by decide +kernel) (pa_cons (pv 1) pa_nil))))
      (pss_cons (ps_while PassesOwn.never (Da.truthK (K := K) rfl (pv 3) (by intro _; rfl))
        (pss_cons (ps_set (i := 4) sc_reached.nd rfl (Or.inl rfl) (Da.bm0K (K := K) rfl PySem.F.plainAttrs_list PySem.F.slot_list_pop PySem.F.type_list_pop mt_pop (pv 3)))
        (pss_one (ps_if (pt_cmpR (Da.ninK (K := K) rfl (Da.u65 hr)) (pv 4) (pv 2) (by rfl))
          (pss_cons (ps_expr (Da.bmK (K := K) rfl PySem.F.plainAttrs_list PySem.F.slot_list_append PySem.F.type_list_append mt_append (pv 2) (pa_cons (pv 4) pa_nil)))
          (pss_one (ps_expr (Da.bmK (K := K) rfl PySem.F.plainAttrs_list PySem.F.slot_list_extend PySem.F.type_list_extend mt_extend (pv 3) (pa_cons (pe_dget2 (hu_of hr) (pv 0) (pv 4) (pe_lst pa_nil) ⟨rfl, rfl, rfl, rfl⟩) pa_nil)))))
          pss_nil))))
      (pss_one (ps_ret (pv 2)))))), Da.go_up2 h ?_⟩
  intro pn a b n Q _ h
  unfold dReached at h
  obtain ⟨ns, ws, ls, kvs, gs, p, rfl, rfl, dr, hs, hc, hg, gl, h⟩ := h
  walk_at "w"
  intro lf
  walk_at "w"
  intro la
  walk_at "w"
  refine while_inv (fun m Γ s => ∃ (fs as : List Nat) (u : Option D), Γ = [some (.dct kvs), some (goalD ns gs), some (.loc lf 1), some (.loc la 2), u] ∧ s = ⟨[⟨2, la, .lst (as.map fun g => .str (wAt ns g)), false⟩, ⟨1, lf, .lst (fs.map fun g => .str (wAt ns g)), false⟩], n, pn⟩ ∧ fs.Nodup ∧ (∀ f ∈ fs, f < ws.length ∧ p f) ∧ (∀ f ∈ as, f < ws.length ∧ p f) ∧ m = as.length + 20 * (8 - fs.length) ∧ m ≤ 200) (gs.length + 160) ⟨[], gs, _, rfl, rfl, .nil, (fun f hf => nomatch hf), hg, rfl, by omega⟩ ?_
  rintro m _ _ ⟨fs, as, u, rfl, rfl, nd, hf, ha, hm, hm2⟩
  walk_at "w"
  rcases List.eq_nil_or_concat as with rfl | ⟨bs, a, rfl⟩
  · walk_at "w"
    exact h fs hf
  · have e1 : ((bs.concat a).map fun g => D.str (wAt ns g)) = (bs.map fun g => D.str (wAt ns g)) ++ [.str (wAt ns a)] := by rw [List.concat_eq_append, List.map_append]; rfl
    rw [e1]
    have hb : ∀ f ∈ bs, f < ws.length ∧ p f := fun f hx => ha f (by rw [List.concat_eq_append]; exact List.mem_append_left _ hx)
    have h0 := ha a (by rw [List.concat_eq_append]; exact List.mem_append_right _ (List.mem_singleton.mpr rfl))
    have lna := (dr.nm (wAt ns a) (wAt_mem (by have := dr.len; omega))).az
    have h8 := dr.most
    have lfs : fs.length ≤ ws.length := places_len nd fun f hx => (hf f hx).1
    rw [List.concat_eq_append, List.length_append] at hm
    have hm : m = bs.length + 1 + 20 * (8 - fs.length) := hm
    refine .yes (by simp) ⟨_, (fun _ _ h => h), ?_⟩
    walk_at "w"
    refine ⟨.str (wAt ns a), by simp, ?_⟩
    rw [List.dropLast_concat]
    walk_at "w"
    have okn : ∀ {gs : List Nat}, (∀ g ∈ gs, g < ws.length ∧ p g) → ∀ d ∈ (gs.map fun g => D.str (wAt ns g)), Pl 0 d := fun {gs} hg d hd => by
      obtain ⟨g, hgm, rfl⟩ := List.mem_map.mp hd
      exact az_ok (dr.nm _ (wAt_mem (by have := (hg g hgm).1; have := dr.len; omega))).az
    refine ⟨⟨0, by decide, az_ok lna, okn hf⟩, ?_⟩
    walk_at "w"
    refine .ndec (fun hn => ?_) (fun _ => ?_)
    · have hna : a ∉ fs := fun z => hn (List.mem_map_of_mem (f := fun g => D.str (wAt ns g)) z)
      walk_at "w"
      refine ⟨small1000 (by rw [List.length_map]; omega), ?_⟩
      have e2 : ((fs.map fun g => D.str (wAt ns g)) ++ [.str (wAt ns a)]) = ((fs ++ [a]).map fun g => D.str (wAt ns g)) := by rw [List.map_append]; rfl
      rw [e2]
      have hf2 : ∀ f ∈ fs ++ [a], f < ws.length ∧ p f := all_snoc hf h0
      have nd2 := nodup_snoc nd hna
      have lf2 : (fs ++ [a]).length ≤ ws.length := places_len nd2 fun f hx => (hf2 f hx).1
      have lf3 : (fs ++ [a]).length = fs.length + 1 := by rw [List.length_append]; rfl
      walk_at "w"
      refine ⟨fun e he => ?_, fun he => ?_⟩
      · obtain ⟨i, li, hli, ei, hi, rfl⟩ := hs _ _ he
        have hi2 := (List.getElem?_eq_some_iff.mp hli).1
        have hl1 := dr.len
        have hl2 := dr.lenL
        have eai : a = i := wAt_inj dr.nd (by omega) (by omega) ei
        subst eai
        have hok := dr.ok a li hli
        have hgf := goals_few hok
        walk_at "w"
        refine ⟨le1000 (by rw [List.length_map, List.length_map]; omega), ?_⟩
        have e3 : ((bs.map fun g => D.str (wAt ns g)) ++ (goalsL li).map fun g => D.str (wAt ns g)) = ((bs ++ goalsL li).map fun g => D.str (wAt ns g)) := by rw [List.map_append]
        rw [e3]
        refine ⟨(bs ++ goalsL li).length + 20 * (8 - (fs ++ [a]).length), ?_, fs ++ [a], bs ++ goalsL li, _, rfl, rfl, nd2, hf2, fun f hx => ?_, rfl, ?_⟩
        · rw [List.length_append]; omega
        · rcases List.mem_append.mp hx with hx | hx
          · exact hb f hx
          · exact ⟨(goals_ok hok f hx).1, hc a li hli hi h0.2 f hx⟩
        · rw [List.length_append]; omega
      · walk_at "w"
        refine ⟨le1000 (by rw [List.length_map]; show bs.length + 0 ≤ 1000; omega), ?_⟩
        rw [List.append_nil]
        exact ⟨bs.length + 20 * (8 - (fs ++ [a]).length), by omega, fs ++ [a], bs, _, rfl, rfl, nd2, hf2, hb, rfl, by omega⟩
    · walk_at "w"
      exact ⟨_, by omega, fs, bs, _, rfl, rfl, nd, hf, hb, rfl, by omega⟩
theorem i_reached {pn : Option (Addr × Addr)} {ns ws : List Str} {ls : List Li} {kvs : List (Key × D)} {gs : List Nat} (p : Nat → Prop) {d : D} {n : Nat} {Q : D → Nat → Prop} {X : XD} (e : goalD ns gs = d) (dr : Drawn ns ws ls) (hs : Sil ns ws ls kvs) (hc : Closed ws ls p) (hg : ∀ g ∈ gs, g < ws.length ∧ p g) (gl : gs.length ≤ 10) (k : ∀ fs : List Nat, (∀ f ∈ fs, f < ws.length ∧ p f) → Q (goalD ns fs) n) : dReached pn (.dct kvs) d n Q X := by
  unfold dReached
  exact ⟨ns, ws, ls, kvs, gs, p, rfl, e.symm, dr, hs, hc, hg, gl, k⟩
theorem i_forms {pn : Option (Addr × Addr)} {ns ws : List Str} {kp : Bool} {ls : List Li} {n : Nat} {Q : D → Nat → Prop} {X : XD} (dr : Drawn ns ws ls) (k : Q .non n) : dForms pn (.lst (linesD ns ls kp)) n Q X := by
  unfold dForms
  exact ⟨ns, ws, kp, ls, rfl, dr, k⟩
theorem i_chk_goals {pn : Option (Addr × Addr)} {ns ws : List Str} {ls : List Li} {n : Nat} {Q : D → Nat → Prop} {X : XD} (dr : Drawn ns ws ls) (k : Q .non n) : dChkGoals pn (.tup (linesD ns ls true)) n Q X := by
  unfold dChkGoals
  exact ⟨ns, ws, ls, rfl, dr, k⟩
end
end Lw

namespace Lw
open PySem L2
open Evl Da
local macro_rules
  | `(tactic| walk_at "f") => `(tactic| first | exact lookF_put | exact lookF_hit | exact (lookF_skip (by decide +kernel) lookF_hit) | exact (lookF_skip (by decide +kernel) (lookF_skip (by decide +kernel) lookF_hit)) | exact (lookF_skip (by decide +kernel) (lookF_skip (by decide +kernel) (lookF_skip (by decide +kernel) lookF_hit))) | exact (lookF_skip (by decide +kernel) (lookF_skip (by decide +kernel) (lookF_skip (by decide +kernel) (lookF_skip (by decide +kernel) lookF_hit)))) | exact (lookF_skip (by decide +kernel) (lookF_skip (by decide +kernel) (lookF_skip (by decide +kernel) (lookF_skip (by decide +kernel) (lookF_skip (by decide +kernel) lookF_hit))))) | exact (lookF_skip (by decide +kernel) (lookF_skip (by decide +kernel) (lookF_skip (by decide +kernel) (lookF_skip (by decide +kernel) (lookF_skip (by decide +kernel) (lookF_skip (by decide +kernel) lookF_hit)))))) | ((refine lookF_other (by decide +kernel) ?_); walk_at "f") | ((refine lookF_skip (by decide +kernel) ?_); walk_at "f"))
  | `(tactic| walk_at "fl") => `(tactic| first | exact Nat.zero_lt_succ _ | ((refine putFD_lt ?_); walk_at "fl"))
  | `(tactic| walk_at "a") => `(tactic| first | exact le1000 (Nat.le_of_ble_eq_true rfl) | exact rfl | decide +kernel | exact And.intro (by with_reducible assumption) (by with_reducible assumption) | exact And.intro (And.intro (by with_reducible assumption) (by with_reducible assumption)) (by walk_at "fl"))
  | `(tactic| walk_at "w") => `(tactic| ((conv => whnf); repeat ((first | ((with_reducible refine And.intro ?_ ?_); (focus (walk_at "a"))) | ((with_reducible refine Br.yes ?_ ?_); (focus (first | exact rfl | decide +kernel))) | ((with_reducible refine Br.no ?_ ?_); (focus (first | exact rfl | decide +kernel))) | ((with_reducible refine ex_fld ?_); (refine fld_w (by walk_at "f") ?_)) | ((with_reducible refine ex_at ?_); (refine at_w rfl ?_))); (conv => whnf))))
  | `(tactic| walk_at "n") => `(tactic| ((try dsimp only [st0, st1, S.at, S.drop, S.own, S.put, S.frz, Src.n] at *); omega))
  | `(tactic| walk_at "draw") => `(tactic| ((try walk_at "w"); (refine i_draw ⟨by walk_at "n", by walk_at "n", by walk_at "n"⟩ ?_)))
section
variable {P : Program} {w : World} {K : PySem.W.Frag} {mg : Str → Option Value} {base : Heap}
theorem plc_ok {ns ws : List Str} {ls : List Li} (dr : Drawn ns ws ls) {gs : List Nat} (hg : ∀ g ∈ gs, g < ws.length) : ∀ d ∈ (gs.map fun g => D.str (wAt ns g)), Pl 0 d := fun d hd => by
  obtain ⟨g, hgm, rfl⟩ := List.mem_map.mp hd
  exact az_ok (dr.nm _ (wAt_mem (by have := hg g hgm; have := dr.len; omega))).az
theorem name_ok {ns ws : List Str} {ls : List Li} (dr : Drawn ns ws ls) {i : Nat} (h : i < ws.length) : Pl 0 (.str (wAt ns i)) := az_ok (dr.nm _ (wAt_mem (by have := dr.len; omega))).az
theorem plc_in {ns ws : List Str} {ls : List Li} (dr : Drawn ns ws ls) {gs : List Nat} (hg : ∀ g ∈ gs, g < ws.length) {i : Nat} (hi : i < ws.length) : D.str (wAt ns i) ∈ (gs.map fun g => D.str (wAt ns g)) ↔ i ∈ gs := by
  have hl := dr.len
  constructor
  · intro h
    obtain ⟨g, hgm, e⟩ := List.mem_map.mp h
    injection e with e
    have := wAt_inj dr.nd (by have := hg g hgm; omega) (by omega) e
    rw [← this]
    exact hgm
  · intro h
    exact List.mem_map_of_mem (f := fun g => D.str (wAt ns g)) h
@[irreducible] def dChkRings : R1 := fun _ a n Q _ => ∃ (ns ws : List Str) (ls : List Li), a = .tup (linesD ns ls true) ∧ Drawn ns ws ls ∧ Q .non n
theorem ok_check_rings (T : Tx w K mg) : FnOk P w K mg base CX0 3 T.f_check_rings T.d_check_rings ["lines"] (Da.upSp K (sp1 dChkRings)) := by
  refine T.F_check_rings.ok sc_check_rings (fun vs H Q E h => Da.up_len1 h) (fun cdv A outer s H vs Q E hr h => ?_)
  refine ⟨_, (pss_cons (ps_set (i := 1) sc_check_rings.nd rfl (Or.inl rfl) (pe_call (ok_silent_ways T) (hr.mono (by decide)) rfl T.m_silent_ways T.F_silent_ways.kp T.b_silent_ways .nil pass0 (pa_cons (pv 0) pa_nil)))
      (pss_one (ps_for PassesOwn.never rfl (Da.enumTK (K := K) rfl (by rfl) T.z_enumerate (pa_cons (pv 0) pa_nil)) (Da.gtupK (n := 2) (K := K) rfl (by rfl) (pgs_cons (pg_name (i := 2) sc_check_rings.nd rfl (Or.inl rfl)) (pgs_cons (Da.gtupK (n := 2) (K := K) rfl (by rfl) (pgs_cons (pg_name (i := 3) sc_check_rings.nd rfl (Or.inl rfl)) (pgs_cons (pg_name (i := 4) sc_check_rings.nd rfl (Or.inl rfl)) pgs_nil))) pgs_nil)))
        (pss_one (ps_if (pt_cmpR (Da.inK (K := K) rfl (Da.u65 hr)) (pv 3) (pe_call (ok_reached T) (hr.mono (by decide)) rfl T.m_reached T.F_reached.kp T.b_reached .nil pass0 (pa_cons (pv 1) (pa_cons (pe_dget2 (hu_of hr) (pv 1) (pv 3) (pe_lst pa_nil) ⟨rfl, rfl, rfl, rfl⟩) pa_nil))) (by rfl))
          (pss_one ps_never)
          pss_nil))))), Da.go_up1 h ?_⟩
  intro pn a n Q _ h
  unfold dChkRings at h
  obtain ⟨ns, ws, ls, rfl, dr, h⟩ := h
  have hl1 := dr.len
  have hl2 := dr.lenL
  walk_at "w"
  refine i_silent dr (fun kvs hs => ?_)
  walk_at "w"
  refine for_inv (fun i Γ s => ∃ u2 u3 u4 : Option D, Γ = [some (.tup (linesD ns ls true)), some (.dct kvs), u2, u3, u4] ∧ s = st0 n pn) ⟨_, _, _, rfl, rfl⟩ ?_ ?_
  · rintro i d _ _ hi hd ⟨u2, u3, u4, rfl, rfl⟩
    obtain ⟨e, he, rfl⟩ := enu_at hd
    obtain ⟨li, ds, hli, eds, rfl⟩ := ls_at he
    have hi2 := (List.getElem?_eq_some_iff.mp hli).1
    have fin : ∀ fs : List Nat, (∀ f ∈ fs, f < ws.length) → i ∉ fs → True := fun _ _ _ => trivial
    walk_at "w"
    refine ⟨fun e he2 => ?_, fun he2 => ?_⟩
    · obtain ⟨j, lj, hlj, ej, hj, rfl⟩ := hs _ _ he2
      have eij : i = j := wAt_inj dr.nd (by omega) (by have := (List.getElem?_eq_some_iff.mp hlj).1; omega) ej
      subst eij
      have hok := dr.ok i lj hlj
      walk_at "w"
      refine i_reached (gs := goalsL lj) (fun g => Lk (wAt ws g) ∨ i < g) rfl dr hs (fun k lk hk hq hp g hg => ?_) (fun g hg => ⟨(goals_ok hok g hg).1, ((goals_ok hok g hg).2 hj).imp id (·.2)⟩) (goals_few hok) (fun fs hf => ?_)
      · rcases hp with hp | hp
        · exact absurd hp hq
        · exact ((goals_ok (dr.ok k lk hk) g hg).2 hq).imp id (fun z => by omega)
      · walk_at "w"
        refine ⟨⟨0, by decide, name_ok dr (by omega), plc_ok dr fun f hx => (hf f hx).1⟩, ?_⟩
        walk_at "w"
        refine .n (fun z => ?_) ?_
        · rcases (hf i ((plc_in dr (fun f hx => (hf f hx).1) (by omega)).mp z)).2 with z | z
          · exact hj z
          · omega
        · exact ⟨_, _, _, rfl, rfl⟩
    · walk_at "w"
      refine i_reached (gs := []) (ns := ns) (fun _ => False) rfl dr hs (fun k lk hk hq hp g hg => hp) (fun g hg => nomatch hg) (by decide) (fun fs hf => ?_)
      walk_at "w"
      refine ⟨⟨0, by decide, name_ok dr (by omega), plc_ok dr fun f hx => (hf f hx).1⟩, ?_⟩
      walk_at "w"
      refine .n (fun z => (hf i ((plc_in dr (fun f hx => (hf f hx).1) (by omega)).mp z)).2) ?_
      exact ⟨_, _, _, rfl, rfl⟩
  · rintro _ _ ⟨u2, u3, u4, rfl, rfl⟩
    exact h
@[irreducible] def dChkBegin : R1 := fun _ a n Q _ => ∃ (ns ws : List Str) (ls : List Li), a = .tup (linesD ns ls true) ∧ Drawn ns ws ls ∧ Q .non n
theorem ls_head {ns ws : List Str} {ls : List Li} (dr : Drawn ns ws ls) (k : Bool) : ∃ li ds, ls[0]? = some li ∧ liD ns k li = .tup ds ∧ (linesD ns ls k)[0]? = some (.tup [.str (wAt ns 0), .tup ds]) := by
  have h0 : 0 < ls.length := by have := dr.pos; have := dr.lenL; omega
  obtain ⟨li, ds, h1, h2, h3⟩ := ls_at (List.getElem?_eq_getElem (l := linesD ns ls k) (by rw [linesD_len]; exact h0))
  exact ⟨li, ds, h1, h2, by rw [List.getElem?_eq_getElem (by rw [linesD_len]; exact h0), h3]⟩
theorem lk_not : ∀ x, Lk x → x ∉ (["cut", "skip", "refuse"] : List Str) := fun x h => (show ∀ x ∈ (["take", "case", "rest", "cap", "jump"] : List Str), x ∉ (["cut", "skip", "refuse"] : List Str) by decide +kernel) x h
theorem begin_ok {ws : List Str} (hw : Wds ws) : wAt ws 0 ∉ (["cut", "skip", "refuse"] : List Str) := by
  rcases hw.beg with ⟨x, h1, h2⟩ | ⟨_, ⟨x, h1, h2⟩, _⟩
  · rw [wAt_some h1]; exact lk_not x h2
  · rw [wAt_some h1]
    exact (show ∀ x ∈ (["set", "upto"] : List Str), x ∉ (["cut", "skip", "refuse"] : List Str) by decide +kernel) x h2
theorem ok_check_begin (T : Tx w K mg) : FnOk P w K mg base CX0 3 T.f_check_begin T.d_check_begin ["lines"] (Da.upSp K (sp1 dChkBegin)) := by
  refine T.F_check_begin.ok sc_check_begin (fun vs H Q E h => Da.up_len1 h) (fun cdv A outer s H vs Q E hr h => ?_)
  refine ⟨_, (pss_cons (ps_set (i := 1) sc_check_begin.nd rfl (Or.inl rfl) (pe_call (ok_reached T) (hr.mono (by decide)) rfl T.m_reached T.F_reached.kp T.b_reached .nil pass0 (pa_cons (pe_call (ok_silent_ways T) (hr.mono (by decide)) rfl T.m_silent_ways T.F_silent_ways.kp T.b_silent_ways .nil pass0 (pa_cons (pv 0) pa_nil)) (pa_cons (pe_lst (pa_cons (pe_ix (Da.ixK (K := K) rfl) (pe_ix (Da.ixK (K := K) rfl) (pv 0) pe_int (fun _ _ => rfl)) pe_int (fun _ _ => rfl)) pa_nil)) pa_nil))))
      (pss_one (ps_for PassesOwn.never rfl (Da.enumTK (K := K) rfl (by rfl) T.z_enumerate (pa_cons (pv 0) pa_nil)) (Da.gtupK (n := 2) (K := K) rfl (by rfl) (pgs_cons (pg_name (i := 2) sc_check_begin.nd rfl (Or.inl rfl)) (pgs_cons (Da.gtupK (n := 2) (K := K) rfl (by rfl) (pgs_cons (pg_name (i := 3) sc_check_begin.nd rfl (Or.inl rfl)) (pgs_cons (pg_name (i := 4) sc_check_begin.nd rfl (Or.inl rfl)) pgs_nil))) pgs_nil)))
        (pss_one (ps_if (PW.pt (pw_and (pt_cmpR (Da.inK (K := K) rfl (Da.u65 hr)) (pe_ix (Da.ixK (K := K) rfl) (pv 4) pe_int (fun _ _ => rfl)) (Da.gK (K := K) rfl T.q_NEVER_FIRST (pe_glob (v := .ref T.a_NEVER_FIRST) rfl T.m_NEVER_FIRST rfl)) (by rfl)) (pw_and1 (pt_cmpR (Da.inK (K := K) rfl (Da.u65 hr)) (pv 3) (pv 1) (by rfl)))))
          (pss_one ps_never)
          pss_nil))))), Da.go_up1 h ?_⟩
  intro pn a n Q _ h
  unfold dChkBegin at h
  obtain ⟨ns, ws, ls, rfl, dr, h⟩ := h
  have hl1 := dr.len
  have hl2 := dr.lenL
  have hp := dr.pos
  obtain ⟨l0, d0, g1, g2, g3⟩ := ls_head dr true
  walk_at "w"
  refine i_silent dr (fun kvs hs => ?_)
  walk_at "w"
  refine ⟨_, atI_nat (j := 0) g3, ?_⟩
  walk_at "w"
  refine i_reached (gs := [0]) (ns := ns) (fun g => g = 0 ∨ Lk (wAt ws g)) rfl dr hs (fun k lk hk hq hp g hg => ?_) (fun g hg => by rw [List.mem_singleton.mp hg]; exact ⟨by omega, .inl rfl⟩) (by decide) (fun fs hf => ?_)
  · rcases hp with rfl | hp
    · rcases (goals_ok (dr.ok 0 lk hk) g hg).2 hq with z | z
      · exact .inr z
      · omega
    · exact absurd hp hq
  walk_at "w"
  refine for_inv (fun i Γ s => ∃ u2 u3 u4 : Option D, Γ = [some (.tup (linesD ns ls true)), some (goalD ns fs), u2, u3, u4] ∧ s = st0 n pn) ⟨_, _, _, rfl, rfl⟩ ?_ ?_
  · rintro i d _ _ hi hd ⟨u2, u3, u4, rfl, rfl⟩
    obtain ⟨e, he, rfl⟩ := enu_at hd
    obtain ⟨li, ds, hli, eds, rfl⟩ := ls_at he
    have hi2 := (List.getElem?_eq_some_iff.mp hli).1
    walk_at "w"
    refine ⟨_, word_at (dr.ok i li hli) eds, ?_⟩
    walk_at "w"
    refine ⟨⟨ok_at dr (by omega), str_plain (ws := ["cut", "skip", "refuse"]) (by decide +kernel)⟩, ?_⟩
    walk_at "w"
    refine .dec (fun hn => ?_) (fun _ => ?_)
    · have hn := str_mem (ws := ["cut", "skip", "refuse"]).mp hn
      walk_at "w"
      refine ⟨⟨0, by decide, name_ok dr (by omega), plc_ok dr fun f hx => (hf f hx).1⟩, ?_⟩
      walk_at "w"
      refine .n (fun z => ?_) ?_
      · rcases (hf i ((plc_in dr (fun f hx => (hf f hx).1) (by omega)).mp z)).2 with rfl | z
        · exact begin_ok dr.wds hn
        · exact lk_not _ z hn
      · exact ⟨_, _, _, rfl, rfl⟩
    · walk_at "w"
      exact ⟨_, _, _, rfl, rfl⟩
  · rintro _ _ ⟨u2, u3, u4, rfl, rfl⟩
    exact h
theorem i_chk_rings {pn : Option (Addr × Addr)} {ns ws : List Str} {ls : List Li} {n : Nat} {Q : D → Nat → Prop} {X : XD} (dr : Drawn ns ws ls) (k : Q .non n) : dChkRings pn (.tup (linesD ns ls true)) n Q X := by
  unfold dChkRings
  exact ⟨ns, ws, ls, rfl, dr, k⟩
theorem i_chk_begin {pn : Option (Addr × Addr)} {ns ws : List Str} {ls : List Li} {n : Nat} {Q : D → Nat → Prop} {X : XD} (dr : Drawn ns ws ls) (k : Q .non n) : dChkBegin pn (.tup (linesD ns ls true)) n Q X := by
  unfold dChkBegin
  exact ⟨ns, ws, ls, rfl, dr, k⟩
@[irreducible] def dReaderI : I1 := fun _ a n Q _ => ∃ (ns ws : List Str) (kp : Bool) (ls : List Li), a = .lst (linesD ns ls kp) ∧ Drawn ns ws ls ∧ Q [("lines", .tup (linesD ns ls true))] n
theorem ok_Reader___init (T : Tx w K mg) : FnOk P w K mg base CX0 5 T.f_Reader___init T.d_Reader___init ["self", "lines"] (Da.upIn K T.c_Reader (di1 dReaderI)) := by
  refine T.F_Reader___init.ok sc_Reader___init (fun vs H Q E h => Da.in_len1 h) (fun cdv A outer s H vs Q E hr h => ?_)
  refine ⟨_, (pss_cons (ps_if (pt_cmpR op_gt (pe_callB (Da.lenK (K := K) rfl) (by rfl) T.z_len (by decide +kernel) (pa_cons (pv 1) pa_nil)) (pe_glob (v := .int 8) rfl T.m_MOST_LINES ⟨_, rfl⟩) (nomark _))
        (pss_one ps_never)
        pss_nil)
      (pss_cons (ps_if (pt_cmpR (Da.eqK (K := K) rfl hr.units) (pe_callB (Da.lenK (K := K) rfl) (by rfl) T.z_len (by decide +kernel) (pa_cons (pv 1) pa_nil)) pe_int (nomark _))
        (pss_one ps_never)
        pss_nil)
      (pss_cons (ps_expr (pe_call (ok_check_forms T) (hr.mono (by decide)) rfl T.m_check_forms T.F_check_forms.kp T.b_check_forms .nil pass0 (pa_cons (pv 1) pa_nil)))
      (pss_cons (Da.setfK (K := K) rfl (pv 0) (pe_callTy (Da.tupleK (K := K) rfl) (by rfl) T.z_tuple (by decide +kernel) (pa_cons (pe_lc (g := gTup K 2 (gCons (gName 2) (gCons (gName 3) gNil))) rfl sc_Reader___init.nd (Da.seqK (K := K) rfl (pv 1)) (blkOk_by (own := [("name", 2), ("line", 3)]) (N := ["self", "lines", "name", "line"]) (sc := defScope s_Reader___init) (by decide +kernel)) (fun _ _ _ _ _ => (Da.gtupK (n := 2) (K := K) rfl (by rfl) (pgs_cons (pg_name (i := 2) sc_Reader___init.nd rfl (Or.inl rfl)) (pgs_cons (pg_name (i := 3) sc_Reader___init.nd rfl (Or.inl rfl)) pgs_nil)))) (fun _ _ _ _ _ => pts_nil) (fun _ _ _ _ _ => (pe_tup (pa_cons (pv 2) (pa_cons (pe_call (ok_frozen T) (hr.mono (by decide)) rfl T.m_frozen T.F_frozen.kp T.b_frozen .nil pass0 (pa_cons (pv 3) pa_nil)) pa_nil))))) pa_nil)) rfl)
      (pss_cons (ps_expr (pe_call (ok_check_goals T) (hr.mono (by decide)) rfl T.m_check_goals T.F_check_goals.kp T.b_check_goals .nil pass0 (pa_cons (Da.fldK (K := K) rfl (pv 0) rfl) pa_nil)))
      (pss_cons (ps_expr (pe_call (ok_check_rings T) (hr.mono (by decide)) rfl T.m_check_rings T.F_check_rings.kp T.b_check_rings .nil pass0 (pa_cons (Da.fldK (K := K) rfl (pv 0) rfl) pa_nil)))
      (pss_one (ps_expr (pe_call (ok_check_begin T) (hr.mono (by decide)) rfl T.m_check_begin T.F_check_begin.kp T.b_check_begin .nil pass0 (pa_cons (Da.fldK (K := K) rfl (pv 0) rfl) pa_nil)))))))))), Da.go_in1 h ?_⟩
  intro x pn a n Q _ h
  unfold dReaderI at h
  obtain ⟨ns, ws, kp, ls, rfl, dr, h⟩ := h
  have hl2 := dr.lenL
  have h8 := dr.most
  have hp := dr.pos
  walk_at "w"
  refine .n (by rw [linesD_len]; omega) ?_
  walk_at "w"
  refine .n (by rw [linesD_len]; omega) ?_
  walk_at "w"
  refine i_forms dr ?_
  walk_at "w"
  refine lc_inv (fun i acc s => acc = linesD ns (ls.take i) true ∧ s = st1 x T.c_Reader [] n pn) (le1000 (by show (linesD ns ls kp).length ≤ 1000; rw [linesD_len]; omega)) ⟨rfl, rfl⟩ ?_ ?_
  · rintro i d _ _ hi hd hl ⟨rfl, rfl⟩
    obtain ⟨li, ds, hli, eds, rfl⟩ := ls_at (seq_at hd)
    have hi2 := (List.getElem?_eq_some_iff.mp hli).1
    obtain ⟨ds2, eds2⟩ := liD_tup ns true li
    walk_at "w"
    refine i_frozen eds (dr.ok i li hli) ?_
    rw [eds2]
    walk_at "w"
    refine ⟨?_, rfl⟩
    rw [take_more hli, linesD_app, List.length_take, Nat.min_eq_left (by omega)]
    show _ ++ [D.tup [.str (wAt ns i), .tup ds2]] = _ ++ [D.tup [.str (wAt ns i), liD ns true li]]
    rw [eds2]
  rintro _ _ hl ⟨rfl, rfl⟩
  have en : (Src.seq (linesD ns ls kp)).n = ls.length := linesD_len
  rw [en, List.take_length]
  have c1 := T.cl_Reader
  have c2 := T.n_Reader_lines
  walk_at "w"
  refine i_chk_goals dr ?_
  walk_at "w"
  refine i_chk_rings dr ?_
  walk_at "w"
  refine i_chk_begin dr ?_
  walk_at "w"
  exact h
theorem i_readerI {pn : Option (Addr × Addr)} {ns ws : List Str} {kp : Bool} {ls : List Li} {n : Nat} {Q : QF} {X : XD} (dr : Drawn ns ws ls) (k : Q [("lines", .tup (linesD ns ls true))] n) : dReaderI pn (.lst (linesD ns ls kp)) n Q X := by
  unfold dReaderI
  exact ⟨ns, ws, kp, ls, rfl, dr, k⟩
end
end Lw

/-! Runs joined; a reader of one cell and a skip, as numbers (own). -/
namespace Jn
abbrev Rn := Int × Int
def jstep (acc : List Rn) (p : Rn) : List Rn :=
  if p.1 = 0 then acc else match acc.getLast? with
    | some r => if r.2 = p.2 then acc.dropLast ++ [(r.1 + p.1, p.2)] else acc ++ [p]
    | none => acc ++ [p]
def joinR (ps : List Rn) : List Rn := ps.foldl jstep []
def expand (rs : List Rn) : List Int := rs.flatMap fun r => List.replicate r.1.toNat r.2
theorem join_snoc (ps : List Rn) (p : Rn) : joinR (ps ++ [p]) = jstep (joinR ps) p := by
  unfold joinR
  rw [List.foldl_append]
  rfl
theorem last_split {α : Type} {l : List α} {x : α} (h : l.getLast? = some x) : l = l.dropLast ++ [x] := by
  cases l with
  | nil => cases h
  | cons a r =>
    have h1 : (a :: r).getLast (by simp) = x := by
      rw [List.getLast?_eq_some_getLast (by simp)] at h
      exact Option.some.inj h
    rw [← h1]
    exact (List.dropLast_concat_getLast _).symm
theorem jstep_len (acc : List Rn) (p : Rn) : (jstep acc p).length ≤ acc.length + 1 := by
  unfold jstep
  split
  · omega
  · split
    · rename_i r h
      have hl : acc.length = acc.dropLast.length + 1 := by
        have := congrArg List.length (last_split h)
        rw [List.length_append] at this
        exact this
      split
      · rw [List.length_append]
        show acc.dropLast.length + 1 ≤ _
        omega
      · rw [List.length_append]
        exact Nat.le_refl _
    · rw [List.length_append]
      exact Nat.le_refl _
theorem join_len (ps : List Rn) : (joinR ps).length ≤ ps.length := by
  have gen : ∀ (ps acc : List Rn), (ps.foldl jstep acc).length ≤ acc.length + ps.length := by
    intro ps
    induction ps with
    | nil => intro acc; exact Nat.le_refl _
    | cons p r ih =>
      intro acc
      have h1 := ih (jstep acc p)
      have h2 := jstep_len acc p
      show (r.foldl jstep (jstep acc p)).length ≤ acc.length + (r.length + 1)
      omega
  have := gen ps []
  unfold joinR
  show _ ≤ ps.length
  have h0 : ([] : List Rn).length = 0 := rfl
  omega
theorem expand_app (a b : List Rn) : expand (a ++ b) = expand a ++ expand b := by
  unfold expand
  rw [List.flatMap_append]
theorem expand_one (r : Rn) : expand [r] = List.replicate r.1.toNat r.2 := by
  unfold expand
  simp
theorem jstep_ok {acc : List Rn} {p : Rn} (ha : ∀ r ∈ acc, 1 ≤ r.1) (hp : 0 ≤ p.1) : (∀ r ∈ jstep acc p, 1 ≤ r.1) ∧ expand (jstep acc p) = expand acc ++ List.replicate p.1.toNat p.2 := by
  unfold jstep
  split
  · rename_i h0
    refine ⟨ha, ?_⟩
    rw [h0]
    simp
  · rename_i h0
    have new : (∀ r ∈ acc ++ [p], 1 ≤ r.1) ∧ expand (acc ++ [p]) = expand acc ++ List.replicate p.1.toNat p.2 := by
      refine ⟨fun r hr => ?_, by rw [expand_app, expand_one]⟩
      rcases List.mem_append.mp hr with h | h
      · exact ha r h
      · rw [List.mem_singleton.mp h]
        omega
    split
    · rename_i r h
      split
      · rename_i e
        have hs := last_split h
        have hr1 : 1 ≤ r.1 := ha r (by rw [hs]; simp)
        refine ⟨fun q hq => ?_, ?_⟩
        · rcases List.mem_append.mp hq with h | h
          · exact ha q (List.dropLast_subset _ h)
          · rw [List.mem_singleton.mp h]
            show 1 ≤ r.1 + p.1
            omega
        · conv => rhs; rw [hs]
          rw [expand_app, expand_one, expand_app, expand_one, List.append_assoc, e, List.replicate_append_replicate]
          congr 2
          show (r.1 + p.1).toNat = _
          omega
      · exact new
    · exact new
theorem join_ok {ps : List Rn} (hp : ∀ p ∈ ps, 0 ≤ p.1) : (∀ r ∈ joinR ps, 1 ≤ r.1) ∧ expand (joinR ps) = expand ps := by
  have gen : ∀ (ps acc : List Rn), (∀ p ∈ ps, 0 ≤ p.1) → (∀ r ∈ acc, 1 ≤ r.1) → (∀ r ∈ ps.foldl jstep acc, 1 ≤ r.1) ∧ expand (ps.foldl jstep acc) = expand acc ++ expand ps := by
    intro ps
    induction ps with
    | nil => intro acc _ ha; exact ⟨ha, by simp [expand]⟩
    | cons p r ih =>
      intro acc hp ha
      obtain ⟨h1, h2⟩ := jstep_ok ha (hp p List.mem_cons_self)
      obtain ⟨h3, h4⟩ := ih (jstep acc p) (fun q hq => hp q (List.mem_cons_of_mem _ hq)) h1
      refine ⟨h3, ?_⟩
      show expand (r.foldl jstep (jstep acc p)) = _
      rw [h4, h2, List.append_assoc]
      rfl
  exact gen ps [] hp (fun r hr => by cases hr)
theorem expand_ones (cs : List Int) : expand (cs.map fun c => ((1 : Int), c)) = cs := by
  induction cs with
  | nil => rfl
  | cons c r ih =>
    show List.replicate 1 c ++ expand _ = _
    rw [ih]
    rfl
theorem size_of {rs : List Rn} (h : ∀ r ∈ rs, 1 ≤ r.1) : (rs.map (·.1)).sum = ((expand rs).length : Int) := by
  induction rs with
  | nil => rfl
  | cons r t ih =>
    have h1 := h r List.mem_cons_self
    have h2 := ih fun q hq => h q (List.mem_cons_of_mem _ hq)
    show r.1 + (t.map (·.1)).sum = ((List.replicate r.1.toNat r.2 ++ expand t).length : Int)
    rw [h2, List.length_append, List.length_replicate]
    omega
/-! the reader -/
inductive St where
  | tk
  | sk (l : Nat)
def St.ok : Option St → Prop
  | some (.sk l) => 1 ≤ l
  | _ => True
def stepF (z : Int) : St → Int → Option St × Bool
  | .tk, c => if c + z < 0 then (none, false) else if c + z = 0 then (some .tk, true) else (some (.sk (c + z).toNat), false)
  | .sk l, _ => if l ≤ 1 then (some .tk, true) else (some (.sk (l - 1)), false)
theorem step_tk {z c : Int} : stepF z .tk c = if c + z < 0 then (none, false) else if c + z = 0 then (some .tk, true) else (some (.sk (c + z).toNat), false) := rfl
theorem step_sk {z c : Int} {l : Nat} : stepF z (.sk l) c = if l ≤ 1 then (some .tk, true) else (some (.sk (l - 1)), false) := rfl
def cutsFrom (z : Int) : List Int → Int → Option St → List Int
  | [], _, _ => []
  | _ :: _, _, none => []
  | c :: r, p, some s => (if (stepF z s c).2 = true then [p + 1] else []) ++ cutsFrom z r (p + 1) (stepF z s c).1
def aheadF (z : Int) : St → Int → Nat → Nat × Option St × Bool
  | .tk, c, n =>
    if c + z < 0 then (1, none, false)
    else if c + z = 0 then (1, some .tk, true)
    else if n = 1 then (1, some (.sk (c + z).toNat), false)
    else if n - 1 < (c + z).toNat then (n, some (.sk ((c + z).toNat - (n - 1))), false)
    else (1 + (c + z).toNat, some .tk, true)
  | .sk l, _, n => if n < l then (n, some (.sk (l - n)), false) else (l, some .tk, true)
theorem cuts_cons (z : Int) (c : Int) (r : List Int) (p : Int) (s : St) : cutsFrom z (c :: r) p (some s) = (if (stepF z s c).2 = true then [p + 1] else []) ++ cutsFrom z r (p + 1) (stepF z s c).1 := rfl
theorem none_cuts (z : Int) : ∀ (cs : List Int) (p : Int), cutsFrom z cs p none = []
  | [], _ => rfl
  | _ :: _, _ => rfl
/-- a skip of l cells -/
theorem skip_cuts {z : Int} : ∀ (l : Nat) (cs : List Int) (p : Int), 1 ≤ l → cutsFrom z cs p (some (.sk l)) = if l ≤ cs.length then (p + l) :: cutsFrom z (cs.drop l) (p + l) (some .tk) else [] := by
  intro l
  induction l with
  | zero => intro cs p h; omega
  | succ l ih =>
    intro cs p _
    cases cs with
    | nil => rw [if_neg (by simp)]; rfl
    | cons c r =>
      rw [cuts_cons]
      by_cases h0 : l = 0
      · subst h0
        have e : stepF z (.sk (0 + 1)) c = (some .tk, true) := rfl
        rw [e, if_pos (by simp)]
        simp
      · have e : stepF z (.sk (l + 1)) c = (some (.sk l), false) := by
          show (if l + 1 ≤ 1 then (some St.tk, true) else (some (St.sk (l + 1 - 1)), false)) = _
          rw [if_neg (by omega)]
          rfl
        rw [e]
        show [] ++ cutsFrom z r (p + 1) (some (.sk l)) = _
        rw [List.nil_append, ih r (p + 1) (by omega), List.length_cons]
        by_cases h : l ≤ r.length
        · rw [if_pos h, if_pos (by omega), List.drop_succ_cons]
          rw [show p + 1 + (l : Int) = p + ((l + 1 : Nat) : Int) by omega]
        · rw [if_neg h, if_neg (by omega)]
theorem rep_split {n m : Nat} (h : m ≤ n) (c : Int) (r : List Int) : List.replicate n c ++ r = List.replicate m c ++ (List.replicate (n - m) c ++ r) := by
  rw [← List.append_assoc, List.replicate_append_replicate]
  congr 2
  omega
theorem sk_part {z : Int} {l n : Nat} {c p : Int} {r : List Int} (h : n < l) : cutsFrom z (List.replicate n c ++ r) p (some (.sk l)) = cutsFrom z r (p + n) (some (.sk (l - n))) := by
  rw [skip_cuts l _ _ (by omega), skip_cuts (l - n) _ _ (by omega), List.length_append, List.length_replicate]
  by_cases h2 : l ≤ n + r.length
  · rw [if_pos h2, if_pos (by omega), List.drop_append, List.length_replicate, List.drop_of_length_le (by rw [List.length_replicate]; omega), List.nil_append]
    rw [show p + (l : Int) = p + (n : Int) + ((l - n : Nat) : Int) by omega]
  · rw [if_neg h2, if_neg (by omega)]
theorem sk_all {z : Int} {l n : Nat} {c p : Int} {r : List Int} (h1 : 1 ≤ l) (h : l ≤ n) : cutsFrom z (List.replicate n c ++ r) p (some (.sk l)) = [p + l] ++ cutsFrom z (List.replicate (n - l) c ++ r) (p + l) (some .tk) := by
  rw [skip_cuts l _ _ h1, List.length_append, List.length_replicate, if_pos (by omega), List.drop_append, List.length_replicate, List.drop_replicate]
  rw [show l - n = 0 by omega]
  rfl
theorem tk_step {z : Int} {c p : Int} {r : List Int} : cutsFrom z (c :: r) p (some .tk) = if c + z < 0 then [] else if c + z = 0 then [p + 1] ++ cutsFrom z r (p + 1) (some .tk) else cutsFrom z r (p + 1) (some (.sk (c + z).toNat)) := by
  rw [cuts_cons]
  by_cases h1 : c + z < 0
  · have e : stepF z .tk c = (none, false) := if_pos h1
    rw [e, if_pos h1]
    show [] ++ cutsFrom z r (p + 1) none = []
    rw [none_cuts]
    rfl
  · by_cases h2 : c + z = 0
    · have e : stepF z .tk c = (some .tk, true) := (if_neg h1).trans (if_pos h2)
      rw [e, if_neg h1, if_pos h2]
      rfl
    · have e : stepF z .tk c = (some (.sk (c + z).toNat), false) := (if_neg h1).trans (if_neg h2)
      rw [e, if_neg h1, if_neg h2]
      rfl
theorem ah_tk {z c : Int} {n : Nat} : aheadF z .tk c n = if c + z < 0 then (1, none, false)
    else if c + z = 0 then (1, some .tk, true)
    else if n = 1 then (1, some (.sk (c + z).toNat), false)
    else if n - 1 < (c + z).toNat then (n, some (.sk ((c + z).toNat - (n - 1))), false)
    else (1 + (c + z).toNat, some .tk, true) := rfl
theorem ah_sk {z c : Int} {l n : Nat} : aheadF z (.sk l) c n = if n < l then (n, some (.sk (l - n)), false) else (l, some .tk, true) := rfl
theorem ahead_ok {z : Int} {s : St} {c p : Int} {n : Nat} {r : List Int} (hn : 1 ≤ n) (hs : St.ok (some s)) :
    1 ≤ (aheadF z s c n).1 ∧ (aheadF z s c n).1 ≤ n ∧ St.ok (aheadF z s c n).2.1 ∧
      cutsFrom z (List.replicate n c ++ r) p (some s) = (if (aheadF z s c n).2.2 = true then [p + ((aheadF z s c n).1 : Int)] else []) ++ cutsFrom z (List.replicate (n - (aheadF z s c n).1) c ++ r) (p + ((aheadF z s c n).1 : Int)) (aheadF z s c n).2.1 := by
  cases s with
  | tk =>
    obtain ⟨m, rfl⟩ : ∃ m, n = m + 1 := ⟨n - 1, by omega⟩
    have e : List.replicate (m + 1) c ++ r = c :: (List.replicate m c ++ r) := rfl
    rw [e, tk_step, ah_tk]
    by_cases h1 : c + z < 0
    · rw [if_pos h1, if_pos h1]
      refine ⟨Nat.le_refl _, by omega, True.intro, ?_⟩
      show [] = [] ++ cutsFrom z _ _ none
      rw [none_cuts]
      rfl
    · rw [if_neg h1, if_neg h1]
      by_cases h2 : c + z = 0
      · rw [if_pos h2, if_pos h2]
        exact ⟨Nat.le_refl _, by omega, True.intro, rfl⟩
      · rw [if_neg h2, if_neg h2]
        have hL : 1 ≤ (c + z).toNat := by omega
        by_cases h3 : m + 1 = 1
        · rw [if_pos h3]
          have : m = 0 := by omega
          subst this
          exact ⟨Nat.le_refl _, by omega, hL, rfl⟩
        · rw [if_neg h3]
          by_cases h4 : m + 1 - 1 < (c + z).toNat
          · rw [if_pos h4]
            refine ⟨by omega, Nat.le_refl _, show 1 ≤ _ by omega, ?_⟩
            show cutsFrom z (List.replicate m c ++ r) (p + 1) _ = [] ++ cutsFrom z (List.replicate (m + 1 - (m + 1)) c ++ r) _ _
            rw [sk_part (by omega), Nat.sub_self]
            show cutsFrom z r (p + 1 + (m : Int)) (some (.sk ((c + z).toNat - m))) = cutsFrom z r (p + ((m + 1 : Nat) : Int)) (some (.sk ((c + z).toNat - m)))
            rw [show p + 1 + (m : Int) = p + ((m + 1 : Nat) : Int) by omega]
          · rw [if_neg h4]
            refine ⟨by omega, by show 1 + _ ≤ _; omega, True.intro, ?_⟩
            rw [sk_all hL (by omega)]
            show [p + 1 + ((c + z).toNat : Int)] ++ cutsFrom z (List.replicate (m - (c + z).toNat) c ++ r) (p + 1 + ((c + z).toNat : Int)) (some .tk) = [p + ((1 + (c + z).toNat : Nat) : Int)] ++ cutsFrom z (List.replicate (m + 1 - (1 + (c + z).toNat)) c ++ r) (p + ((1 + (c + z).toNat : Nat) : Int)) (some .tk)
            rw [show p + 1 + ((c + z).toNat : Int) = p + ((1 + (c + z).toNat : Nat) : Int) by omega, show m + 1 - (1 + (c + z).toNat) = m - (c + z).toNat by omega]
  | sk l =>
    have hl : 1 ≤ l := hs
    rw [ah_sk]
    by_cases h : n < l
    · rw [if_pos h]
      refine ⟨hn, Nat.le_refl _, show 1 ≤ _ by omega, ?_⟩
      rw [sk_part h]
      show _ = [] ++ cutsFrom z (List.replicate (n - n) c ++ r) _ _
      rw [Nat.sub_self]
      rfl
    · rw [if_neg h]
      refine ⟨hl, by show l ≤ n; omega, True.intro, ?_⟩
      exact sk_all hl (by omega)
/-! the law's own -/
def lnext (z : Int) (cs : List Int) (place : Int) : Int := if cs.getD place.toNat 0 + z ≥ 0 then place + 1 + (cs.getD place.toNat 0 + z) else cs.length + 1
def lstep (z : Int) (cs : List Int) (a : Int × List Int) : Int × List Int :=
  if a.1 < cs.length then (lnext z cs a.1, if lnext z cs a.1 ≤ cs.length then a.2 ++ [lnext z cs a.1] else a.2) else a
def litN (z : Int) (cs : List Int) : Nat → Int × List Int
  | 0 => (0, [])
  | k + 1 => lstep z cs (litN z cs k)
def rest (z : Int) (cs : List Int) (p : Int) : List Int := if p ≤ cs.length then cutsFrom z (cs.drop p.toNat) p (some .tk) else []
theorem lstep_ok {z : Int} {cs : List Int} {a : Int × List Int} (h0 : 0 ≤ a.1) : 0 ≤ (lstep z cs a).1 ∧ (a.1 < cs.length → a.1 < (lstep z cs a).1) ∧ (¬ a.1 < cs.length → (lstep z cs a) = a) ∧ (lstep z cs a).2 ++ rest z cs (lstep z cs a).1 = a.2 ++ rest z cs a.1 := by
  unfold lstep
  by_cases h : a.1 < cs.length
  · rw [if_pos h]
    have hi : a.1.toNat < cs.length := by omega
    have hd : cs.drop a.1.toNat = cs[a.1.toNat] :: cs.drop (a.1.toNat + 1) := List.drop_eq_getElem_cons hi
    have hg : cs.getD a.1.toNat 0 = cs[a.1.toNat] := by
      rw [List.getD_eq_getElem?_getD, List.getElem?_eq_getElem hi]
      rfl
    generalize hc : cs[a.1.toNat] = c at hd hg
    have hr : rest z cs a.1 = cutsFrom z (c :: cs.drop (a.1.toNat + 1)) a.1 (some .tk) := by
      unfold rest
      rw [if_pos (by omega), hd]
    have hlen : (cs.drop (a.1.toNat + 1)).length = cs.length - (a.1.toNat + 1) := List.length_drop
    rw [hr, tk_step]
    unfold lnext
    rw [hg]
    by_cases h1 : c + z < 0
    · rw [if_neg (show ¬ (c + z ≥ 0) by omega), if_pos h1]
      refine ⟨by show (0 : Int) ≤ cs.length + 1; omega, fun _ => by show a.1 < cs.length + 1; omega, fun n => absurd h n, ?_⟩
      show (if _ then _ else a.2) ++ rest z cs (cs.length + 1) = _
      rw [if_neg (by omega)]
      unfold rest
      rw [if_neg (by omega)]
    · rw [if_pos (show c + z ≥ 0 by omega), if_neg h1]
      refine ⟨by show 0 ≤ a.1 + 1 + (c + z); omega, fun _ => by show a.1 < a.1 + 1 + (c + z); omega, fun n => absurd h n, ?_⟩
      show (if a.1 + 1 + (c + z) ≤ (cs.length : Int) then a.2 ++ [a.1 + 1 + (c + z)] else a.2) ++ rest z cs (a.1 + 1 + (c + z)) = _
      have hdd : ∀ L : Nat, (L : Int) = c + z → (cs.drop (a.1.toNat + 1)).drop L = cs.drop (a.1 + 1 + (c + z)).toNat := fun L hL => by
        rw [List.drop_drop]
        congr 1
        omega
      by_cases h2 : c + z = 0
      · rw [if_pos h2, if_pos (by omega)]
        unfold rest
        rw [if_pos (by omega), List.append_assoc, ← hdd 0 (by omega), List.drop_zero, h2]
        rw [show a.1 + 1 + (0 : Int) = a.1 + 1 by omega]
      · rw [if_neg h2, skip_cuts _ _ _ (by omega), hlen]
        have hL : (((c + z).toNat : Nat) : Int) = c + z := by omega
        by_cases h3 : a.1 + 1 + (c + z) ≤ (cs.length : Int)
        · rw [if_pos h3, if_pos (by omega)]
          unfold rest
          rw [if_pos h3, List.append_assoc, hdd _ hL, hL]
          rfl
        · rw [if_neg h3, if_neg (by omega)]
          unfold rest
          rw [if_neg h3]
  · rw [if_neg h]
    exact ⟨h0, fun q => absurd q h, fun _ => rfl, rfl⟩
theorem lit_inv {z : Int} {cs : List Int} : ∀ k, 0 ≤ (litN z cs k).1 ∧ ((k : Int) ≤ (litN z cs k).1 ∨ (cs.length : Int) ≤ (litN z cs k).1) ∧ (litN z cs k).2 ++ rest z cs (litN z cs k).1 = cutsFrom z cs 0 (some .tk)
  | 0 => by
    refine ⟨Int.le_refl _, .inl (Int.le_refl _), ?_⟩
    show [] ++ rest z cs 0 = _
    unfold rest
    rw [if_pos (by omega)]
    rfl
  | k + 1 => by
    obtain ⟨h1, h2, h3⟩ := lit_inv (z := z) (cs := cs) k
    obtain ⟨g1, g2, g3, g4⟩ := lstep_ok (z := z) (cs := cs) h1
    refine ⟨g1, ?_, g4.trans h3⟩
    show ((k + 1 : Nat) : Int) ≤ (lstep z cs (litN z cs k)).1 ∨ _
    by_cases h : (litN z cs k).1 < cs.length
    · have := g2 h
      rcases h2 with h2 | h2
      · exact .inl (by omega)
      · omega
    · refine .inr ?_
      show (cs.length : Int) ≤ (lstep z cs (litN z cs k)).1
      rw [g3 h]
      omega
theorem lit_end {z : Int} {cs : List Int} : (litN z cs cs.length).2 = cutsFrom z cs 0 (some .tk) := by
  obtain ⟨h1, h2, h3⟩ := lit_inv (z := z) (cs := cs) cs.length
  have hp : (cs.length : Int) ≤ (litN z cs cs.length).1 := h2.elim id id
  rw [← h3]
  have : rest z cs (litN z cs cs.length).1 = [] := by
    unfold rest
    split
    · rw [List.drop_of_length_le (by omega)]
      rfl
    · rfl
  rw [this, List.append_nil]
theorem cuts_len (z : Int) : ∀ (cs : List Int) (p : Int) (s : Option St), (cutsFrom z cs p s).length ≤ cs.length
  | [], _, _ => Nat.le_refl _
  | _ :: _, _, none => Nat.zero_le _
  | c :: r, p, some s => by
    rw [cuts_cons, List.length_append, List.length_cons]
    have := cuts_len z r (p + 1) (stepF z s c).1
    split
    · show 1 + _ ≤ _; omega
    · show 0 + _ ≤ _; omega
end Jn

/-! What a reader does, as numbers: for every drawn reader (own). -/
namespace Lw
open PySem PySem.Spec L2 Da
/-- a stand: the place of a line, what is kept, what is left of it -/
structure Sd where
  at_ : Nat
  kept : Option Int
  left : Nat
instance : DecidableEq Sd := fun a b => if h : a.at_ = b.at_ ∧ a.kept = b.kept ∧ a.left = b.left then isTrue (by
    obtain ⟨a1, a2, a3⟩ := a
    obtain ⟨b1, b2, b3⟩ := b
    obtain ⟨h1, h2, h3⟩ := h
    have h1 : a1 = b1 := h1
    have h2 : a2 = b2 := h2
    have h3 : a3 = b3 := h3
    rw [h1, h2, h3]) else isFalse fun e => h ⟨by rw [e], by rw [e], by rw [e]⟩
/-- one line come to: it waits, it refuses, or another one is come to -/
inductive Cm where
  | stop (o : Option Sd)
  | go (i : Nat) (kept : Option Int) (cut : Bool)
def hop (li : Li) (i : Nat) (kept : Option Int) : Cm := match li with
  | .fin w => if w = "cut" then .go 0 none true else .stop none
  | .take _ => .stop (some ⟨i, kept, 1⟩)
  | .case _ _ => .stop (some ⟨i, kept, 1⟩)
  | .upto c a b => .go (match kept with | none => b | some k => if k ≤ c then a else b) kept false
  | .num w c o =>
    if w = "skip" then match kept with
      | none => .stop none
      | some k => if k + c < 0 then .stop none else if k + c = 0 then .go o none false else .stop (some ⟨i, none, (k + c).toNat⟩)
    else if w = "set" then .go o (some c) false
    else if w = "jump" then .stop (some ⟨i, kept, c.toNat⟩)
    else .stop (some ⟨i, kept, 1⟩)
def come (ls : List Li) : Nat → Nat → Option Int → Option Sd × Bool
  | 0, _, _ => (none, false)
  | n + 1, i, k => match ls[i]? with
    | none => (none, false)
    | some li => match hop li i k with
      | .stop o => (o, false)
      | .go j k' c => ((come ls n j k').1, (come ls n j k').2 || c)
/-- behind the last cell that a line goes over -/
def behind (ls : List Li) (s : Sd) (cell : Int) : Option Sd × Bool := match ls[s.at_]? with
  | none => (none, false)
  | some li => match li with
    | .case wy o => come ls 30 (((wy.filter fun y => y.1 == cell).map (·.2) ++ [o]).headD o) s.kept
    | .take o => come ls 30 o (some cell)
    | .num w c o => come ls 30 o (if w = "rest" then some (cell % c) else if w = "cap" then some (if c < cell then c else cell) else s.kept)
    | .upto _ _ b => come ls 30 b s.kept
    | .fin _ => (none, false)
def step1 (ls : List Li) (s : Sd) (cell : Int) : Option Sd × Bool := if 1 < s.left then (some ⟨s.at_, s.kept, s.left - 1⟩, false) else behind ls s cell
/-- where a hop may lead in a drawn reader -/
theorem hop_go {ns ws : List Str} {ls : List Li} (d : Drawn ns ws ls) {i j : Nat} {li : Li} {k k' : Option Int} {c : Bool} (h : ls[i]? = some li) (e : hop li i k = .go j k' c) :
    (c = true ∧ j = 0 ∧ k' = none ∧ wAt ws i = "cut") ∨ (c = false ∧ ¬ Lk (wAt ws i) ∧ j < ws.length ∧ (Lk (wAt ws j) ∨ (0 < i ∧ i < j))) := by
  have ok := d.ok i li h
  have nl : ∀ x : Str, x ∈ (["skip", "cut", "upto", "set", "refuse"] : List Str) → ¬ Lk x := by decide +kernel
  cases li with
  | fin w =>
    obtain ⟨h1, h2⟩ := ok
    simp only [hop] at e
    by_cases hw : w = "cut"
    · rw [if_pos hw] at e
      cases e
      exact .inl ⟨rfl, rfl, rfl, by rw [h1, hw]⟩
    · rw [if_neg hw] at e
      cases e
  | take o => cases e
  | case wy o => cases e
  | upto c' a b =>
    obtain ⟨h1, _, _, h4, h5⟩ := ok
    have hq : ¬ Lk (wAt ws i) := by rw [h1]; exact nl _ (by decide +kernel)
    simp only [hop] at e
    cases e
    refine .inr ⟨rfl, hq, ?_⟩
    cases k with
    | none => exact ⟨h5.1, h5.2 hq⟩
    | some v =>
      show (if v ≤ c' then a else b) < ws.length ∧ (Lk (wAt ws (if v ≤ c' then a else b)) ∨ (0 < i ∧ i < (if v ≤ c' then a else b)))
      by_cases hv : v ≤ c'
      · rw [if_pos hv]
        exact ⟨h4.1, h4.2 hq⟩
      · rw [if_neg hv]
        exact ⟨h5.1, h5.2 hq⟩
  | num w c' o =>
    obtain ⟨h1, h2, h3⟩ := ok
    simp only [hop] at e
    by_cases hw : w = "skip"
    · have hq : ¬ Lk (wAt ws i) := by rw [h1, hw]; exact nl _ (by decide +kernel)
      simp only [if_pos hw] at e
      cases k with
      | none => cases e
      | some v =>
        simp only at e
        by_cases hv : v + c' < 0
        · rw [if_pos hv] at e
          cases e
        · rw [if_neg hv] at e
          by_cases hv2 : v + c' = 0
          · rw [if_pos hv2] at e
            cases e
            exact .inr ⟨rfl, hq, h3.1, h3.2 hq⟩
          · rw [if_neg hv2] at e
            cases e
    · simp only [if_neg hw] at e
      by_cases hs : w = "set"
      · have hq : ¬ Lk (wAt ws i) := by rw [h1, hs]; exact nl _ (by decide +kernel)
        rw [if_pos hs] at e
        cases e
        exact .inr ⟨rfl, hq, h3.1, h3.2 hq⟩
      · rw [if_neg hs] at e
        by_cases hj : w = "jump"
        · rw [if_pos hj] at e
          cases e
        · rw [if_neg hj] at e
          cases e
/-- a stand at which a drawn reader may wait -/
structure SdOk (ws : List Str) (s : Sd) : Prop where
  lt : s.at_ < ws.length
  pos : 1 ≤ s.left
  word : Lk (wAt ws s.at_) ∨ (wAt ws s.at_ = "skip" ∧ s.kept = none)
def OutOk (ws : List Str) (o : Option Sd) : Prop := ∀ s, o = some s → SdOk ws s
/-- a line that reads waits at once -/
theorem hop_read {ns ws : List Str} {ls : List Li} (d : Drawn ns ws ls) {i : Nat} {li : Li} {k : Option Int} (h : ls[i]? = some li) (hl : Lk (wAt ws i)) : ∃ l : Nat, 1 ≤ l ∧ hop li i k = .stop (some ⟨i, k, l⟩) := by
  have ok := d.ok i li h
  have nl : ∀ x : Str, x ∈ (["skip", "cut", "upto", "set", "refuse"] : List Str) → ¬ Lk x := by decide +kernel
  cases li with
  | fin w =>
    obtain ⟨h1, h2⟩ := ok
    rw [h1] at hl
    rcases h2 with rfl | rfl
    · exact absurd hl (nl _ (by decide +kernel))
    · exact absurd hl (nl _ (by decide +kernel))
  | take o => exact ⟨1, Nat.le_refl _, rfl⟩
  | case wy o => exact ⟨1, Nat.le_refl _, rfl⟩
  | upto c a b =>
    rw [ok.1] at hl
    exact absurd hl (nl _ (by decide +kernel))
  | num w c o =>
    obtain ⟨h1, h2, h3⟩ := ok
    rw [h1] at hl
    have n1 : w ≠ "skip" := fun e => nl _ (by decide +kernel) (e ▸ hl)
    have n2 : w ≠ "set" := fun e => nl _ (by decide +kernel) (e ▸ hl)
    simp only [hop]
    rw [if_neg n1, if_neg n2]
    by_cases hj : w = "jump"
    · rw [if_pos hj]
      refine ⟨c.toNat, ?_, rfl⟩
      have ne : ∀ x : Str, x ∈ (["rest", "cap", "set", "skip"] : List Str) → x ≠ "jump" := by decide +kernel
      rcases h2 with ⟨e, _⟩ | ⟨e, _⟩ | ⟨e, h4, h5⟩ | ⟨e, _⟩ | ⟨e, _⟩
      · exact absurd hj (ne w (by rw [e]; decide +kernel))
      · exact absurd hj (ne w (by rw [e]; decide +kernel))
      · omega
      · exact absurd hj (ne w (by rw [e]; decide +kernel))
      · exact absurd hj (ne w (by rw [e]; decide +kernel))
    · rw [if_neg hj]
      exact ⟨1, Nat.le_refl _, rfl⟩
/-- where a line stops, it waits well -/
theorem hop_stop {ns ws : List Str} {ls : List Li} (d : Drawn ns ws ls) {i : Nat} {li : Li} {k : Option Int} {o : Option Sd} (h : ls[i]? = some li) (e : hop li i k = .stop o) : OutOk ws o := by
  have hi : i < ws.length := by
    have := (List.getElem?_eq_some_iff.mp h).1
    rw [d.lenL] at this
    exact this
  by_cases hl : Lk (wAt ws i)
  · obtain ⟨l, l1, e2⟩ := hop_read d (k := k) h hl
    rw [e2] at e
    cases e
    rintro s ⟨⟩
    exact ⟨hi, l1, .inl hl⟩
  have ok := d.ok i li h
  have lk : ∀ x : Str, x ∈ (["take", "case", "rest", "cap", "jump"] : List Str) → Lk x := fun x h => h
  cases li with
  | fin w =>
    simp only [hop] at e
    by_cases hw : w = "cut"
    · rw [if_pos hw] at e
      cases e
    · rw [if_neg hw] at e
      cases e
      rintro s ⟨⟩
  | take o => exact absurd (by rw [ok.1]; decide +kernel) hl
  | case wy o => exact absurd (by rw [ok.1]; decide +kernel) hl
  | upto c a b => cases e
  | num w c o =>
    obtain ⟨h1, h2, h3⟩ := ok
    rw [h1] at hl
    simp only [hop] at e
    by_cases hw : w = "skip"
    · rw [if_pos hw] at e
      cases k with
      | none =>
        cases e
        rintro s ⟨⟩
      | some v =>
        simp only at e
        by_cases hv : v + c < 0
        · rw [if_pos hv] at e
          cases e
          rintro s ⟨⟩
        · rw [if_neg hv] at e
          by_cases hv2 : v + c = 0
          · rw [if_pos hv2] at e
            cases e
          · rw [if_neg hv2] at e
            cases e
            rintro s ⟨⟩
            exact ⟨hi, by show 1 ≤ (v + c).toNat; omega, .inr ⟨by rw [h1, hw], rfl⟩⟩
    · rw [if_neg hw] at e
      by_cases hs : w = "set"
      · rw [if_pos hs] at e
        cases e
      · rcases h2 with ⟨e2, _⟩ | ⟨e2, _⟩ | ⟨e2, _⟩ | ⟨e2, _⟩ | ⟨e2, _⟩
        · exact absurd (by rw [e2]; decide +kernel) hl
        · exact absurd (by rw [e2]; decide +kernel) hl
        · exact absurd (by rw [e2]; decide +kernel) hl
        · exact absurd e2 hs
        · exact absurd e2 hw
/-- so many turns from line to line, and the end of them -/
inductive Trip (ls : List Li) : Nat → Nat → Option Int → Option Sd × Bool → Prop where
  | stop {m i : Nat} {li : Li} {k : Option Int} {o : Option Sd} : ls[i]? = some li → hop li i k = .stop o → Trip ls m i k (o, false)
  | go {m i j : Nat} {li : Li} {k k' : Option Int} {c : Bool} {r : Option Sd × Bool} : ls[i]? = some li → hop li i k = .go j k' c → Trip ls m j k' r → Trip ls (m + 1) i k (r.1, r.2 || c)
theorem Trip.come {ls : List Li} {m i : Nat} {k : Option Int} {r : Option Sd × Bool} (h : Trip ls m i k r) : ∀ n, m + 1 ≤ n → Lw.come ls n i k = r := by
  induction h with
  | stop h1 h2 =>
    intro n hn
    obtain ⟨n, rfl⟩ : ∃ q, n = q + 1 := ⟨n - 1, by omega⟩
    simp only [Lw.come, h1, h2]
  | go h1 h2 _ ih =>
    intro n hn
    obtain ⟨n, rfl⟩ : ∃ q, n = q + 1 := ⟨n - 1, by omega⟩
    simp only [Lw.come, h1, h2]
    rw [ih n (by omega)]
theorem Trip.up {ls : List Li} {m i : Nat} {k : Option Int} {r : Option Sd × Bool} (h : Trip ls m i k r) : ∀ {n : Nat}, m ≤ n → Trip ls n i k r := by
  induction h with
  | stop h1 h2 => exact fun _ => .stop h1 h2
  | go h1 h2 _ ih =>
    intro n hn
    obtain ⟨n, rfl⟩ : ∃ q, n = q + 1 := ⟨n - 1, by omega⟩
    exact .go h1 h2 (ih (by omega))
/-- the first line waits, and is come to without an event -/
theorem trip_first {ns ws : List Str} {ls : List Li} (d : Drawn ns ws ls) (k : Option Int) : ∃ s, SdOk ws s ∧ Trip ls 1 0 k (some s, false) := by
  have h0 : 0 < ls.length := by rw [d.lenL]; exact d.pos
  obtain ⟨li, hli⟩ : ∃ li, ls[0]? = some li := ⟨_, List.getElem?_eq_getElem h0⟩
  by_cases hl : Lk (wAt ws 0)
  · obtain ⟨l, l1, e⟩ := hop_read d (k := k) hli hl
    exact ⟨⟨0, k, l⟩, ⟨d.pos, l1, .inl hl⟩, .stop hli e⟩
  · rcases d.wds.beg with ⟨x, hx, hx2⟩ | ⟨_, ⟨x, hx, hx2⟩, _⟩
    · rw [← wAt_some hx] at hx2
      exact absurd hx2 hl
    · cases hh : hop li 0 k with
      | stop o =>
        exfalso
        have ok := d.ok 0 li hli
        have hw := wAt_some hx
        have ne : ∀ y : Str, y ∈ (["set", "upto"] : List Str) → y ≠ "cut" ∧ y ≠ "refuse" ∧ y ≠ "skip" ∧ ¬ Lk y := by decide +kernel
        obtain ⟨a1, a2, a3, a4⟩ := ne x hx2
        cases li with
        | fin w =>
          obtain ⟨h1, h2⟩ := ok
          rw [hw] at h1
          rcases h2 with e | e
          · exact a1 (h1.trans e)
          · exact a2 (h1.trans e)
        | take o => exact hl (by rw [ok.1]; decide +kernel)
        | case wy o => exact hl (by rw [ok.1]; decide +kernel)
        | upto c a b => cases hh
        | num w c o =>
          obtain ⟨h1, h2, h3⟩ := ok
          rw [hw] at h1
          subst h1
          simp only [hop] at hh
          rw [if_neg a3] at hh
          by_cases hs : x = "set"
          · rw [if_pos hs] at hh
            cases hh
          · have : ∀ y : Str, y ∈ (["set", "upto"] : List Str) → y ≠ "set" → y ≠ "rest" ∧ y ≠ "cap" ∧ y ≠ "jump" := by decide +kernel
            obtain ⟨b1, b2, b3⟩ := this x hx2 hs
            rcases h2 with ⟨e2, _⟩ | ⟨e2, _⟩ | ⟨e2, _⟩ | ⟨e2, _⟩ | ⟨e2, _⟩
            · exact b1 e2
            · exact b2 e2
            · exact b3 e2
            · exact hs e2
            · exact a3 e2
      | go j k' c =>
        rcases hop_go d hli hh with ⟨_, _, _, e⟩ | ⟨rfl, _, hj, hj2⟩
        · have ne : ∀ y : Str, y ∈ (["set", "upto"] : List Str) → y ≠ "cut" := by decide +kernel
          exact absurd ((wAt_some hx).symm.trans e) (ne x hx2)
        · rcases hj2 with hj2 | hj2
          · obtain ⟨lj, hlj⟩ : ∃ lj, ls[j]? = some lj := ⟨_, List.getElem?_eq_getElem (by rw [d.lenL]; exact hj)⟩
            obtain ⟨l, l1, e⟩ := hop_read d (k := k') hlj hj2
            exact ⟨⟨j, k', l⟩, ⟨hj, l1, .inl hj2⟩, .go (m := 0) hli hh (.stop hlj e)⟩
          · omega
/-- any line is come to an end from, within the law's turns; a cut refuses nothing -/
theorem trip_ends {ns ws : List Str} {ls : List Li} (d : Drawn ns ws ls) : ∀ (m i : Nat) (k : Option Int), i < ws.length → ws.length - i ≤ m → ∃ r : Option Sd × Bool, OutOk ws r.1 ∧ (r.1 = none → r.2 = false) ∧ Trip ls (m + 2) i k r
  | 0, i, k, hi, hm => by omega
  | m + 1, i, k, hi, hm => by
    obtain ⟨li, hli⟩ : ∃ li, ls[i]? = some li := ⟨_, List.getElem?_eq_getElem (by rw [d.lenL]; exact hi)⟩
    cases hh : hop li i k with
    | stop o => exact ⟨(o, false), hop_stop d hli hh, fun _ => rfl, .stop hli hh⟩
    | go j k' c =>
      rcases hop_go d hli hh with ⟨rfl, rfl, rfl, _⟩ | ⟨rfl, hq, hj, hj2⟩
      · obtain ⟨s, hs, he⟩ := trip_first d none
        exact ⟨(some s, true), fun s' e => by cases e; exact hs, (fun e => by cases e), .go (r := (some s, false)) hli hh (he.up (by omega))⟩
      · rcases hj2 with hj2 | hj2
        · obtain ⟨lj, hlj⟩ : ∃ lj, ls[j]? = some lj := ⟨_, List.getElem?_eq_getElem (by rw [d.lenL]; exact hj)⟩
          obtain ⟨l, l1, e⟩ := hop_read d (k := k') hlj hj2
          exact ⟨(some ⟨j, k', l⟩, false), fun s' e => by cases e; exact ⟨hj, l1, .inl hj2⟩, (fun e => by cases e), .go (r := (some ⟨j, k', l⟩, false)) hli hh (.stop hlj e)⟩
        · obtain ⟨r, hr, h0, he⟩ := trip_ends d m j k' hj (by omega)
          refine ⟨r, hr, h0, ?_⟩
          have := Trip.go (ls := ls) hli hh he
          rw [Bool.or_false] at this
          exact this
theorem trip10 {ns ws : List Str} {ls : List Li} (d : Drawn ns ws ls) {i : Nat} (k : Option Int) (hi : i < ws.length) : OutOk ws (come ls 30 i k).1 ∧ ((come ls 30 i k).1 = none → (come ls 30 i k).2 = false) ∧ Trip ls 10 i k (come ls 30 i k) := by
  have h8 := d.most
  obtain ⟨r, h1, h2, h3⟩ := trip_ends d 8 i k hi (by omega)
  rw [h3.come 30 (by decide)]
  exact ⟨h1, h2, h3⟩
end Lw

/-! Equal cells gone over by a drawn reader: up to the first event, whole rings at once (own). -/
namespace Lw
open PySem PySem.Spec L2 Da
def aheadG (ls : List Li) (cell : Int) : Nat → Sd → Nat × Option Sd × Bool
  | 0, s => (0, some s, false)
  | n + 1, s => match step1 ls s cell with
    | (some s', false) => ((aheadG ls cell n s').1 + 1, (aheadG ls cell n s').2)
    | (o, c) => (1, o, c)
theorem ah_go {ls : List Li} {cell : Int} {n : Nat} {s s' : Sd} (h : step1 ls s cell = (some s', false)) : aheadG ls cell (n + 1) s = ((aheadG ls cell n s').1 + 1, (aheadG ls cell n s').2) := by
  simp only [aheadG, h]
theorem ah_end {ls : List Li} {cell : Int} {n : Nat} {s : Sd} {o : Option Sd} {c : Bool} (h : step1 ls s cell = (o, c)) (he : o = none ∨ c = true) : aheadG ls cell (n + 1) s = (1, o, c) := by
  cases o with
  | none => simp only [aheadG, h]
  | some s' =>
    rcases he with e | rfl
    · cases e
    · simp only [aheadG, h]
/-- within what is left of a line -/
theorem ah_part {ls : List Li} {cell : Int} : ∀ {n : Nat} {i l : Nat} {k : Option Int}, n < l → aheadG ls cell n ⟨i, k, l⟩ = (n, some ⟨i, k, l - n⟩, false)
  | 0, i, l, k, _ => rfl
  | n + 1, i, l, k, h => by
    have e : step1 ls ⟨i, k, l⟩ cell = (some ⟨i, k, l - 1⟩, false) := if_pos (show 1 < l by omega)
    rw [ah_go e, ah_part (show n < l - 1 by omega)]
    have e2 : l - 1 - n = l - (n + 1) := by omega
    rw [e2]
/-- so many cells without an event, and then the rest -/
theorem ah_add {ls : List Li} {cell : Int} : ∀ {a : Nat} {s s' : Sd} (b : Nat), aheadG ls cell a s = (a, some s', false) → aheadG ls cell (a + b) s = (a + (aheadG ls cell b s').1, (aheadG ls cell b s').2)
  | 0, s, s', b, h => by
    simp only [aheadG, Prod.mk.injEq, Option.some.injEq] at h
    obtain ⟨_, rfl, _⟩ := h
    rw [Nat.zero_add, Nat.zero_add]
  | a + 1, s, s', b, h => by
    rw [show a + 1 + b = (a + b) + 1 by omega]
    cases hs : step1 ls s cell with
    | mk o c =>
      cases o with
      | none =>
        rw [ah_end hs (.inl rfl)] at h
        cases h
      | some s2 =>
        cases c with
        | true =>
          rw [ah_end hs (.inr rfl)] at h
          cases h
        | false =>
          rw [ah_go hs] at h ⊢
          simp only [Prod.mk.injEq] at h
          obtain ⟨h1, h2⟩ := h
          have h3 : aheadG ls cell a s2 = (a, some s', false) := by
            refine Prod.ext ?_ h2
            show (aheadG ls cell a s2).1 = a
            omega
          rw [ah_add b h3]
          have e : a + (aheadG ls cell b s').1 + 1 = a + 1 + (aheadG ls cell b s').1 := by omega
          show (a + (aheadG ls cell b s').1 + 1, _) = _
          rw [e]
/-- the last cell of a line -/
theorem ah_last {ls : List Li} {cell : Int} {i l : Nat} {k : Option Int} (h : 1 ≤ l) : step1 ls ⟨i, k, 1⟩ cell = behind ls ⟨i, k, 1⟩ cell ∧ aheadG ls cell (l - 1) ⟨i, k, l⟩ = (l - 1, some ⟨i, k, 1⟩, false) := by
  refine ⟨if_neg (show ¬ 1 < 1 by omega), ?_⟩
  rw [ah_part (by omega)]
  have e : l - (l - 1) = 1 := by omega
  rw [e]
/-- a whole line, behind which there is no event -/
theorem ah_line {ls : List Li} {cell : Int} {i l : Nat} {k : Option Int} {s' : Sd} (h : 1 ≤ l) (hb : behind ls ⟨i, k, 1⟩ cell = (some s', false)) : aheadG ls cell l ⟨i, k, l⟩ = (l, some s', false) := by
  obtain ⟨h1, h2⟩ := ah_last (ls := ls) (cell := cell) (i := i) (k := k) h
  have h3 := ah_add 1 h2
  rw [show l - 1 + 1 = l by omega] at h3
  rw [h3, show (1 : Nat) = 0 + 1 from rfl, ah_go (h1.trans hb)]
  show (l - 1 + (0 + 1), some s', false) = _
  rw [show l - 1 + (0 + 1) = l by omega]
/-- a whole line, behind which there is one -/
theorem ah_event {ls : List Li} {cell : Int} {i l n : Nat} {k : Option Int} {o : Option Sd} {c : Bool} (h : 1 ≤ l) (hn : l ≤ n) (hb : behind ls ⟨i, k, 1⟩ cell = (o, c)) (he : o = none ∨ c = true) : aheadG ls cell n ⟨i, k, l⟩ = (l, o, c) := by
  obtain ⟨h1, h2⟩ := ah_last (ls := ls) (cell := cell) (i := i) (k := k) h
  have h3 := ah_add (n - (l - 1)) h2
  rw [show l - 1 + (n - (l - 1)) = n by omega] at h3
  obtain ⟨m, hm⟩ : ∃ m, n - (l - 1) = m + 1 := ⟨n - l, by omega⟩
  rw [h3, hm, ah_end (h1.trans hb) he]
  show (l - 1 + 1, o, c) = _
  rw [show l - 1 + 1 = l by omega]
/-- whole rings change nothing -/
theorem ah_ring {ls : List Li} {cell : Int} {p : Nat} {s : Sd} (hp : 1 ≤ p) (h : aheadG ls cell p s = (p, some s, false)) : ∀ (t r : Nat), aheadG ls cell (t * p + r) s = (t * p + (aheadG ls cell r s).1, (aheadG ls cell r s).2)
  | 0, r => by rw [Nat.zero_mul, Nat.zero_add, Nat.zero_add]
  | t + 1, r => by
    rw [show (t + 1) * p + r = p + (t * p + r) by rw [Nat.add_mul]; omega, ah_add _ h, ah_ring hp h t r]
    show (p + (t * p + (aheadG ls cell r s).1), _) = _
    rw [show p + (t * p + (aheadG ls cell r s).1) = (t + 1) * p + (aheadG ls cell r s).1 by rw [Nat.add_mul]; omega]
theorem ah_mod {ls : List Li} {cell : Int} {p : Nat} {s : Sd} (hp : 1 ≤ p) (h : aheadG ls cell p s = (p, some s, false)) (n : Nat) : aheadG ls cell n s = (n - n % p + (aheadG ls cell (n % p) s).1, (aheadG ls cell (n % p) s).2) := by
  have e : n / p * p + n % p = n := by rw [Nat.mul_comm]; exact Nat.div_add_mod n p
  have h2 := ah_ring hp h (n / p) (n % p)
  rw [e] at h2
  rw [h2, show n - n % p = n / p * p by omega]
end Lw

namespace Lw
open PySem L2
open Evl Da
local macro_rules
  | `(tactic| walk_at "f") => `(tactic| first | exact lookF_put | exact lookF_hit | exact (lookF_skip (by decide +kernel) lookF_hit) | exact (lookF_skip (by decide +kernel) (lookF_skip (by decide +kernel) lookF_hit)) | exact (lookF_skip (by decide +kernel) (lookF_skip (by decide +kernel) (lookF_skip (by decide +kernel) lookF_hit))) | exact (lookF_skip (by decide +kernel) (lookF_skip (by decide +kernel) (lookF_skip (by decide +kernel) (lookF_skip (by decide +kernel) lookF_hit)))) | exact (lookF_skip (by decide +kernel) (lookF_skip (by decide +kernel) (lookF_skip (by decide +kernel) (lookF_skip (by decide +kernel) (lookF_skip (by decide +kernel) lookF_hit))))) | exact (lookF_skip (by decide +kernel) (lookF_skip (by decide +kernel) (lookF_skip (by decide +kernel) (lookF_skip (by decide +kernel) (lookF_skip (by decide +kernel) (lookF_skip (by decide +kernel) lookF_hit)))))) | ((refine lookF_other (by decide +kernel) ?_); walk_at "f") | ((refine lookF_skip (by decide +kernel) ?_); walk_at "f"))
  | `(tactic| walk_at "fl") => `(tactic| first | exact Nat.zero_lt_succ _ | ((refine putFD_lt ?_); walk_at "fl"))
  | `(tactic| walk_at "a") => `(tactic| first | exact le1000 (Nat.le_of_ble_eq_true rfl) | exact rfl | decide +kernel | exact And.intro (by with_reducible assumption) (by with_reducible assumption) | exact And.intro (And.intro (by with_reducible assumption) (by with_reducible assumption)) (by walk_at "fl"))
  | `(tactic| walk_at "w") => `(tactic| ((conv => whnf); repeat ((first | ((with_reducible refine And.intro ?_ ?_); (focus (walk_at "a"))) | ((with_reducible refine Br.yes ?_ ?_); (focus (first | exact rfl | decide +kernel))) | ((with_reducible refine Br.no ?_ ?_); (focus (first | exact rfl | decide +kernel))) | ((with_reducible refine ex_fld ?_); (refine fld_w (by walk_at "f") ?_)) | ((with_reducible refine ex_at ?_); (refine at_w rfl ?_))); (conv => whnf))))
  | `(tactic| walk_at "n") => `(tactic| ((try dsimp only [st0, st1, S.at, S.drop, S.own, S.put, S.frz, Src.n] at *); omega))
  | `(tactic| walk_at "draw") => `(tactic| ((try walk_at "w"); (refine i_draw ⟨by walk_at "n", by walk_at "n", by walk_at "n"⟩ ?_)))
section
variable {P : Program} {w : World} {K : PySem.W.Frag} {mg : Str → Option Value} {base : Heap}
open Jn (Rn jstep joinR expand)
def runD (r : Rn) : D := .tup [.int r.1, .int r.2]
@[irreducible] def dJoined : R1 := fun _ a n Q _ => ∃ ps : List Rn, (a = .lst (ps.map runD) ∨ a = .tup (ps.map runD)) ∧ (joinR ps).length ≤ 1000 ∧ ps.length ≤ 100000 ∧ Q (.tup ((joinR ps).map runD)) n
theorem ok_joined (T : Tx w K mg) : FnOk P w K mg base CX0 1 T.f_joined T.d_joined ["pairs"] (Da.upSp K (sp1 dJoined)) := by
  refine T.F_joined.ok sc_joined (fun vs H Q E h => Da.up_len1 h) (fun cdv A outer s H vs Q E hr h => ?_)
  refine ⟨_, (pss_cons (Da.ps_own 1 (ps_set (i := 1) sc_joined.nd rfl (Or.inl rfl) (pe_lst pa_nil)))
      (pss_cons (ps_for PassesOwn.never rfl (Da.seqK (K := K) rfl (pv 0)) (Da.gtupK (n := 2) (K := K) rfl (by rfl) (pgs_cons (pg_name (i := 2) sc_joined.nd rfl (Or.inl rfl)) (pgs_cons (pg_name (i := 3) sc_joined.nd rfl (Or.inl rfl)) pgs_nil)))
        (pss_cons (ps_if (pt_cmpR (Da.eqK (K := K) rfl hr.units) (pv 2) pe_int (nomark _))
          (pss_one ps_continue)
          pss_nil)
        (pss_one (ps_if (PW.pt (pw_and (Da.truthK (K := K) rfl (pv 1) (by intro _; rfl)) (pw_and1 (pt_cmpR (Da.eqK (K := K) rfl hr.units) (pe_ix (Da.ixK (K := K) rfl) (pe_ix (Da.ixK (K := K) rfl) (pv 1) (pe_un un_neg pe_int) (fun _ _ => rfl)) pe_int (fun _ _ => rfl)) (pv 3) (nomark _)))))
          (pss_one (ps_asg (pe_tup (pa_cons (pe_op (Da.addK (K := K) rfl) (pe_ix (Da.ixK (K := K) rfl) (pe_ix (Da.ixK (K := K) rfl) (pv 1) (pe_un un_neg pe_int) (fun _ _ => rfl)) pe_int (fun _ _ => rfl)) (pv 2)) (pa_cons (pv 3) pa_nil))) (pg_sub (pv 1) (pe_un un_neg pe_int) set_list)))
          (pss_one (ps_expr (Da.bmK (K := K) rfl PySem.F.plainAttrs_list PySem.F.slot_list_append PySem.F.type_list_append mt_append (pv 1) (pa_cons (pe_tup (pa_cons (pv 2) (pa_cons (pv 3) pa_nil))) pa_nil))))))))
      (pss_cons (ps_if (pt_cmpR op_gt (pe_callB (Da.lenK (K := K) rfl) (by rfl) T.z_len (by decide +kernel) (pa_cons (pv 1) pa_nil)) (pe_glob (v := .int 1000) rfl T.m_MOST_RUNS ⟨_, rfl⟩) (nomark _))
        (pss_one ps_never)
        pss_nil)
      (pss_one (ps_ret (pe_callTy (Da.tupleK (K := K) rfl) (by rfl) T.z_tuple (by decide +kernel) (pa_cons (pv 1) pa_nil))))))), Da.go_up1 h ?_⟩
  intro pn a n Q _ h
  unfold dJoined at h
  obtain ⟨ps, e, h1, h2, h⟩ := h
  rcases e with rfl | rfl
  all_goals
    walk_at "w"
    intro l
    walk_at "w"
    refine for_inv (fun i Γ s => ∃ u0 u2 u3 : Option D, Γ = [u0, some (.loc l 1), u2, u3] ∧ s = ⟨[⟨1, l, .lst ((joinR (ps.take i)).map runD), false⟩], n, pn⟩) ⟨_, _, _, rfl, rfl⟩ ?_ ?_
    · rintro i d _ _ hi hd ⟨u0, u2, u3, rfl, rfl⟩
      have hd := seq_at hd
      rw [List.getElem?_map] at hd
      obtain ⟨p, hp, rfl⟩ := Option.map_eq_some_iff.mp hd
      have ej : joinR (ps.take (i + 1)) = jstep (joinR (ps.take i)) p := by rw [take_more hp, Jn.join_snoc]
      walk_at "w"
      refine .dec (fun h0 => ?_) (fun h0 => ?_)
      · walk_at "w"
        refine ⟨_, _, _, rfl, ?_⟩
        rw [ej]
        unfold jstep
        rw [if_pos h0]
      · have hl : (joinR (ps.take i)).length ≤ i := by
          have := Jn.join_len (ps.take i)
          rw [List.length_take] at this
          omega
        have hip : i < ps.length := (List.getElem?_eq_some_iff.mp hp).1
        generalize joinR (ps.take i) = acc at ej hl ⊢
        unfold jstep at ej
        rw [if_neg h0] at ej
        walk_at "w"
        rcases List.eq_nil_or_concat acc with rfl | ⟨bs, r, rfl⟩
        · walk_at "w"
          refine ⟨_, _, _, rfl, ?_⟩
          rw [ej]
          rfl
        · rw [List.concat_eq_append] at ej hl ⊢
          have lb : bs.length + 1 ≤ i := by rw [List.length_append] at hl; exact hl
          rw [List.getLast?_append] at ej
          have ej : joinR (ps.take (i + 1)) = if r.2 = p.2 then (bs ++ [r]).dropLast ++ [(r.1 + p.1, p.2)] else bs ++ [r] ++ [p] := ej
          rw [List.dropLast_concat] at ej
          have em : (bs ++ [r]).map runD = bs.map runD ++ [runD r] := by rw [List.map_append]; rfl
          have em2 : bs.length = (bs.map runD).length := (List.length_map _).symm
          rw [em]
          refine .yes (by simp) ?_
          walk_at "w"
          refine ⟨_, at_last, ?_⟩
          walk_at "w"
          refine .dec (fun he => ?_) (fun he => ?_)
          · walk_at "w"
            refine ⟨_, at_last, ?_⟩
            walk_at "w"
            refine ⟨(bs.map runD).length, by rw [List.length_append]; exact ix_last, ?_⟩
            rw [set_last]
            refine ⟨_, _, _, rfl, ?_⟩
            rw [ej, if_pos he, List.map_append]
            rfl
          · walk_at "w"
            refine ⟨Nat.lt_of_le_of_lt (show _ ≤ 100000 from ?_) (by decide), ?_⟩
            · rw [List.length_append, List.length_map]; show bs.length + 1 ≤ 100000; omega
            · refine ⟨_, _, _, rfl, ?_⟩
              rw [ej, if_neg he, List.map_append, List.map_append]
              rfl
    · rintro _ _ ⟨u0, u2, u3, rfl, rfl⟩
      have en : (Src.seq (ps.map runD)).n = ps.length := List.length_map _
      rw [en, List.take_length]
      walk_at "w"
      refine .n (by rw [List.length_map]; omega) ?_
      walk_at "w"
      exact h
end
end Lw

/-! Readings over data: one's own dicts whose keys are tuples (own). -/
namespace Da
open PySem PySem.Spec PyProof.Rows L2 Evl Hd
section
variable {K : PySem.W.Frag} {F : Fr} {s s' : S} {H H' Hv : Hp} {P : Program} {w : World}
def scK : D → Option NestedKey
  | .non => some .none
  | .int i => some (.num i)
  | .str x => some (.text x)
  | _ => none
def scKs : List D → Option (List NestedKey)
  | [] => some []
  | d :: r => match scK d with
    | some k => match scKs r with
      | some ks => some (k :: ks)
      | none => none
    | none => none
def keyN : D → Option (List NestedKey)
  | .tup ds => scKs ds
  | _ => none
theorem scK_v {v : V} {d : D} {k : NestedKey} (r : Rep K Hv v d) (e : scK d = some k) : Nk.Sc v k := by
  cases d with
  | non => cases r; cases e; exact .non
  | int i => cases r; cases e; exact .num i
  | str x => cases r; cases e; exact .text x
  | _ => cases e
theorem scKs_v : ∀ {vs : List V} {ds : List D} {ks : List NestedKey}, RepL K Hv vs ds → scKs ds = some ks → Paired Nk.Sc vs ks
  | _, _, _, .nil, e => by cases e; exact .nil
  | _, _, ks, @RepL.cons _ _ v d vs ds r q, e => by
    unfold scKs at e
    cases e1 : scK d with
    | none => rw [e1] at e; cases e
    | some k =>
      rw [e1] at e
      cases e2 : scKs ds with
      | none => rw [e2] at e; cases e
      | some ks' =>
        rw [e2] at e
        cases e
        exact .cons (scK_v r e1) (scKs_v q e2)
theorem keyN_v {v : V} {d : D} {ks : List NestedKey} (x : Ex Hv H) (r : RepW K Hv H v d) (e : keyN d = some ks) : ∃ t, v = .ref t ∧ KeyS K H ks t := by
  cases d with
  | tup ds =>
    obtain ⟨a, xs, rfl, h1, h2, h3⟩ := r.tup x
    exact ⟨a, rfl, xs, h1, scKs_v h2 e⟩
  | _ => cases e
theorem keyN_r {v : V} {d : D} {ks : List NestedKey} (r : Rep K Hv v d) (e : keyN d = some ks) : ∃ t, v = .ref t ∧ KeyS K Hv ks t := keyN_v (Ex.refl _) (r.w (Ex.refl _)) e
def lookN : List (List NestedKey × Int) → List NestedKey → Option Int
  | [], _ => none
  | (k', v) :: r, k => if k' = k then some v else lookN r k
/-! ### the rules -/
structure IsNk (K : PySem.W.Frag) (P : Program) (w : World) (H : Hp) (a : Addr) (es : List (List NestedKey × Int)) : Prop where
  out : ∃ xs, H a = some (Nk.nkO P w a xs) ∧ NkR K H xs es ∧ (a == sysModules) = false
section
variable {X : Cx} {a t : Addr} {es : List (List NestedKey × Int)} {ks : List NestedKey}
theorem KeyS.is {pins : List (Addr × Obj)} {σ : L2.St} {sh : Shared} (I : Inv X pins σ H sh) (k : KeyS X.K H ks t) : (nestedKind X.prog X.w).is sh.heap (.tup ks) t := by
  obtain ⟨vs, h1, h2⟩ := k
  obtain ⟨its, r, ⟨o, h3, h4, n, h5⟩, _⟩ := I.tuple h1
  refine ⟨.tup h3 h4 h5 (by simpa using Nk.sc_is h2 r), ?_⟩
  show NestedKey.depthAll ks + 1 ≤ 8
  rw [Nk.sc_dep h2]
  decide
theorem pr_keys : ∀ {xs : List Nk.Ent} {es : List (List NestedKey × Int)}, Paired (fun (x : Nk.Ent) (e : List NestedKey × Int) => x.1 = e.1 ∧ x.2.2 = .int e.2) xs es → xs.map (·.1) = es.map (·.1)
  | _, _, .nil => rfl
  | _, _, .cons r t => by rw [List.map_cons, List.map_cons, pr_keys t, r.1]
theorem pr_len : ∀ {xs : List Nk.Ent} {es : List (List NestedKey × Int)}, Paired (fun (x : Nk.Ent) (e : List NestedKey × Int) => x.1 = e.1 ∧ x.2.2 = .int e.2) xs es → xs.length = es.length
  | _, _, .nil => rfl
  | _, _, .cons r t => by rw [List.length_cons, List.length_cons, pr_len t]
theorem pr_snoc : ∀ {xs : List Nk.Ent} {es : List (List NestedKey × Int)} {x : Nk.Ent} {e : List NestedKey × Int}, Paired (fun (x : Nk.Ent) (e : List NestedKey × Int) => x.1 = e.1 ∧ x.2.2 = .int e.2) xs es → x.1 = e.1 ∧ x.2.2 = .int e.2 → Paired (fun (x : Nk.Ent) (e : List NestedKey × Int) => x.1 = e.1 ∧ x.2.2 = .int e.2) (xs ++ [x]) (es ++ [e])
  | _, _, _, _, .nil, q => .cons q .nil
  | _, _, _, _, .cons r t, q => .cons r (pr_snoc t q)
theorem IsNk.of {pins : List (Addr × Obj)} {σ : L2.St} {sh : Shared} (I : Inv X pins σ H sh) (d : IsNk X.K X.prog X.w H a es) : ∃ xs us, H a = some (Nk.nkO X.prog X.w a xs) ∧ NkR X.K H xs es ∧ Nk.EV xs us ∧ sh.heap.DictOfH (nestedKind X.prog X.w) a us ∧ (a == sysModules) = false := by
  obtain ⟨xs, h0, hr, low⟩ := d.out
  obtain ⟨⟨us, r, o, ds, ep, h1, h2, h3, h4⟩, _, _⟩ := (show ObjOk X.prog X.w H sh.heap a (Nk.nkO X.prog X.w a xs) from I.hok a _ h0)
  refine ⟨xs, us, h0, hr, r, ⟨o, ds, ep, h1, h2, h3, h4, fun x hx => ?_, by rw [Nk.ev_keys r]; exact Nk.nodup_tup (by rw [pr_keys hr.pair]; exact hr.nd)⟩, low⟩
  have gen : ∀ {es : List Nk.Ent} {us : List (NestedKey × Addr × Value)}, Nk.EV es us → (∀ x ∈ es, KeyS X.K H x.1 x.2.1) → ∀ x ∈ us, (nestedKind X.prog X.w).is sh.heap x.1 x.2.1 := by
    intro es us r
    induction r with
    | nil => intro _ x hx; exact nomatch hx
    | @cons p q ps qs hq t ih =>
      intro hk x hx
      rcases List.mem_cons.mp hx with e | hx
      · subst e
        rw [hq.1, ← hq.2.1]
        exact (hk p List.mem_cons_self).is I
      · exact ih (fun x hx => hk x (List.mem_cons_of_mem _ hx)) x hx
  exact gen r hr.keys x hx
def rInD (K : PySem.W.Frag) (P : Program) (w : World) (neg : Bool) : R2 := fun x y H Q => ∃ t a es ks, x = .ref t ∧ y = .ref a ∧ IsNk K P w H a es ∧ KeyS K H ks t ∧ Q (.bl (if neg = true then !decide (ks ∈ es.map (·.1)) else decide (ks ∈ es.map (·.1)))) H
theorem inDK (hK : X.K = K) (hP : X.prog = P) (hw : X.w = w) (hu : X.A.units + 64 < cLine) : OpR X (compareOp .In) (rInD K P w false) := by
  subst hK; subst hP; subst hw
  intro pins s σ H x y v u Q I rx ry h
  obtain ⟨t, a, es, ks, rfl, rfl, d, k, q⟩ := h
  cases rx
  cases ry
  obtain ⟨xs, us, h0, hr, r, dd, low⟩ := d.of I
  refine wpAny_in_heap (knd := nestedKind X.prog X.w) (k := .tup ks) (Nk.in1_room hu) (k.is I) low dd ?_
  rw [Nk.ev_at r, pr_keys hr.pair]
  exact ⟨.bl _, H, I.tok _, rfl, q⟩
def rGetD (K : PySem.W.Frag) (P : Program) (w : World) : R2 := fun x y H Q => ∃ t a es ks z, x = .ref a ∧ y = .ref t ∧ IsNk K P w H a es ∧ KeyS K H ks t ∧ lookN es ks = some z ∧ Q (.int z) H
theorem ev_look {ks : List NestedKey} {z : Int} : ∀ {es : List (List NestedKey × Int)} {xs : List Nk.Ent} {us : List (NestedKey × Addr × Value)}, Paired (fun (x : Nk.Ent) (e : List NestedKey × Int) => x.1 = e.1 ∧ x.2.2 = .int e.2) xs es → Nk.EV xs us → lookN es ks = some z → ∃ p : Addr × Value, atKey us (.tup ks) = some p ∧ RelV (.int z) p.2
  | _, _, _, .nil, .nil, h => by cases h
  | _, _, _, .cons (a := x) (b := e) q r, .cons (a := _) (b := u) g t, h => by
    obtain ⟨k, v⟩ := e
    unfold lookN at h
    unfold atKey
    rw [List.find?_cons]
    by_cases c : k = ks
    · rw [if_pos c] at h
      cases h
      refine ⟨u.2, ?_, ?_⟩
      · rw [show decide (u.1 = NestedKey.tup ks) = true from decide_eq_true (by rw [g.1, q.1, c])]
        rfl
      · have := g.2.2
        rw [q.2] at this
        exact this
    · rw [if_neg c] at h
      rw [show decide (u.1 = NestedKey.tup ks) = false from decide_eq_false (fun z => c (by rw [g.1, q.1] at z; cases z; rfl))]
      exact ev_look r t h
theorem getDK (hK : X.K = K) (hP : X.prog = P) (hw : X.w = w) (hu : X.A.units + 64 < cLine) : IxR X (rGetD K P w) := by
  subst hK; subst hP; subst hw
  intro value slice pins s σ H x y v u Q I rx ry h hs
  obtain ⟨t, a, es, ks, z, rfl, rfl, d, k, e, q⟩ := h
  cases rx
  cases ry
  obtain ⟨xs, us, h0, hr, r, dd, low⟩ := d.of I
  obtain ⟨p, e1, e2⟩ := ev_look hr.pair r e
  exact subscriptTail_builtinR (x := p.2) dd.typeIs slot_dict_getitem.lookup
    (wpAny_getItem_heap (Q := fun r s' => r = p.2 ∧ EP X pins σ Q r s') (knd := nestedKind X.prog X.w) (k := .tup ks) (Nk.in1_room hu) (k.is I) dd e1 ⟨rfl, ⟨.int z, H, I.tok _, e2, q⟩⟩) hs
/-- d[key] = an int, the key new -/
def rPutD (K : PySem.W.Frag) (P : Program) (w : World) : TSet := fun o i v H Q => ∃ t a xs es ks z, o = .ref a ∧ i = .ref t ∧ v = .int z ∧ H a = some (Nk.nkO P w a xs) ∧ NkR K H xs es ∧ (a == sysModules) = false ∧ KeyS K H ks t ∧ ks ∉ es.map (·.1) ∧ es.length < 1000 ∧ Q (upd H a (Nk.nkO P w a (xs ++ [(ks, t, .int z)])))
theorem putDK (hK : X.K = K) (hP : X.prog = P) (hw : X.w = w) (hu : X.A.units + 64 < cLine) : PSet X (rPutD K P w) := by
  subst hK; subst hP; subst hw
  intro pins s σ H o i v ov iv u Q I ro ri rv h
  obtain ⟨t, a, xs, es, ks, z, rfl, rfl, rfl, h0, hr, low, k, hn, hz, q⟩ := h
  cases ro
  cases ri
  obtain ⟨xs', us, h0', hr', r, dd, _⟩ := IsNk.of I (⟨xs, h0, hr, low⟩ : IsNk X.K X.prog X.w H a es)
  have ex : xs' = xs ∨ True := .inr trivial
  have hl : us.length ≤ sizeLine := by
    rw [← Paired.length r, pr_len hr'.pair]
    exact Nat.le_trans hr.len (by decide)
  have hnone : atKey us (.tup ks) = none := by
    have := Nk.ev_at r (ks := ks)
    rw [pr_keys hr'.pair, decide_eq_false hn] at this
    cases z : atKey us (.tup ks) with
    | none => rfl
    | some p => rw [z] at this; cases this
  obtain ⟨us2, r2, dd2⟩ : ∃ us2, Nk.EV xs us2 ∧ s.heap.DictOfH (nestedKind X.prog X.w) a us2 := by
    obtain ⟨⟨us2, r2, o, ds, ep, g1, g2, g3, g4⟩, _, _⟩ := (show ObjOk X.prog X.w H s.heap a (Nk.nkO X.prog X.w a xs) from I.hok a _ h0)
    obtain ⟨o', ds', ep', q1, q2, q3, q4, q5, q6⟩ := dd
    rw [g1] at q1
    cases q1
    rw [g3] at q3
    cases q3
    refine ⟨us2, r2, o, ds, ep, g1, g2, g3, g4, fun x hx => ?_, by rw [Nk.ev_keys r2]; exact Nk.nodup_tup (by rw [pr_keys hr.pair]; exact hr.nd)⟩
    have gen : ∀ {es : List Nk.Ent} {us : List (NestedKey × Addr × Value)}, Nk.EV es us → (∀ x ∈ es, KeyS X.K H x.1 x.2.1) → ∀ x ∈ us, (nestedKind X.prog X.w).is s.heap x.1 x.2.1 := by
      intro es us r
      induction r with
      | nil => intro _ x hx; exact nomatch hx
      | @cons p q ps qs hq t ih =>
        intro hk x hx
        rcases List.mem_cons.mp hx with e | hx
        · subst e
          rw [hq.1, ← hq.2.1]
          exact (hk p List.mem_cons_self).is I
        · exact ih (fun x hx => hk x (List.mem_cons_of_mem _ hx)) x hx
    exact gen r2 hr.keys x hx
  have hl2 : us2.length ≤ sizeLine := by
    rw [← Paired.length r2, pr_len hr.pair]
    exact Nat.le_trans hr.len (by decide)
  have hnone2 : atKey us2 (.tup ks) = none := by
    have := Nk.ev_at r2 (ks := ks)
    rw [pr_keys hr.pair, decide_eq_false hn] at this
    cases z : atKey us2 (.tup ks) with
    | none => rfl
    | some p => rw [z] at this; cases this
  refine wpAny_setItem_heap (knd := nestedKind X.prog X.w) (k := .tup ks) (hsz := hl2) (Nk.in1_room hu) (k.is I) dd2 fun h' dd' hs => ⟨_, ?_, q⟩
  rw [storedH_new hnone2] at dd'
  obtain ⟨ob, ds, ep, h1, h2, h3, h4, _, _⟩ := dd'
  exact d_write I (by rw [h0]; exact True.intro) hs ⟨ob, h1⟩ (Nk.nk_obj (Nk.ev_snoc r2 rv) h1 h2 h3 h4)
end
/-! ### the readings -/
theorem rep_nk {v : V} {P' : Program} {w' : World} {es : List (List NestedKey × Int)} (x : Ex Hv H) (r : RepW K Hv H v (.nkd P' w' es)) : ∃ a, v = .ref a ∧ IsNk K P' w' H a es := by
  obtain ⟨a, xs, rfl, h1, h2, h3⟩ := r
  exact ⟨a, rfl, xs, h1, h2.mono x, h3⟩
def fInN (P : Program) (w : World) (neg : Bool) : F2 := fun x y s Q => match y with
  | .nkd P' w' es => (P' = P ∧ w' = w) ∧ ∃ ks, keyN x = some ks ∧ Q (.bl (if neg = true then !decide (ks ∈ es.map (·.1)) else decide (ks ∈ es.map (·.1)))) s
  | _ => False
instance {neg : Bool} : LR K (rInD K P w neg) (fInN P w neg) := ⟨fun {F s H x y dx dy Q Q0} ok rx ry h k => by
  cases dy with
  | nkd P' w' es =>
    obtain ⟨⟨rfl, rfl⟩, ks, e, q⟩ := h
    obtain ⟨a, rfl, d⟩ := rep_nk vis_ex ry
    obtain ⟨t, rfl, kt⟩ := keyN_v vis_ex rx e
    exact ⟨t, a, es, ks, rfl, rfl, d, kt, k _ _ _ _ Tr.refl ok .bl q⟩
  | _ => exact h.elim⟩
def fGetN (P : Program) (w : World) : F2 := fun x y s Q => match x with
  | .nkd P' w' es => (P' = P ∧ w' = w) ∧ ∃ ks z, keyN y = some ks ∧ lookN es ks = some z ∧ Q (.int z) s
  | _ => False
instance : LR K (rGetD K P w) (fGetN P w) := ⟨fun {F s H x y dx dy Q Q0} ok rx ry h k => by
  cases dx with
  | nkd P' w' es =>
    obtain ⟨⟨rfl, rfl⟩, ks, z, e, e2, q⟩ := h
    obtain ⟨a, rfl, d⟩ := rep_nk vis_ex rx
    obtain ⟨t, rfl, kt⟩ := keyN_v vis_ex ry e
    exact ⟨t, a, es, ks, z, rfl, rfl, d, kt, e2, k _ _ _ _ Tr.refl ok .int q⟩
  | _ => exact h.elim⟩
def woNewN (P : Program) (w : World) : WM := fun _ s Q => Q (.nk P w []) s
theorem dnewNK {X : Cx} (hP : X.prog = P) (hw : X.w = w) {pos : Pos} : PE X (.Dict [] [] pos) (Nk.tDNewN P w) := by subst hP; subst hw; exact Nk.pe_dnewN
instance : LEo K (Nk.tDNewN P w) (woNewN P w) := ⟨fun {F s H σ Γ Q Q0} a h k => by
  intro p hp hl
  obtain ⟨ok1, e1⟩ := a.ok.hide (o := Nk.nkO P w p []) hp
  have hF : F p = false := by
    cases e : F p with
    | false => rfl
    | true => exact absurd hp (a.ok.fr p e)
  exact k p _ (.nk P w []) s hF ok1 e1 (fun b hb => upd_ne fun z => by rw [z, hF] at hb; cases hb) rfl ⟨[], upd_same, ⟨.nil, (fun x hx => nomatch hx), List.nodup_nil, Nat.zero_le _⟩, hl⟩ h⟩
def moN (m : MO) (k : Program → World → List (List NestedKey × Int) → Prop) : Prop := match m with
  | .nk P w es => k P w es
  | _ => False
def wgSetN (P : Program) (w : World) (wo wi : WE) : WG := fun d Γ s Q => wo Γ s fun o s1 => wi Γ s1 fun i s2 => mutP s2 o fun h m => moN m fun P' w' es => (P' = P ∧ w' = w) ∧ ∃ ks z, (keyN i = some ks ∧ d = .int z) ∧ (ks ∉ es.map (·.1) ∧ es.length < 1000) ∧ Q Γ (s2.put h (.nk P w (es ++ [(ks, z)])))
instance {to ti : TE} {wo wi : WE} [lo : LE K to wo] [li : LE K ti wi] : LG K (gSub to ti (rPutD K P w)) (wgSetN P w wo wi) := ⟨fun {F s H σ Γ v d Q Q0} a r h k => lo.go a h fun v1 H1 d1 s1 t1 ok1 r1 h1 => li.go (a.to t1 ok1) h1 fun v2 H2 d2 s2 t2 ok2 r2 h2 => by
  obtain ⟨n, e, q1, q2, rfl, h3, rfl⟩ := mutP_of (r1.mono t2.ex) h2
  cases hm : e.o with
  | nk P' w' es =>
    rw [hm] at h3
    obtain ⟨⟨rfl, rfl⟩, ks, z, ⟨e1, rfl⟩, ⟨hn, hz⟩, h5⟩ := h3
    have h8 := ok2.ents e (mget_mem q1).1
    rw [hm] at h8
    obtain ⟨xs, u2, u3, u4⟩ := h8
    obtain ⟨t, rfl, kt⟩ := keyN_r r2 e1
    cases r
    have hk : ∀ Hv, Ex (vis F s2 H2) Hv → NkR K Hv (xs ++ [(ks, t, V.int z)]) (es ++ [(ks, z)]) := fun Hv ex => by
      refine ⟨pr_snoc u3.pair ⟨rfl, rfl⟩, fun x hx => ?_, ?_, by rw [List.length_append]; exact hz⟩
      · rcases List.mem_append.mp hx with hx | hx
        · exact (u3.keys x hx).mono ex
        · rcases List.mem_cons.mp hx with rfl | hx
          · exact kt.mono ex
          · exact nomatch hx
      · rw [List.map_append, List.nodup_append]
        refine ⟨u3.nd, List.nodup_cons.mpr ⟨(fun z => nomatch z), List.nodup_nil⟩, fun x hx y hy => ?_⟩
        rcases List.mem_cons.mp hy with rfl | hy
        · exact fun z => hn (by rw [← z]; exact hx)
        · exact nomatch hy
    obtain ⟨ok4, t4⟩ := ok2.put (o := Nk.nkO P' w' e.a (xs ++ [(ks, t, .int z)])) (m := .nk P' w' (es ++ [(ks, z)])) q1 q2 (fun Hv ex => ⟨_, upd_same, hk Hv ex, u4⟩)
    have tt := (t1.trans t2).trans t4
    exact ⟨t, e.a, xs, es, ks, z, rfl, rfl, rfl, u2, u3.mono vis_ex, u4, kt.mono vis_ex, hn, hz, k _ _ _ _ tt (a.to tt ok4) h5⟩
  | lst _ => rw [hm] at h3; exact h3.elim
  | dct _ => rw [hm] at h3; exact h3.elim
  | obj _ _ => rw [hm] at h3; exact h3.elim⟩
end
end Da

/-! Readings over data: one's own instance lent to its own method (own). -/
namespace Da
open PySem PySem.Spec PyProof.Rows L2 Evl Hd
/-- data without instances -/
inductive Pu : D → Prop
  | non : Pu .non
  | bl {b : Bool} : Pu (.bl b)
  | int {i : Int} : Pu (.int i)
  | str {x : Str} : Pu (.str x)
  | tup {ds : List D} : (∀ d ∈ ds, Pu d) → Pu (.tup ds)
  | lst {ds : List D} : (∀ d ∈ ds, Pu d) → Pu (.lst ds)
section
variable {K : PySem.W.Frag} {F : Fr} {s s' : S} {H H' Hv Hv' : Hp}
/-- what is hidden besides is an instance -/
structure Less (Hv Hv' : Hp) (p : Addr) : Prop where
  ne : ∀ a, a ≠ p → ∀ o, Hv a = some o → Hv' a = some o
  at_ : ∃ C dx fs, ∀ o, Hv p = some o → o = .ins C dx fs
theorem Less.lst {p a : Addr} {xs : List V} (l : Less Hv Hv' p) (h : Hv a = some (.lst xs)) : Hv' a = some (.lst xs) := by
  refine l.ne a (fun e => ?_) _ h
  obtain ⟨C, dx, fs, q⟩ := l.at_
  subst e
  cases q _ h
theorem Less.sqt {p a : Addr} {xs : List V} (l : Less Hv Hv' p) (h : SqT K Hv a xs) : SqT K Hv' a xs := by
  obtain ⟨C, dx, fs, q⟩ := l.at_
  rcases h with (h | ⟨o, h⟩) | h
  · exact .inl (.inl (l.ne a (fun e => by subst e; cases q _ h) _ h))
  · exact .inl (.inr ⟨o, l.ne a (fun e => by subst e; cases q _ h) _ h⟩)
  · exact .inr h
theorem repL_map : ∀ {vs : List V} {ds : List D}, RepL K Hv vs ds → (∀ d ∈ ds, ∀ v, Rep K Hv v d → Rep K Hv' v d) → RepL K Hv' vs ds
  | _, _, .nil, _ => .nil
  | _, _, .cons h r, q => .cons (q _ List.mem_cons_self _ h) (repL_map r fun d hd => q d (List.mem_cons_of_mem _ hd))
theorem Rep.pu {p : Addr} (l : Less Hv Hv' p) {d : D} (q : Pu d) : ∀ v, Rep K Hv v d → Rep K Hv' v d := by
  induction q with
  | non => intro v h; cases h; exact .non
  | bl => intro v h; cases h; exact .bl
  | int => intro v h; cases h; exact .int
  | str => intro v h; cases h; exact .str
  | tup q ih =>
    intro v h
    cases h with
    | tup h r n => exact .tup (l.sqt h) (repL_map r ih) n
  | lst q ih =>
    intro v h
    cases h with
    | lst h r n => exact .lst (l.lst h) (repL_map r ih) n
theorem lend (ok : OkS K F s H) {k : Nat} {e : Ent} (hg : mget s.M k = some e) (hf : e.fz = false) {C : Addr} {fs : List (Str × D)} (ho : e.o = .obj C fs) {n' : Nat} (t : Tr (hidF F (s.frz k)) (st0 s.n s.pn) H (st0 n' s.pn) H') (ok' : OkS K (hidF F (s.frz k)) (st0 n' s.pn) H') :
    OkS K F (s.at n') H' ∧ Tr F s H (s.at n') H' ∧ Less (vis (hidF F (s.frz k)) (st0 n' s.pn) H') (vis F (s.at n') H') e.a := by
  obtain ⟨ok2, t2⟩ := ok.frz k
  obtain ⟨hm, _⟩ := mget_mem hg
  obtain ⟨o1, o2, o3⟩ := call_out ok2 t ok'
  have ex : Ex (vis F s H) (vis F (s.at n') H') := fun a o h => by
    obtain ⟨h1, h2⟩ := vis_iff.mp h
    have h3 := (t2.trans o2).ex _ _ h
    exact vis_iff.mpr ⟨h1, (vis_iff.mp h3).2⟩
  have hx := ok.ents e hm
  rw [ho] at hx
  obtain ⟨dx, us, u1, u2⟩ := hx
  have hv := ok.frz_vis hg u1
  have hea : H' e.a = some (.ins C dx us) := (vis_iff.mp (o2.ex _ _ hv)).2
  have same : ∀ e' ∈ s.M, H' e'.a = H e'.a := fun e' he' => by
    by_cases hh : e'.a = e.a
    · rw [hh, hea, u1]
    cases hf' : e'.fz with
    | false =>
      refine t.fr e'.a ?_
      unfold hidF
      have : (s.frz k).hidM e'.a = true := by
        unfold S.hidM
        refine List.any_eq_true.mpr ⟨e', ?_, by rw [hf']; simp⟩
        have gen : ∀ {M : List Ent} {h : Nat} {x : Ent}, mget M h = some x → ∀ y ∈ M, y.a ≠ x.a → y ∈ mfrz M h := by
          intro M
          induction M with
          | nil => intro h x q; cases q
          | cons z r ih =>
            intro h x q y hy hne
            unfold mget at q
            unfold mfrz
            cases hb : Nat.beq z.h h with
            | true =>
              rw [hb] at q
              cases q
              rcases List.mem_cons.mp hy with rfl | hy
              · exact absurd rfl hne
              · exact List.mem_cons_of_mem _ hy
            | false =>
              rw [hb] at q
              rcases List.mem_cons.mp hy with rfl | hy
              · exact List.mem_cons_self
              · exact List.mem_cons_of_mem _ (ih q y hy hne)
        exact gen hg e' he' hh
      rw [this, Bool.or_true]
    | true =>
      have h1 := ent_seen ok he' hf'
      cases hh : H e'.a with
      | none => exact absurd hh (ok.ents e' he').some
      | some o => exact (vis_iff.mp (ex _ _ (vis_iff.mpr ⟨h1, hh⟩))).2
  refine ⟨⟨fun e' he' => (ok.ents e' he').mono ex (same e' he'), ok.nd, fun p q e => ⟨(ok'.pen p q e).1, (ok.pen p q e).2⟩, fun a ha => o1.fr a ha, ok.frM, ok.frP⟩, ⟨ex, o2.fr, rfl⟩, ?_⟩
  rw [show vis (hidF F (s.frz k)) (st0 n' s.pn) H' = vis F ((s.frz k).at n') H' from o3]
  refine ⟨fun a ha o h => ?_, C, dx, us, fun o h => by rw [(vis_iff.mp h).2] at hea; exact Option.some.inj hea⟩
  obtain ⟨h1, h2⟩ := vis_iff.mp h
  refine vis_iff.mpr ⟨?_, h2⟩
  have h1 : (s.frz k).hid F a = false := h1
  show s.hid F a = false
  unfold S.hid at h1 ⊢
  simp only [Bool.or_eq_false_iff] at h1 ⊢
  refine ⟨⟨h1.1.1, ?_⟩, h1.2⟩
  have h4 := h1.1.2
  unfold S.hidM at h4 ⊢
  rw [List.any_eq_false] at h4 ⊢
  intro y hy hyx
  rw [Bool.and_eq_true, Bool.not_eq_true', beq_iff_eq] at hyx
  refine h4 y ?_ (by rw [hyx.1, hyx.2]; simp)
  have gen : ∀ {M : List Ent} {h : Nat} {x : Ent}, mget M h = some x → ∀ y ∈ M, y.a ≠ x.a → y ∈ mfrz M h := by
    intro M
    induction M with
    | nil => intro h x q; cases q
    | cons z r ih =>
      intro h x q y hy hne
      unfold mget at q
      unfold mfrz
      cases hb : Nat.beq z.h h with
      | true =>
        rw [hb] at q
        cases q
        rcases List.mem_cons.mp hy with rfl | hy
        · exact absurd rfl hne
        · exact List.mem_cons_of_mem _ hy
      | false =>
        rw [hb] at q
        rcases List.mem_cons.mp hy with rfl | hy
        · exact List.mem_cons_self
        · exact List.mem_cons_of_mem _ (ih q y hy hne)
  exact gen hg y hy (by rw [hyx.2]; exact ha)
/-- a method called on an instance that is one's own still -/
def tMethL (C : Addr) (m : Str) (sp : Sp) (dvs : List V) (E : XK) (te : TE) (ta : TA) : TE := tMeth C m sp dvs E te ta
theorem pe_lend {X : Cx} {e : Expr} {C : Addr} {m : Str} {sp : Sp} {dvs : List V} {E : XK} {te : TE} {ta : TA} (p : PE X e (tMeth C m sp dvs E te ta)) : PE X e (tMethL C m sp dvs E te ta) := p
def wMethL (C : Addr) (m : Str) (dsp : DSp) (dds : List D) (w : WE) (wa : WA) : WE := fun Γ s Q => w Γ s fun x s1 => mutP s1 x fun _ m1 => moO m1 fun C1 fs1 => (C1 = C ∧ lookF fs1 m = none) ∧ wa Γ s1 fun ds s2 => escA s2 ds fun ds' s3 => mutP s3 x fun _ m2 => moO m2 fun C2 fs => C2 = C ∧
  dsp s3.pn (.obj C fs :: (ds' ++ dds)) s3.n (fun d n' => Pu d ∧ Q d (s3.at n')) XF
instance {C : Addr} {m : Str} {dsp : DSp} {dvs : List V} {dds : List D} {E : XK} {te : TE} {w : WE} {ta : TA} {wa : WA} [df : Dflt K dvs dds] [le : LE K te w] [l : LA K ta wa] : LE K (tMethL C m (upSp K dsp) dvs E te ta) (wMethL C m dsp dds w wa) := ⟨fun {F s H σ Γ Q Q0} a h k => le.go a h fun v H1 d s1 t1 ok1 r1 h1 => by
  obtain ⟨n, e, q1, q2, rfl, h2, rfl⟩ := mutP_of r1 h1
  cases hm : e.o with
  | obj C1 fs1 =>
    rw [hm] at h2
    obtain ⟨⟨rfl, hl⟩, h3⟩ := h2
    have h0 := ok1.ents e (mget_mem q1).1
    rw [hm] at h0
    obtain ⟨dx, us, u1, u2⟩ := h0
    refine ⟨e.a, dx, us, rfl, u1, u2.look_none (lookF_eq.trans hl), l.go (a.to t1 ok1) h3 fun vs H3 ds s3 t3 ok3 r3 h5 => ?_⟩
    obtain ⟨ds', s4, h6, ok4, t4, r4⟩ := escs ok3 r3 h5
    obtain ⟨n', e', q3, q4, hv, h7, hd⟩ := mutP_of (K := K) (F := F) (H := H3) (v := .ref e.a) (d := .loc e.a n) .loc h6
    injection hd with ea en
    subst en
    cases hm2 : e'.o with
    | obj C2 fs =>
      rw [hm2] at h7
      obtain ⟨rfl, h8⟩ := h7
      obtain ⟨okf, tf⟩ := ok4.frz n
      have h9 := ok4.ents e' (mget_mem q3).1
      rw [hm2] at h9
      obtain ⟨dx2, us2, u3, u4⟩ := h9
      have hvv := ok4.frz_vis q3 u3
      refine ⟨hidF F (s4.frz n), .obj C2 fs :: (ds' ++ dds), s4.pn, s4.n, _, _, ?_, ok_call okf, h8, fun v H' d n2 t ok' r' q => ?_, fun _ _ _ _ _ _ _ _ q => q.elim⟩
      · rw [show vis (hidF F (s4.frz n)) (st0 s4.n s4.pn) H3 = vis F (s4.frz n) H3 from vis_call (s := s4.frz n), ea]
        exact .cons (.obj hvv (u4.mono tf.ex)) ((r4.app (df.rep _)).mono tf.ex)
      · obtain ⟨o1, o2, o3⟩ := lend ok4 q3 q4 hm2 t ok'
        exact k v H' d _ (((t1.trans t3).trans t4).trans o2) o1 (Rep.pu o3 q.1 _ r') q.2
    | lst _ => rw [hm2] at h7; exact h7.elim
    | dct _ => rw [hm2] at h7; exact h7.elim
    | nk _ _ _ => rw [hm2] at h7; exact h7.elim
  | lst _ => rw [hm] at h2; exact h2.elim
  | dct _ => rw [hm] at h2; exact h2.elim
  | nk _ _ _ => rw [hm] at h2; exact h2.elim⟩
end
/-- a def with defaults that raises nothing -/
theorem funD_ok {P : Program} {w : World} {K : PySem.W.Frag} {mg : Str → Option Value} {base : Heap} {x qual : Str} {st : Stmt} {dvs : List V} {kws : List (Str × V)} {f : Addr} {fd : FuncData} {N ps : List Str} {k : Nat} {sp : Sp} (F : FunD K x qual (defArgs st) (defBody st) (defScope st) dvs kws f fd) (S : FnScope N ps (defScope st)) (len : ∀ vs H Q E, sp vs H Q E → vs.length = ps.length)
    (hbody : ∀ (cdv : Value) (A : Around) (outer : List Env) (s : Shared) (H : Hp) (vs : List V) (Q : VK) (E : XK), Room k (A.deeper (PyProof.Rows.envOfC qual (defScope st) s.heap.objs.size f cdv)) → sp vs H Q E →
      ∃ t, PSs (cxOf CX0 P w K mg base N qual (defScope st) f cdv A outer s H E).nox (defBody st) t ∧ t { nx := fun _ H' => Q .non H', rt := Q } (start N vs) H) : FnOk P w K mg base CX0 (k + 1) f fd ps sp :=
  F.ok S len fun cdv A outer s H vs Q E hr hsp => by
    obtain ⟨t, h, q⟩ := hbody cdv A outer s H vs Q E hr hsp
    exact ⟨t, h.nox, q⟩
end Da

namespace Lw
open PySem L2
open Evl Da
local macro_rules
  | `(tactic| walk_at "f") => `(tactic| first | exact lookF_put | exact lookF_hit | exact (lookF_skip (by decide +kernel) lookF_hit) | exact (lookF_skip (by decide +kernel) (lookF_skip (by decide +kernel) lookF_hit)) | exact (lookF_skip (by decide +kernel) (lookF_skip (by decide +kernel) (lookF_skip (by decide +kernel) lookF_hit))) | exact (lookF_skip (by decide +kernel) (lookF_skip (by decide +kernel) (lookF_skip (by decide +kernel) (lookF_skip (by decide +kernel) lookF_hit)))) | exact (lookF_skip (by decide +kernel) (lookF_skip (by decide +kernel) (lookF_skip (by decide +kernel) (lookF_skip (by decide +kernel) (lookF_skip (by decide +kernel) lookF_hit))))) | exact (lookF_skip (by decide +kernel) (lookF_skip (by decide +kernel) (lookF_skip (by decide +kernel) (lookF_skip (by decide +kernel) (lookF_skip (by decide +kernel) (lookF_skip (by decide +kernel) lookF_hit)))))) | ((refine lookF_other (by decide +kernel) ?_); walk_at "f") | ((refine lookF_skip (by decide +kernel) ?_); walk_at "f"))
  | `(tactic| walk_at "fl") => `(tactic| first | exact Nat.zero_lt_succ _ | ((refine putFD_lt ?_); walk_at "fl"))
  | `(tactic| walk_at "a") => `(tactic| first | exact le1000 (Nat.le_of_ble_eq_true rfl) | exact rfl | decide +kernel | exact And.intro (by with_reducible assumption) (by with_reducible assumption) | exact And.intro (And.intro (by with_reducible assumption) (by with_reducible assumption)) (by walk_at "fl"))
  | `(tactic| walk_at "w") => `(tactic| ((conv => whnf); repeat ((first | ((with_reducible refine And.intro ?_ ?_); (focus (walk_at "a"))) | ((with_reducible refine Br.yes ?_ ?_); (focus (first | exact rfl | decide +kernel))) | ((with_reducible refine Br.no ?_ ?_); (focus (first | exact rfl | decide +kernel))) | ((with_reducible refine ex_fld ?_); (refine fld_w (by walk_at "f") ?_)) | ((with_reducible refine ex_at ?_); (refine at_w rfl ?_))); (conv => whnf))))
  | `(tactic| walk_at "n") => `(tactic| ((try dsimp only [st0, st1, S.at, S.drop, S.own, S.put, S.frz, Src.n] at *); omega))
  | `(tactic| walk_at "draw") => `(tactic| ((try walk_at "w"); (refine i_draw ⟨by walk_at "n", by walk_at "n", by walk_at "n"⟩ ?_)))
section
variable {P : Program} {w : World} {K : PySem.W.Frag} {mg : Str → Option Value} {base : Heap}
open Jn (Rn jstep joinR expand)
theorem i_joined {pn : Option (Addr × Addr)} {n : Nat} {Q : D → Nat → Prop} {X : XD} {ps : List Rn} {a : D} (e : a = .lst (ps.map runD)) (h1 : (joinR ps).length ≤ 1000) (h2 : ps.length ≤ 100000) (k : Q (.tup ((joinR ps).map runD)) n) : dJoined pn a n Q X := by
  unfold dJoined
  exact ⟨ps, .inl e, h1, h2, k⟩
theorem i_joinedT {pn : Option (Addr × Addr)} {n : Nat} {Q : D → Nat → Prop} {X : XD} {ps : List Rn} {a : D} (e : a = .lst (ps.map runD) ∨ a = .tup (ps.map runD)) (h1 : (joinR ps).length ≤ 1000) (h2 : ps.length ≤ 100000) (k : Q (.tup ((joinR ps).map runD)) n) : dJoined pn a n Q X := by
  unfold dJoined
  exact ⟨ps, e, h1, h2, k⟩
/-- the runs of a row of cells -/
def rowR (cs : List Int) : List Rn := joinR (cs.map fun c => ((1 : Int), c))
theorem rowR_len (cs : List Int) : (rowR cs).length ≤ cs.length := by
  have := Jn.join_len (cs.map fun c => ((1 : Int), c))
  rw [List.length_map] at this
  exact this
def rowG (C : Addr) (rs : List Rn) : D := .obj C [("runs", .tup (rs.map runD))]
abbrev rowD (C : Addr) (cs : List Int) : D := rowG C (rowR cs)
def intsD (cs : List Int) : List D := cs.map D.int
theorem intsD_len (cs : List Int) : (intsD cs).length = cs.length := List.length_map _
theorem ints_at {cs : List Int} {i : Nat} {d : D} (h : (intsD cs)[i]? = some d) : ∃ c, cs[i]? = some c ∧ d = .int c := by
  unfold intsD at h
  rw [List.getElem?_map] at h
  obtain ⟨c, hc, e⟩ := Option.map_eq_some_iff.mp h
  exact ⟨c, hc, e.symm⟩
theorem ints_len {cs : List Int} : (Src.seq (intsD cs)).n = cs.length := List.length_map _
@[irreducible] def dRowI : I1 := fun _ a n Q _ => ∃ cs : List Int, (a = .lst (intsD cs) ∨ a = .tup (intsD cs)) ∧ (∀ c ∈ cs, 0 ≤ c) ∧ cs.length ≤ 1000 ∧ Q [("runs", .tup ((rowR cs).map runD))] n
theorem ok_Row___init (T : Tx w K mg) : FnOk P w K mg base CX0 2 T.f_Row___init T.d_Row___init ["self", "cells"] (Da.upIn K T.c_Row (di1 dRowI)) := by
  refine Da.funD_ok T.F_Row___init sc_Row___init (fun vs H Q E h => Da.in_len1 h) (fun cdv A outer s H vs Q E hr h => ?_)
  refine ⟨_, (pss_cons (ps_for PassesOwn.never rfl (Da.seqK (K := K) rfl (pv 1)) (pg_name (i := 2) sc_Row___init.nd rfl (Or.inl rfl))
        (pss_one (ps_if (pt_cmpR op_lt (pv 2) pe_int (nomark _))
          (pss_one ps_never)
          pss_nil)))
      (pss_one (Da.setfK (K := K) rfl (pv 0) (pe_call (ok_joined T) (hr.mono (by decide)) rfl T.m_joined T.F_joined.kp T.b_joined .nil pass0 (pa_cons (pe_lc rfl sc_Row___init.nd (Da.seqK (K := K) rfl (pv 1)) (blkOk_by (own := [("cell", 2)]) (N := ["self", "cells", "cell"]) (sc := defScope s_Row___init) (by decide +kernel)) (fun _ _ _ _ _ => (pg_name (i := 2) sc_Row___init.nd rfl (Or.inl rfl))) (fun _ _ _ _ _ => pts_nil) (fun _ _ _ _ _ => (pe_tup (pa_cons pe_int (pa_cons (pv 2) pa_nil))))) pa_nil)) rfl))), Da.go_in1 h ?_⟩
  intro x pn a n Q _ h
  unfold dRowI at h
  obtain ⟨cs, ha, hc, hl, h⟩ := h
  have c1 := T.cl_Row
  have c2 := T.n_Row_runs
  have ep : ∀ i, ((cs.take i).map fun c => ((1 : Int), c)).map runD = (cs.take i).map fun c => D.tup [.int 1, .int c] := fun i => by
    rw [List.map_map]
    rfl
  rcases ha with rfl | rfl
  · walk_at "w"
    refine for_inv (fun i Γ s => ∃ u2 : Option D, Γ = [some (.loc x 0), some (.lst (intsD cs)), u2] ∧ s = st1 x T.c_Row [] n pn) ⟨_, rfl, rfl⟩ ?_ ?_
    · rintro i d _ _ hi hd ⟨u2, rfl, rfl⟩
      obtain ⟨c, hc1, rfl⟩ := ints_at (seq_at hd)
      have := hc c (List.mem_of_getElem? hc1)
      walk_at "w"
      refine .n (by omega) ?_
      walk_at "w"
      exact ⟨_, rfl, rfl⟩
    · rintro _ _ ⟨u2, rfl, rfl⟩
      walk_at "w"
      refine lc_inv (fun i acc s => acc = ((cs.take i).map fun c => D.tup [.int 1, .int c]) ∧ s = st1 x T.c_Row [] n pn) (le1000 (by rw [ints_len]; exact hl)) ⟨rfl, rfl⟩ ?_ ?_
      · rintro i d _ _ hi hd _ ⟨rfl, rfl⟩
        obtain ⟨c, hc1, rfl⟩ := ints_at (seq_at hd)
        walk_at "w"
        refine ⟨?_, rfl⟩
        rw [take_more hc1, List.map_append]
        rfl
      · rintro _ _ _ ⟨rfl, rfl⟩
        rw [ints_len, List.take_length]
        walk_at "w"
        refine i_joined (ps := cs.map fun c => ((1 : Int), c)) (by have := ep cs.length; rw [List.take_length] at this; rw [this]) (Nat.le_trans (rowR_len cs) hl) (by rw [List.length_map]; omega) ?_
        walk_at "w"
        exact h
  · walk_at "w"
    refine for_inv (fun i Γ s => ∃ u2 : Option D, Γ = [some (.loc x 0), some (.tup (intsD cs)), u2] ∧ s = st1 x T.c_Row [] n pn) ⟨_, rfl, rfl⟩ ?_ ?_
    · rintro i d _ _ hi hd ⟨u2, rfl, rfl⟩
      obtain ⟨c, hc1, rfl⟩ := ints_at (seq_at hd)
      have := hc c (List.mem_of_getElem? hc1)
      walk_at "w"
      refine .n (by omega) ?_
      walk_at "w"
      exact ⟨_, rfl, rfl⟩
    · rintro _ _ ⟨u2, rfl, rfl⟩
      walk_at "w"
      refine lc_inv (fun i acc s => acc = ((cs.take i).map fun c => D.tup [.int 1, .int c]) ∧ s = st1 x T.c_Row [] n pn) (le1000 (by rw [ints_len]; exact hl)) ⟨rfl, rfl⟩ ?_ ?_
      · rintro i d _ _ hi hd _ ⟨rfl, rfl⟩
        obtain ⟨c, hc1, rfl⟩ := ints_at (seq_at hd)
        walk_at "w"
        refine ⟨?_, rfl⟩
        rw [take_more hc1, List.map_append]
        rfl
      · rintro _ _ _ ⟨rfl, rfl⟩
        rw [ints_len, List.take_length]
        walk_at "w"
        refine i_joined (ps := cs.map fun c => ((1 : Int), c)) (by have := ep cs.length; rw [List.take_length] at this; rw [this]) (Nat.le_trans (rowR_len cs) hl) (by rw [List.length_map]; omega) ?_
        walk_at "w"
        exact h
theorem i_rowI {pn : Option (Addr × Addr)} {n : Nat} {Q : QF} {X : XD} {a : D} {cs : List Int} (e : a = .lst (intsD cs) ∨ a = .tup (intsD cs)) (h1 : ∀ c ∈ cs, 0 ≤ c) (h2 : cs.length ≤ 1000) (k : Q [("runs", .tup ((rowR cs).map runD))] n) : dRowI pn a n Q X := by
  unfold dRowI
  exact ⟨cs, e, h1, h2, k⟩
/-- a row as it may be handed in: its runs -/
inductive RowArg (C : Addr) : D → List Rn → Prop
  | lst {cs : List Int} : (∀ c ∈ cs, 0 ≤ c) → cs.length ≤ 1000 → RowArg C (.lst (intsD cs)) (rowR cs)
  | tup {cs : List Int} : (∀ c ∈ cs, 0 ≤ c) → cs.length ≤ 1000 → RowArg C (.tup (intsD cs)) (rowR cs)
  | row {rs : List Rn} : RowArg C (rowG C rs) rs
theorem RowArg.of {C : Addr} {a : D} {cs : List Int} (e : a = .lst (intsD cs) ∨ a = .tup (intsD cs) ∨ a = rowD C cs) (h1 : ∀ c ∈ cs, 0 ≤ c) (h2 : cs.length ≤ 1000) : RowArg C a (rowR cs) := by
  rcases e with rfl | rfl | rfl
  · exact .lst h1 h2
  · exact .tup h1 h2
  · exact .row
@[irreducible] def dRowOf (C : Addr) : R1 := fun _ a n Q _ => ∃ rs : List Rn, RowArg C a rs ∧ Q (rowG C rs) n
theorem ok_row_of (T : Tx w K mg) : FnOk P w K mg base CX0 4 T.f_row_of T.d_row_of ["row"] (Da.upSp K (sp1 (dRowOf T.c_Row))) := by
  refine T.F_row_of.ok sc_row_of (fun vs H Q E h => Da.up_len1 h) (fun cdv A outer s H vs Q E hr h => ?_)
  refine ⟨_, (pss_one (ps_ret (pe_ifExp (pt_val (pe_callB (Da.isiK (K := K) rfl) (by rfl) T.z_isinstance (by decide +kernel) (pa_cons (pv 0) (pa_cons (pe_glob (v := .ref T.c_Row) rfl T.m_Row rfl) pa_nil)))) (pv 0) (pe_make T.mk_Row (ok_Row___init T) (hr.mono (by decide)) rfl T.m_Row T.b_Row___init .nil pass0 (pa_cons (pv 0) pa_nil))))), Da.go_up1 h ?_⟩
  intro pn a n Q _ h
  unfold dRowOf at h
  obtain ⟨rs, ha, h⟩ := h
  cases ha with
  | lst hc hl =>
    walk_at "w"
    refine ⟨false, T.kit_list_Row, ?_⟩
    walk_at "w"
    refine i_rowI (.inl rfl) hc hl ?_
    walk_at "w"
    exact h
  | tup hc hl =>
    walk_at "w"
    refine ⟨false, T.kit_tuple_Row, ?_⟩
    walk_at "w"
    refine i_rowI (.inr rfl) hc hl ?_
    walk_at "w"
    exact h
  | row =>
    unfold rowG at h ⊢
    walk_at "w"
    refine ⟨T.ob_Row, true, T.kit_Row_Row, ?_⟩
    walk_at "w"
    exact h
theorem i_row_of {pn : Option (Addr × Addr)} {n : Nat} {Q : D → Nat → Prop} {X : XD} {a : D} {C : Addr} {rs : List Rn} (e : RowArg C a rs) (k : Q (rowG C rs) n) : dRowOf C pn a n Q X := by
  unfold dRowOf
  exact ⟨rs, e, k⟩
end
end Lw

namespace Lw
open PySem L2
open Evl Da
local macro_rules
  | `(tactic| walk_at "f") => `(tactic| first | exact lookF_put | exact lookF_hit | exact (lookF_skip (by decide +kernel) lookF_hit) | exact (lookF_skip (by decide +kernel) (lookF_skip (by decide +kernel) lookF_hit)) | exact (lookF_skip (by decide +kernel) (lookF_skip (by decide +kernel) (lookF_skip (by decide +kernel) lookF_hit))) | exact (lookF_skip (by decide +kernel) (lookF_skip (by decide +kernel) (lookF_skip (by decide +kernel) (lookF_skip (by decide +kernel) lookF_hit)))) | exact (lookF_skip (by decide +kernel) (lookF_skip (by decide +kernel) (lookF_skip (by decide +kernel) (lookF_skip (by decide +kernel) (lookF_skip (by decide +kernel) lookF_hit))))) | exact (lookF_skip (by decide +kernel) (lookF_skip (by decide +kernel) (lookF_skip (by decide +kernel) (lookF_skip (by decide +kernel) (lookF_skip (by decide +kernel) (lookF_skip (by decide +kernel) lookF_hit)))))) | ((refine lookF_other (by decide +kernel) ?_); walk_at "f") | ((refine lookF_skip (by decide +kernel) ?_); walk_at "f"))
  | `(tactic| walk_at "fl") => `(tactic| first | exact Nat.zero_lt_succ _ | ((refine putFD_lt ?_); walk_at "fl"))
  | `(tactic| walk_at "a") => `(tactic| first | exact le1000 (Nat.le_of_ble_eq_true rfl) | exact rfl | decide +kernel | exact And.intro (by with_reducible assumption) (by with_reducible assumption) | exact And.intro (And.intro (by with_reducible assumption) (by with_reducible assumption)) (by walk_at "fl"))
  | `(tactic| walk_at "w") => `(tactic| ((conv => whnf); repeat ((first | ((with_reducible refine And.intro ?_ ?_); (focus (walk_at "a"))) | ((with_reducible refine Br.yes ?_ ?_); (focus (first | exact rfl | decide +kernel))) | ((with_reducible refine Br.no ?_ ?_); (focus (first | exact rfl | decide +kernel))) | ((with_reducible refine ex_fld ?_); (refine fld_w (by walk_at "f") ?_)) | ((with_reducible refine ex_at ?_); (refine at_w rfl ?_))); (conv => whnf))))
  | `(tactic| walk_at "n") => `(tactic| ((try dsimp only [st0, st1, S.at, S.drop, S.own, S.put, S.frz, Src.n] at *); omega))
  | `(tactic| walk_at "draw") => `(tactic| ((try walk_at "w"); (refine i_draw ⟨by walk_at "n", by walk_at "n", by walk_at "n"⟩ ?_)))
section
variable {P : Program} {w : World} {K : PySem.W.Frag} {mg : Str → Option Value} {base : Heap}
open Jn (Rn jstep joinR expand)
theorem rowR_ok (cs : List Int) : (∀ r ∈ rowR cs, 1 ≤ r.1) ∧ expand (rowR cs) = cs := by
  have h := Jn.join_ok (ps := cs.map fun c => ((1 : Int), c)) (fun p hp => by
    obtain ⟨c, _, rfl⟩ := List.mem_map.mp hp
    show (0 : Int) ≤ 1
    decide)
  exact ⟨h.1, h.2.trans (Jn.expand_ones cs)⟩
theorem runs_at {rs : List Rn} {i : Nat} {d : D} (h : (rs.map runD)[i]? = some d) : ∃ r, rs[i]? = some r ∧ d = .tup [.int r.1, .int r.2] := by
  rw [List.getElem?_map] at h
  obtain ⟨r, hr, e⟩ := Option.map_eq_some_iff.mp h
  exact ⟨r, hr, e.symm⟩
theorem runs_n {rs : List Rn} : (Src.seq (rs.map runD)).n = rs.length := List.length_map _
/-- runs as a row holds them -/
structure RunsOk (rs : List Rn) : Prop where
  pos : ∀ r ∈ rs, 1 ≤ r.1
  few : rs.length ≤ 1000
theorem rowR_runs {cs : List Int} (h : cs.length ≤ 1000) : RunsOk (rowR cs) := ⟨(rowR_ok cs).1, Nat.le_trans (rowR_len cs) h⟩
theorem RowArg.cells {C : Addr} {a : D} {rs : List Rn} (h : RowArg C a rs) (ho : RunsOk rs) : RunsOk rs := ho
@[irreducible] def dSize (C : Addr) : R1 := fun _ a n Q _ => ∃ rs : List Rn, a = rowG C rs ∧ RunsOk rs ∧ Q (.int (expand rs).length) n
theorem ok_Row_size (T : Tx w K mg) : FnOk P w K mg base CX0 1 T.f_Row_size T.d_Row_size ["self"] (Da.upSp K (sp1 (dSize T.c_Row))) := by
  refine T.F_Row_size.ok sc_Row_size (fun vs H Q E h => Da.up_len1 h) (fun cdv A outer s H vs Q E hr h => ?_)
  refine ⟨_, (pss_one (ps_ret (pe_callB (Da.sumK (K := K) rfl rfl) (by rfl) T.z_sum (by decide +kernel) (pa_cons (pe_lc (g := gTup K 2 (gCons (gName 1) (gCons (gName 2) gNil))) rfl sc_Row_size.nd (Da.seqK (K := K) rfl (Da.fldK (K := K) rfl (pv 0) rfl)) (blkOk_by (own := [("count", 1), ("_", 2)]) (N := ["self", "count", "_"]) (sc := defScope s_Row_size) (by decide +kernel)) (fun _ _ _ _ _ => (Da.gtupK (n := 2) (K := K) rfl (by rfl) (pgs_cons (pg_name (i := 1) sc_Row_size.nd rfl (Or.inl rfl)) (pgs_cons (pg_name (i := 2) sc_Row_size.nd rfl (Or.inl rfl)) pgs_nil)))) (fun _ _ _ _ _ => pts_nil) (fun _ _ _ _ _ => (pv 1))) pa_nil)))), Da.go_up1 h ?_⟩
  intro pn a n Q _ h
  unfold dSize at h
  obtain ⟨rs, rfl, ho, h⟩ := h
  unfold rowG
  have c1 := T.cl_Row
  have c2 := T.n_Row_runs
  have hr := ho.few
  walk_at "w"
  refine lc_inv (fun i acc s => acc = (rs.take i).map (fun r => D.int r.1) ∧ s = st0 n pn) (le1000 (by rw [runs_n]; omega)) ⟨rfl, rfl⟩ ?_ ?_
  · rintro i d _ _ hi hd _ ⟨rfl, rfl⟩
    obtain ⟨r, hr1, rfl⟩ := runs_at (seq_at hd)
    walk_at "w"
    refine ⟨?_, rfl⟩
    rw [take_more hr1, List.map_append]
    rfl
  · rintro _ _ _ ⟨rfl, rfl⟩
    rw [runs_n, List.take_length]
    walk_at "w"
    refine ⟨rs.map (·.1), by rw [List.map_map]; rfl, ?_⟩
    have e := Jn.size_of ho.pos
    walk_at "w"
    rw [e]
    exact h
theorem i_size {pn : Option (Addr × Addr)} {n : Nat} {Q : D → Nat → Prop} {X : XD} {C : Addr} {rs : List Rn} (h2 : RunsOk rs) (k : Q (.int (expand rs).length) n) : dSize C pn (rowG C rs) n Q X := by
  unfold dSize
  exact ⟨rs, rfl, h2, k⟩
@[irreducible] def dShort (C : Addr) : R1 := fun _ a n Q _ => ∃ rs : List Rn, RowArg C a rs ∧ RunsOk rs ∧ (expand rs).length ≤ 1000 ∧ Q (rowG C rs) n
theorem ok_short_row_of (T : Tx w K mg) : FnOk P w K mg base CX0 5 T.f_short_row_of T.d_short_row_of ["row"] (Da.upSp K (sp1 (dShort T.c_Row))) := by
  refine T.F_short_row_of.ok sc_short_row_of (fun vs H Q E h => Da.up_len1 h) (fun cdv A outer s H vs Q E hr h => ?_)
  refine ⟨_, (pss_cons (ps_set (i := 1) sc_short_row_of.nd rfl (Or.inl rfl) (pe_call (ok_row_of T) (hr.mono (by decide)) rfl T.m_row_of T.F_row_of.kp T.b_row_of .nil pass0 (pa_cons (pv 0) pa_nil)))
      (pss_cons (ps_if (pt_cmpR op_gt (pe_prop (pv 1) T.cl_Row T.h_Row_size (ok_Row_size T) (hr.mono (by decide)) T.b_Row_size .nil pass0 rfl) (pe_glob (v := .int 1000) rfl T.m_MOST_CELLS ⟨_, rfl⟩) (nomark _))
        (pss_one ps_never)
        pss_nil)
      (pss_one (ps_ret (pv 1))))), Da.go_up1 h ?_⟩
  intro pn a n Q _ h
  unfold dShort at h
  obtain ⟨rs, ha, ho, hl, h⟩ := h
  cases ha with
  | lst h1 h2 =>
    walk_at "w"
    refine i_row_of (.lst h1 h2) ?_
    unfold rowG
    walk_at "w"
    refine i_size ho ?_
    walk_at "w"
    refine .n (by omega) ?_
    walk_at "w"
    exact h
  | tup h1 h2 =>
    walk_at "w"
    refine i_row_of (.tup h1 h2) ?_
    unfold rowG
    walk_at "w"
    refine i_size ho ?_
    walk_at "w"
    refine .n (by omega) ?_
    walk_at "w"
    exact h
  | row =>
    unfold rowG
    walk_at "w"
    refine i_row_of .row ?_
    unfold rowG
    walk_at "w"
    refine i_size ho ?_
    walk_at "w"
    refine .n (by omega) ?_
    walk_at "w"
    exact h
theorem i_short {pn : Option (Addr × Addr)} {n : Nat} {Q : D → Nat → Prop} {X : XD} {a : D} {C : Addr} {rs : List Rn} (e : RowArg C a rs) (ho : RunsOk rs) (hl : (expand rs).length ≤ 1000) (k : Q (rowG C rs) n) : dShort C pn a n Q X := by
  unfold dShort
  exact ⟨rs, e, ho, hl, k⟩
end
end Lw

/-! Readings over data: a new instance that may be changed on (own). -/
namespace Da
open PySem PySem.Spec PyProof.Rows L2 Evl Hd
section
variable {K : PySem.W.Frag} {F : Fr} {s s' : S} {H H' : Hp}
theorem hid_made {x C : Addr} {fs : List (Str × D)} {n : Nat} {a : Addr} : (st1 x C fs n s.pn).hid (hidF F s) a = (s.at n).hid (hidA F x) a := by
  unfold S.hid hidF hidA
  show (F a || s.hidM a || (List.any [(⟨0, x, .obj C fs, false⟩ : Ent)] fun e => !e.fz && e.a == a) || s.hidP a) = (F a || a == x || s.hidM a || s.hidP a)
  have e : (x == a) = (a == x) := by
    by_cases z : x = a
    · subst z; rfl
    · rw [beq_eq_false_iff_ne.mpr z, beq_eq_false_iff_ne.mpr (Ne.symm z)]
  show (F a || s.hidM a || (!false && x == a || false) || s.hidP a) = _
  rw [e]
  cases F a <;> cases s.hidM a <;> cases (a == x) <;> cases s.hidP a <;> rfl
theorem vis_made {x C : Addr} {fs : List (Str × D)} {n : Nat} : vis (hidF F s) (st1 x C fs n s.pn) H = vis (hidA F x) (s.at n) H := by
  funext a
  unfold vis
  rw [hid_made]
theorem made_own {C x dx : Addr} (ok : OkS K F s H) (hx : H x = none) (hdx : H dx = none) (hne : dx ≠ x) {fs : List (Str × D)} {n' : Nat}
    (t : Tr (hidF F s) (st1 x C [] s.n s.pn) (upd (upd H dx (.own x)) x (.ins C dx [])) (st1 x C fs n' s.pn) H') (ok' : OkS K (hidF F s) (st1 x C fs n' s.pn) H') :
    F x = false ∧ OkS K (hidA F x) (s.at n') H' ∧ Ex (vis F s H) (vis (hidA F x) (s.at n') H') ∧ (∀ b, F b = true → H' b = H b) ∧ RepO K (vis (hidA F x) (s.at n') H') H' x (.obj C fs) := by
  have old : ∀ a, H a ≠ none → upd (upd H dx (.own x)) x (.ins C dx []) a = H a := fun a ha => by
    rw [upd_ne (fun z => ha (by rw [z]; exact hx)), upd_ne (fun z => ha (by rw [z]; exact hdx))]
  have ex : Ex (vis F s H) (vis (hidA F x) (s.at n') H') := fun a o h => by
    obtain ⟨h1, h2⟩ := vis_iff.mp h
    have hn : H a ≠ none := by rw [h2]; exact fun z => nomatch z
    have hax : (a == x) = false := beq_eq_false_iff_ne.mpr fun z => hn (by rw [z]; exact hx)
    have h3 : (st1 x C [] s.n s.pn).hid (hidF F s) a = false := by
      rw [hid_made]
      unfold S.hid hidA at *
      show (F a || a == x || s.hidM a || s.hidP a) = false
      rw [hax, Bool.or_false]
      exact h1
    have h4 := t.ex a o (vis_iff.mpr ⟨h3, by rw [old a hn]; exact h2⟩)
    rw [vis_made] at h4
    exact h4
  have hF : F x = false := by
    cases e : F x with
    | false => rfl
    | true => exact absurd hx (ok.fr x e)
  have same : ∀ e ∈ s.M, H' e.a = H e.a := fun e he => by
    have hn := (ok.ents e he).some
    cases hf : e.fz with
    | false =>
      rw [t.fr e.a ?_, old e.a hn]
      unfold hidF
      have : s.hidM e.a = true := by
        unfold S.hidM
        exact List.any_eq_true.mpr ⟨e, he, by rw [hf]; simp⟩
      rw [this, Bool.or_true]
    | true =>
      have h1 := ent_seen ok he hf
      cases hh : H e.a with
      | none => exact absurd hh hn
      | some o => exact (vis_iff.mp (ex _ _ (vis_iff.mpr ⟨h1, hh⟩))).2
  have hr := ok'.ents _ List.mem_cons_self
  rw [vis_made] at hr
  refine ⟨hF, ⟨fun e he => (ok.ents e he).mono ex (same e he), ok.nd, fun p q e => ⟨(ok'.pen p q e).1, (ok.pen p q e).2⟩, fun a ha => ?_, fun e he => ?_, fun p q e => ?_⟩, ex, fun b hb => ?_, hr⟩
  · unfold hidA at ha
    rw [Bool.or_eq_true] at ha
    rcases ha with ha | ha
    · exact ok'.fr a (by unfold hidF; rw [ha]; rfl)
    · rw [beq_iff_eq] at ha
      rw [ha]
      exact hr.some
  · unfold hidA
    rw [ok.frM e he, Bool.false_or, beq_eq_false_iff_ne]
    exact fun z => (ok.ents e he).some (by rw [z]; exact hx)
  · obtain ⟨h1, h2⟩ := ok.frP p q e
    obtain ⟨⟨z, ⟨_, ns, h4, h5, _⟩, _⟩, _⟩ := ok.pen p q e
    unfold hidA
    rw [h1, h2, Bool.false_or, Bool.false_or]
    exact ⟨beq_eq_false_iff_ne.mpr fun z => (by rw [z, hx] at h4; cases h4), beq_eq_false_iff_ne.mpr fun z => (by rw [z, hx] at h5; cases h5)⟩
  · rw [t.fr b (by unfold hidF; rw [hb]; rfl), old b (ok.fr b hb)]
instance {C : Addr} {dsp : DIn} {dvs : List V} {dds : List D} {E : XK} {ta : TA} {wa : WA} [df : Dflt K dvs dds] [l : LA K ta wa] : LEo K (tMake C (upIn K C dsp) dvs E ta) (woMake C dsp dds wa) := ⟨fun {F s H σ Γ Q Q0} a h k => l.go a h fun vs H1 ds s1 t1 ok1 r1 h1 => by
  obtain ⟨ds', s2, h2, ok2, t2, r2⟩ := escs ok1 r1 h1
  intro x dx hx hdx hne
  obtain ⟨okA, tA, vA⟩ := (ok_call ok2).new (o := .own x) hdx
  have hx1 : upd H1 dx (.own x) x = none := by rw [upd_ne (Ne.symm hne)]; exact hx
  obtain ⟨okB, tB⟩ := okA.own (k := 0) (o := .ins C dx []) (m := .obj C []) hx1 (fun Hv _ => ⟨dx, [], upd_same, .nil⟩)
  have r3 := r2.app (df.rep _)
  rw [← vis_call (n := s2.n)] at r3
  refine ⟨hidF F s2, x, vs ++ dvs, ds' ++ dds, s2.pn, s2.n, _, XF, rfl, r3.mono (tA.trans tB).ex, okB, h2, fun H' fs n' t3 ok3 q => ⟨rfl, ?_⟩, fun _ _ _ _ _ _ _ _ q => q.elim⟩
  obtain ⟨h3, h4, h5, h6, h7⟩ := made_own ok2 hx hdx hne t3 ok3
  have tt := t1.trans t2
  exact k x H' (.obj C fs) (s2.at n') h3 h4 (tt.ex.trans h5) (fun b hb => (h6 b hb).trans (tt.fr b hb)) tt.pn h7 q⟩
end
end Da

namespace Lw
open PySem L2
open Evl Da
local macro_rules
  | `(tactic| walk_at "f") => `(tactic| first | exact lookF_put | exact lookF_hit | exact (lookF_skip (by decide +kernel) lookF_hit) | exact (lookF_skip (by decide +kernel) (lookF_skip (by decide +kernel) lookF_hit)) | exact (lookF_skip (by decide +kernel) (lookF_skip (by decide +kernel) (lookF_skip (by decide +kernel) lookF_hit))) | exact (lookF_skip (by decide +kernel) (lookF_skip (by decide +kernel) (lookF_skip (by decide +kernel) (lookF_skip (by decide +kernel) lookF_hit)))) | exact (lookF_skip (by decide +kernel) (lookF_skip (by decide +kernel) (lookF_skip (by decide +kernel) (lookF_skip (by decide +kernel) (lookF_skip (by decide +kernel) lookF_hit))))) | exact (lookF_skip (by decide +kernel) (lookF_skip (by decide +kernel) (lookF_skip (by decide +kernel) (lookF_skip (by decide +kernel) (lookF_skip (by decide +kernel) (lookF_skip (by decide +kernel) lookF_hit)))))) | ((refine lookF_other (by decide +kernel) ?_); walk_at "f") | ((refine lookF_skip (by decide +kernel) ?_); walk_at "f"))
  | `(tactic| walk_at "fl") => `(tactic| first | exact Nat.zero_lt_succ _ | ((refine putFD_lt ?_); walk_at "fl"))
  | `(tactic| walk_at "a") => `(tactic| first | exact le1000 (Nat.le_of_ble_eq_true rfl) | exact rfl | decide +kernel | exact And.intro (by with_reducible assumption) (by with_reducible assumption) | exact And.intro (And.intro (by with_reducible assumption) (by with_reducible assumption)) (by walk_at "fl"))
  | `(tactic| walk_at "w") => `(tactic| ((conv => whnf); repeat ((first | ((with_reducible refine And.intro ?_ ?_); (focus (walk_at "a"))) | ((with_reducible refine Br.yes ?_ ?_); (focus (first | exact rfl | decide +kernel))) | ((with_reducible refine Br.no ?_ ?_); (focus (first | exact rfl | decide +kernel))) | ((with_reducible refine ex_fld ?_); (refine fld_w (by walk_at "f") ?_)) | ((with_reducible refine ex_at ?_); (refine at_w rfl ?_))); (conv => whnf))))
  | `(tactic| walk_at "n") => `(tactic| ((try dsimp only [st0, st1, S.at, S.drop, S.own, S.put, S.frz, Src.n] at *); omega))
  | `(tactic| walk_at "draw") => `(tactic| ((try walk_at "w"); (refine i_draw ⟨by walk_at "n", by walk_at "n", by walk_at "n"⟩ ?_)))
open Jn (Rn joinR expand)
theorem putFD_hit {f : Str} {d x : D} {r : List (Str × D)} : putFD f d ((f, x) :: r) = (f, d) :: r := by
  show (match decide (f = f) with | true => (f, d) :: r | false => (f, x) :: putFD f d r) = _
  rw [decide_eq_true rfl]
section
variable {P : Program} {w : World} {K : PySem.W.Frag} {mg : Str → Option Value} {base : Heap}
instance df_row (T : Tx w K mg) : Dflt K [T.dd_Row___init] [.tup []] := ⟨fun H => .cons (T.df_Row___init H) .nil⟩
theorem join_runs {ps : List Rn} (h : ∀ p ∈ ps, 0 ≤ p.1) (hl : (joinR ps).length ≤ 1000) : RunsOk (joinR ps) := ⟨(Jn.join_ok h).1, hl⟩
theorem join_expand {ps : List Rn} (h : ∀ p ∈ ps, 0 ≤ p.1) : expand (joinR ps) = expand ps := (Jn.join_ok h).2
@[irreducible] def dOfRuns (C : Addr) : R1 := fun _ a n Q _ => ∃ ps : List Rn, (a = .lst (ps.map runD) ∨ a = .tup (ps.map runD)) ∧ (∀ p ∈ ps, 0 ≤ p.1 ∧ 0 ≤ p.2) ∧ (joinR ps).length ≤ 1000 ∧ ps.length ≤ 100000 ∧ Q (rowG C (joinR ps)) n
theorem ok_Row_of_runs (T : Tx w K mg) : FnOk P w K mg base CX0 4 T.f_Row_of_runs T.d_Row_of_runs ["runs"] (Da.upSp K (sp1 (dOfRuns T.c_Row))) := by
  refine T.F_Row_of_runs.ok sc_Row_of_runs (fun vs H Q E h => Da.up_len1 h) (fun cdv A outer s H vs Q E hr h => ?_)
  refine ⟨_, (pss_cons (ps_for PassesOwn.never rfl (Da.seqK (K := K) rfl (pv 0)) (Da.gtupK (n := 2) (K := K) rfl (by rfl) (pgs_cons (pg_name (i := 1) sc_Row_of_runs.nd rfl (Or.inl rfl)) (pgs_cons (pg_name (i := 2) sc_Row_of_runs.nd rfl (Or.inl rfl)) pgs_nil)))
        (pss_cons (ps_if (pt_cmpR op_lt (pv 1) pe_int (nomark _))
          (pss_one ps_never)
          pss_nil)
        (pss_one (ps_if (pt_cmpR op_lt (pv 2) pe_int (nomark _))
          (pss_one ps_never)
          pss_nil))))
      (pss_cons (Da.ps_own 1 (ps_set (i := 3) sc_Row_of_runs.nd rfl (Or.inl rfl) (pe_make0 T.mk_Row (ok_Row___init T) (hr.mono (by decide)) rfl T.m_Row T.bd_Row___init T.vd_Row___init pass0)))
      (pss_cons (Da.setfK (K := K) rfl (pv 3) (pe_call (ok_joined T) (hr.mono (by decide)) rfl T.m_joined T.F_joined.kp T.b_joined .nil pass0 (pa_cons (pv 0) pa_nil)) rfl)
      (pss_one (ps_ret (pv 3)))))), Da.go_up1 h ?_⟩
  intro pn a n Q _ h
  unfold dOfRuns at h
  obtain ⟨ps, e, h1, h2, h3, h⟩ := h
  obtain ⟨A, hA⟩ : ∃ A, A = a := ⟨_, rfl⟩
  have hE := e
  rw [← hA] at hE
  rcases e with rfl | rfl
  all_goals
    have c1 := T.cl_Row
    have c2 := T.n_Row_runs
    walk_at "w"
    refine for_inv (fun i Γ s => ∃ u1 u2 u3 : Option D, Γ = [some A, u1, u2, u3] ∧ s = st0 n pn) ⟨_, _, _, by rw [hA]; rfl, rfl⟩ ?_ ?_
    · rintro i d _ _ hi hd ⟨u1, u2, u3, rfl, rfl⟩
      obtain ⟨r, hr, rfl⟩ := runs_at (seq_at hd)
      obtain ⟨r1, r2⟩ := h1 r (List.mem_of_getElem? hr)
      walk_at "w"
      refine .n (by omega) ?_
      walk_at "w"
      refine .n (by omega) ?_
      walk_at "w"
      exact ⟨_, _, _, rfl, rfl⟩
    · rintro _ _ ⟨u1, u2, u3, rfl, rfl⟩
      subst hA
      walk_at "w"
      refine i_rowI (cs := []) (.inr rfl) (fun c hc => nomatch hc) (by decide) ?_
      walk_at "w"
      intro ra
      walk_at "w"
      refine i_joinedT hE h2 h3 ?_
      walk_at "w"
      have e : putFD "runs" (.tup ((joinR ps).map runD)) ([("runs", D.tup ((rowR []).map runD))] : List (Str × D)) = ([("runs", D.tup ((joinR ps).map runD))] : List (Str × D)) := putFD_hit
      refine ⟨⟨⟨c1, c2⟩, (by show 1 < 1000; decide)⟩, ?_⟩
      rw [e]
      walk_at "w"
      exact h
theorem i_of_runs {pn : Option (Addr × Addr)} {n : Nat} {Q : D → Nat → Prop} {X : XD} {C : Addr} {ps : List Rn} {a : D} (e : a = .lst (ps.map runD)) (h1 : ∀ p ∈ ps, 0 ≤ p.1 ∧ 0 ≤ p.2) (h2 : (joinR ps).length ≤ 1000) (h3 : ps.length ≤ 100000) (h : Q (rowG C (joinR ps)) n) : dOfRuns C pn a n Q X := by
  unfold dOfRuns
  exact ⟨ps, .inl e, h1, h2, h3, h⟩
theorem i_of_runsT {pn : Option (Addr × Addr)} {n : Nat} {Q : D → Nat → Prop} {X : XD} {C : Addr} {ps : List Rn} {a : D} (e : a = .tup (ps.map runD)) (h1 : ∀ p ∈ ps, 0 ≤ p.1 ∧ 0 ≤ p.2) (h2 : (joinR ps).length ≤ 1000) (h3 : ps.length ≤ 100000) (h : Q (rowG C (joinR ps)) n) : dOfRuns C pn a n Q X := by
  unfold dOfRuns
  exact ⟨ps, .inr e, h1, h2, h3, h⟩
end
end Lw

/-! A drawn reader's course over cells, cell by cell and by runs (own). -/
namespace Lw
open PySem PySem.Spec L2 Da
/-- what was seen so far -/
structure Wk where
  place : Nat
  cuts : List Int
  ref : Option Int
  sd : Option Sd
def aft (w : Wk) (p : Nat) : Option Sd → Bool → Wk
  | none, _ => ⟨w.place + p, w.cuts, some ((w.place + p : Nat) : Int), none⟩
  | some s, c => ⟨w.place + p, if c = true then w.cuts ++ [((w.place + p : Nat) : Int)] else w.cuts, w.ref, some s⟩
def stepW (ls : List Li) (w : Wk) (z : Int) : Wk := match w.sd with
  | none => ⟨w.place + 1, w.cuts, w.ref, none⟩
  | some s => aft w 1 (step1 ls s z).1 (step1 ls s z).2
def runW (ls : List Li) (w : Wk) (zs : List Int) : Wk := zs.foldl (stepW ls) w
theorem runW_app {ls : List Li} {w : Wk} {a b : List Int} : runW ls w (a ++ b) = runW ls (runW ls w a) b := List.foldl_append
theorem runW_cons {ls : List Li} {w : Wk} {z : Int} {b : List Int} : runW ls w (z :: b) = runW ls (stepW ls w z) b := rfl
theorem run_ref {ls : List Li} {z : Int} : ∀ {k : Nat} {w : Wk}, w.sd = none → runW ls w (List.replicate k z) = ⟨w.place + k, w.cuts, w.ref, none⟩
  | 0, w, h => by
    obtain ⟨a, b, c, d⟩ := w
    have h : d = none := h
    subst h
    rfl
  | k + 1, w, h => by
    obtain ⟨a, b, c, d⟩ := w
    have h : d = none := h
    subst h
    rw [List.replicate_succ, runW_cons]
    have e : stepW ls ⟨a, b, c, none⟩ z = ⟨a + 1, b, c, none⟩ := rfl
    rw [e, run_ref rfl]
    show (⟨a + 1 + k, b, c, none⟩ : Wk) = ⟨a + (k + 1), b, c, none⟩
    rw [show a + 1 + k = a + (k + 1) by omega]
theorem ah_run {ls : List Li} {z : Int} : ∀ {n : Nat} {s : Sd} {w : Wk}, w.sd = some s → runW ls w (List.replicate (aheadG ls z n s).1 z) = aft w (aheadG ls z n s).1 (aheadG ls z n s).2.1 (aheadG ls z n s).2.2
  | 0, s, w, h => by
    obtain ⟨a, b, c, d⟩ := w
    have h : d = some s := h
    subst h
    rfl
  | n + 1, s, w, h => by
    obtain ⟨a, b, c, d⟩ := w
    have h : d = some s := h
    subst h
    have e : stepW ls ⟨a, b, c, some s⟩ z = aft ⟨a, b, c, some s⟩ 1 (step1 ls s z).1 (step1 ls s z).2 := rfl
    cases hs : step1 ls s z with
    | mk o cu =>
      rw [hs] at e
      cases o with
      | none =>
        rw [ah_end hs (.inl rfl)]
        show runW ls _ [z] = _
        rw [runW_cons, e]
        rfl
      | some s' =>
        cases cu with
        | true =>
          rw [ah_end hs (.inr rfl)]
          show runW ls _ [z] = _
          rw [runW_cons, e]
          rfl
        | false =>
          rw [ah_go hs]
          show runW ls _ (List.replicate ((aheadG ls z n s').1 + 1) z) = aft _ ((aheadG ls z n s').1 + 1) (aheadG ls z n s').2.1 (aheadG ls z n s').2.2
          rw [List.replicate_succ, runW_cons, e]
          have e2 : aft ⟨a, b, c, some s⟩ 1 (some s') false = ⟨a + 1, b, c, some s'⟩ := rfl
          show runW ls (aft ⟨a, b, c, some s⟩ 1 (some s') false) _ = _
          rw [e2, ah_run rfl]
          have e3 : a + 1 + (aheadG ls z n s').1 = a + ((aheadG ls z n s').1 + 1) := by omega
          cases (aheadG ls z n s').2.1 with
          | none => simp only [aft, e3]
          | some s2 => simp only [aft, e3]
/-- so many at most; without an event all of them -/
theorem ah_le {ls : List Li} {z : Int} : ∀ {n : Nat} {s : Sd}, (aheadG ls z n s).1 ≤ n ∧ ((aheadG ls z n s).2.1 ≠ none → (aheadG ls z n s).2.2 = false → (aheadG ls z n s).1 = n) ∧ (1 ≤ n → 1 ≤ (aheadG ls z n s).1)
  | 0, s => ⟨Nat.le_refl _, fun _ _ => rfl, fun h => by omega⟩
  | n + 1, s => by
    cases hs : step1 ls s z with
    | mk o cu =>
      have gen : ∀ (o : Option Sd) (cu : Bool), step1 ls s z = (o, cu) → (o = none ∨ cu = true) → (aheadG ls z (n + 1) s).1 ≤ n + 1 ∧ ((aheadG ls z (n + 1) s).2.1 ≠ none → (aheadG ls z (n + 1) s).2.2 = false → (aheadG ls z (n + 1) s).1 = n + 1) ∧ (1 ≤ n + 1 → 1 ≤ (aheadG ls z (n + 1) s).1) := fun o cu hs he => by
        rw [ah_end hs he]
        refine ⟨by show 1 ≤ n + 1; omega, fun h1 h2 => ?_, fun _ => Nat.le_refl _⟩
        rcases he with rfl | rfl
        · exact absurd rfl h1
        · cases h2
      cases o with
      | none => exact gen none cu hs (.inl rfl)
      | some s' =>
        cases cu with
        | true => exact gen (some s') true hs (.inr rfl)
        | false =>
          rw [ah_go hs]
          obtain ⟨h1, h2, _⟩ := ah_le (n := n) (s := s') (ls := ls) (z := z)
          exact ⟨Nat.succ_le_succ h1, fun h3 h4 => congrArg (· + 1) (h2 h3 h4), fun _ => by show 1 ≤ _ + 1; omega⟩
/-- an event comes at the same cell, however many there are behind it -/
theorem ah_same {ls : List Li} {z : Int} : ∀ {n : Nat} {s : Sd} {p : Nat} {o : Option Sd} {c : Bool}, aheadG ls z n s = (p, o, c) → (o = none ∨ c = true) → ∀ {n' : Nat}, p ≤ n' → aheadG ls z n' s = (p, o, c)
  | 0, s, p, o, c, h, he, n', hn => by
    cases h
    rcases he with e | e
    · cases e
    · cases e
  | n + 1, s, p, o, c, h, he, n', hn => by
    cases hs : step1 ls s z with
    | mk o1 c1 =>
      have gen : (o1 = none ∨ c1 = true) → aheadG ls z n' s = (p, o, c) := fun he1 => by
        rw [ah_end hs he1] at h
        cases h
        obtain ⟨m, rfl⟩ : ∃ m, n' = m + 1 := ⟨n' - 1, by omega⟩
        exact ah_end hs he1
      cases o1 with
      | none => exact gen (.inl rfl)
      | some s' =>
        cases c1 with
        | true => exact gen (.inr rfl)
        | false =>
          rw [ah_go hs] at h
          have e1 : (aheadG ls z n s').1 + 1 = p := congrArg (·.1) h
          have e2 : (aheadG ls z n s').2 = (o, c) := congrArg (·.2) h
          obtain ⟨m, rfl⟩ : ∃ m, n' = m + 1 := ⟨n' - 1, by omega⟩
          rw [ah_go hs]
          have e3 : aheadG ls z n s' = ((aheadG ls z n s').1, o, c) := Prod.ext rfl e2
          rw [ah_same e3 he (by omega : (aheadG ls z n s').1 ≤ m), ← e1]
/-- where a reader begins -/
def begS (ls : List Li) : Sd := match come ls 30 0 none with
  | (some s, _) => s
  | (none, _) => ⟨0, none, 1⟩
theorem come_first {ns ws : List Str} {ls : List Li} (dr : Drawn ns ws ls) : come ls 30 0 none = (some (begS ls), false) ∧ SdOk ws (begS ls) := by
  obtain ⟨s, h1, h2⟩ := trip_first dr none
  have h3 := h2.come 30 (by decide)
  unfold begS
  rw [h3]
  exact ⟨rfl, h1⟩
/-- behind a cut a reader begins anew -/
theorem trip_cut {ns ws : List Str} {ls : List Li} (dr : Drawn ns ws ls) {m i : Nat} {k : Option Int} {r : Option Sd × Bool} (t : Trip ls m i k r) : m ≤ 20 → r.2 = true → r.1 = some (begS ls) := by
  induction t with
  | stop h1 h2 => intro _ h; cases h
  | @go m i j li k k' c r h1 h2 h3 ih =>
    intro hm h
    rcases hop_go dr h1 h2 with ⟨rfl, rfl, rfl, _⟩ | ⟨rfl, _⟩
    · have e := h3.come 30 (by omega)
      rw [(come_first dr).1] at e
      rw [← e]
    · exact ih (by omega) (by simpa using h)
theorem come_cut {ns ws : List Str} {ls : List Li} (dr : Drawn ns ws ls) {i : Nat} {k : Option Int} (hi : i < ws.length) (h : (come ls 30 i k).2 = true) : (come ls 30 i k).1 = some (begS ls) := trip_cut dr (trip10 dr k hi).2.2 (by decide) h
theorem come_ok {ns ws : List Str} {ls : List Li} (dr : Drawn ns ws ls) {i : Nat} {k : Option Int} (h : i < ws.length) : OutOk ws (come ls 30 i k).1 ∧ ((come ls 30 i k).1 = none → (come ls 30 i k).2 = false) ∧ ((come ls 30 i k).2 = true → (come ls 30 i k).1 = some (begS ls)) := ⟨(trip10 dr k h).1, (trip10 dr k h).2.1, come_cut dr h⟩
def wayOf (wy : List (Int × Nat)) (o : Nat) (c : Int) : Nat := ((wy.filter fun y => y.1 == c).map (·.2) ++ [o]).headD o
theorem way_cons {y : Int × Nat} {wy : List (Int × Nat)} {o : Nat} {c : Int} : wayOf (y :: wy) o c = if y.1 = c then y.2 else wayOf wy o c := by
  unfold wayOf
  by_cases h : y.1 = c
  · rw [if_pos h, List.filter_cons, if_pos (by rw [beq_iff_eq]; exact h)]
    rfl
  · rw [if_neg h, List.filter_cons, if_neg (by rw [beq_iff_eq]; exact h)]
theorem beh_case {ls : List Li} {s : Sd} {z : Int} {wy : List (Int × Nat)} {o : Nat} (h : ls[s.at_]? = some (.case wy o)) : behind ls s z = come ls 30 (wayOf wy o z) s.kept := by simp only [behind, h, wayOf]
theorem beh_take {ls : List Li} {s : Sd} {z : Int} {o : Nat} (h : ls[s.at_]? = some (.take o)) : behind ls s z = come ls 30 o (some z) := by simp only [behind, h]
theorem beh_num {ls : List Li} {s : Sd} {z c : Int} {w : Str} {o : Nat} (h : ls[s.at_]? = some (.num w c o)) : behind ls s z = come ls 30 o (if w = "rest" then some (z % c) else if w = "cap" then some (if c < z then c else z) else s.kept) := by simp only [behind, h]
theorem way_lt {wy : List (Int × Nat)} {o n : Nat} {c : Int} (h1 : ∀ y ∈ wy, y.2 < n) (h2 : o < n) : wayOf wy o c < n := by
  induction wy with
  | nil => exact h2
  | cons y r ih =>
    rw [way_cons]
    split
    · exact h1 y List.mem_cons_self
    · exact ih fun x hx => h1 x (List.mem_cons_of_mem _ hx)
theorem beh_ok {ns ws : List Str} {ls : List Li} (dr : Drawn ns ws ls) {s : Sd} (sk : SdOk ws s) (z : Int) : OutOk ws (behind ls s z).1 ∧ ((behind ls s z).1 = none → (behind ls s z).2 = false) ∧ ((behind ls s z).2 = true → (behind ls s z).1 = some (begS ls)) := by
  obtain ⟨i, k, l⟩ := s
  have hi : i < ws.length := sk.lt
  obtain ⟨li, hli⟩ : ∃ li, ls[i]? = some li := ⟨_, List.getElem?_eq_getElem (by rw [dr.lenL]; exact hi)⟩
  have hok := dr.ok i li hli
  cases li with
  | case wy o =>
    rw [beh_case hli]
    exact come_ok dr (way_lt (fun y hy => (hok.2.2.1 y hy).2.2.1) hok.2.2.2.2.1)
  | take o =>
    rw [beh_take hli]
    exact come_ok dr hok.2.1
  | num x c o =>
    rw [beh_num hli]
    exact come_ok dr hok.2.2.1
  | upto c x y =>
    have e : behind ls ⟨i, k, l⟩ z = come ls 30 y k := by simp only [behind, hli]
    rw [e]
    exact come_ok dr hok.2.2.2.2.1
  | fin x =>
    have e : behind ls ⟨i, k, l⟩ z = (none, false) := by simp only [behind, hli]
    rw [e]
    exact ⟨(fun s e => nomatch e), (fun _ => rfl), (fun e => nomatch e)⟩
theorem step1_ok {ns ws : List Str} {ls : List Li} (dr : Drawn ns ws ls) {s : Sd} (sk : SdOk ws s) (z : Int) : OutOk ws (step1 ls s z).1 ∧ ((step1 ls s z).1 = none → (step1 ls s z).2 = false) ∧ ((step1 ls s z).2 = true → (step1 ls s z).1 = some (begS ls)) := by
  unfold step1
  split
  · rename_i h
    refine ⟨fun s' e => ?_, (fun e => nomatch e), (fun e => nomatch e)⟩
    cases e
    exact ⟨sk.lt, by show 1 ≤ s.left - 1; omega, sk.word⟩
  · exact beh_ok dr sk z
theorem ah_ok {ns ws : List Str} {ls : List Li} (dr : Drawn ns ws ls) {z : Int} : ∀ {n : Nat} {s : Sd}, SdOk ws s → OutOk ws (aheadG ls z n s).2.1 ∧ ((aheadG ls z n s).2.1 = none → (aheadG ls z n s).2.2 = false) ∧ ((aheadG ls z n s).2.2 = true → (aheadG ls z n s).2.1 = some (begS ls))
  | 0, s, h => ⟨fun s' e => by cases e; exact h, (fun e => nomatch e), (fun e => nomatch e)⟩
  | n + 1, s, h => by
    have hk := step1_ok dr h z
    cases hs : step1 ls s z with
    | mk o c =>
      rw [hs] at hk
      cases o with
      | none => rw [ah_end hs (.inl rfl)]; exact hk
      | some s' =>
        cases c with
        | true => rw [ah_end hs (.inr rfl)]; exact hk
        | false => rw [ah_go hs]; exact ah_ok dr (hk.1 s' rfl)
/-- whole messages of equal cells -/
theorem ah_times {ls : List Li} {z : Int} {p : Nat} (h : aheadG ls z p (begS ls) = (p, some (begS ls), true)) : ∀ (t : Nat) (w : Wk), w.sd = some (begS ls) → ∃ cs : List Int, runW ls w (List.replicate (t * p) z) = ⟨w.place + t * p, w.cuts ++ cs, w.ref, some (begS ls)⟩ ∧ cs.length = t ∧ (1 ≤ t → cs.getLast? = some ((w.place + t * p : Nat) : Int))
  | 0, w, hw => by
    obtain ⟨a, b, c, d⟩ := w
    have hw : d = some (begS ls) := hw
    subst hw
    refine ⟨[], ?_, rfl, fun h => by omega⟩
    rw [Nat.zero_mul, List.append_nil]
    rfl
  | t + 1, w, hw => by
    obtain ⟨cs, h1, h2, h3⟩ := ah_times h t w hw
    have e := ah_run (ls := ls) (z := z) (n := p) (s := begS ls) (w := ⟨w.place + t * p, w.cuts ++ cs, w.ref, some (begS ls)⟩) rfl
    rw [h] at e
    refine ⟨cs ++ [((w.place + t * p + p : Nat) : Int)], ?_, by rw [List.length_append, h2]; rfl, fun _ => ?_⟩
    · rw [show (t + 1) * p = t * p + p by rw [Nat.add_mul, Nat.one_mul], ← List.replicate_append_replicate, runW_app, h1, e]
      show (⟨w.place + t * p + p, if true = true then w.cuts ++ cs ++ [((w.place + t * p + p : Nat) : Int)] else _, w.ref, some (begS ls)⟩ : Wk) = _
      rw [if_pos rfl, List.append_assoc, Nat.add_assoc]
    · rw [List.getLast?_append]
      show some ((w.place + t * p + p : Nat) : Int) = _
      rw [show (t + 1) * p = t * p + p by rw [Nat.add_mul, Nat.one_mul], Nat.add_assoc]
/-- what holds all the way -/
structure WkOk (ws : List Str) (w : Wk) : Prop where
  ok : ∀ s, w.sd = some s → SdOk ws s
  ref : w.sd.isNone = w.ref.isSome
  few : w.cuts.length ≤ w.place
theorem WkOk.aft {ns ws : List Str} {ls : List Li} {w : Wk} (h : WkOk ws w) {s : Sd} (hs : w.sd = some s) {p : Nat} (hp : 1 ≤ p) {o : Option Sd} {c : Bool} (ho : OutOk ws o) : WkOk ws (aft w p o c) := by
  have hr := h.ref
  rw [hs] at hr
  have hf := h.few
  cases o with
  | none => exact ⟨(fun s e => nomatch e), rfl, by show w.cuts.length ≤ w.place + p; omega⟩
  | some s' =>
    refine ⟨fun s e => ho s e, hr, ?_⟩
    cases c
    · show w.cuts.length ≤ w.place + p
      omega
    · show (w.cuts ++ [_]).length ≤ w.place + p
      rw [List.length_append]
      show w.cuts.length + 1 ≤ _
      omega
theorem WkOk.step {ns ws : List Str} {ls : List Li} (dr : Drawn ns ws ls) {w : Wk} (h : WkOk ws w) (z : Int) : WkOk ws (stepW ls w z) := by
  obtain ⟨a, b, c, d⟩ := w
  cases d with
  | none => exact ⟨h.ok, h.ref, Nat.le_succ_of_le h.few⟩
  | some s => exact WkOk.aft (ns := ns) (ls := ls) h rfl (Nat.le_refl _) (step1_ok dr (h.ok s rfl) z).1
theorem WkOk.run {ns ws : List Str} {ls : List Li} (dr : Drawn ns ws ls) : ∀ {zs : List Int} {w : Wk}, WkOk ws w → WkOk ws (runW ls w zs)
  | [], w, h => h
  | z :: r, w, h => by
    rw [runW_cons]
    exact WkOk.run dr (h.step dr z)
/-- at the beginning -/
def wk0 (ls : List Li) : Wk := ⟨0, [], none, some (begS ls)⟩
theorem wk0_ok {ns ws : List Str} {ls : List Li} (dr : Drawn ns ws ls) : WkOk ws (wk0 ls) := ⟨fun s e => by cases e; exact (come_first dr).2, rfl, Nat.le_refl _⟩
theorem run_place {ls : List Li} : ∀ {zs : List Int} {w : Wk}, (runW ls w zs).place = w.place + zs.length
  | [], w => rfl
  | z :: r, w => by
    rw [runW_cons, run_place]
    have e : (stepW ls w z).place = w.place + 1 := by
      obtain ⟨a, b, c, d⟩ := w
      cases d with
      | none => rfl
      | some s =>
        show (aft _ 1 (step1 ls s z).1 (step1 ls s z).2).place = _
        cases (step1 ls s z).1 <;> rfl
    rw [e, List.length_cons]
    omega
end Lw

namespace Lw
open PySem L2
open Evl Da
local macro_rules
  | `(tactic| walk_at "f") => `(tactic| first | exact lookF_put | exact lookF_hit | exact (lookF_skip (by decide +kernel) lookF_hit) | exact (lookF_skip (by decide +kernel) (lookF_skip (by decide +kernel) lookF_hit)) | exact (lookF_skip (by decide +kernel) (lookF_skip (by decide +kernel) (lookF_skip (by decide +kernel) lookF_hit))) | exact (lookF_skip (by decide +kernel) (lookF_skip (by decide +kernel) (lookF_skip (by decide +kernel) (lookF_skip (by decide +kernel) lookF_hit)))) | exact (lookF_skip (by decide +kernel) (lookF_skip (by decide +kernel) (lookF_skip (by decide +kernel) (lookF_skip (by decide +kernel) (lookF_skip (by decide +kernel) lookF_hit))))) | exact (lookF_skip (by decide +kernel) (lookF_skip (by decide +kernel) (lookF_skip (by decide +kernel) (lookF_skip (by decide +kernel) (lookF_skip (by decide +kernel) (lookF_skip (by decide +kernel) lookF_hit)))))) | ((refine lookF_other (by decide +kernel) ?_); walk_at "f") | ((refine lookF_skip (by decide +kernel) ?_); walk_at "f"))
  | `(tactic| walk_at "fl") => `(tactic| first | exact Nat.zero_lt_succ _ | ((refine putFD_lt ?_); walk_at "fl"))
  | `(tactic| walk_at "a") => `(tactic| first | exact le1000 (Nat.le_of_ble_eq_true rfl) | exact rfl | decide +kernel | exact And.intro (by with_reducible assumption) (by with_reducible assumption) | exact And.intro (And.intro (by with_reducible assumption) (by with_reducible assumption)) (by walk_at "fl"))
  | `(tactic| walk_at "w") => `(tactic| ((conv => whnf); repeat ((first | ((with_reducible refine And.intro ?_ ?_); (focus (walk_at "a"))) | ((with_reducible refine Br.yes ?_ ?_); (focus (first | exact rfl | decide +kernel))) | ((with_reducible refine Br.no ?_ ?_); (focus (first | exact rfl | decide +kernel))) | ((with_reducible refine ex_fld ?_); (refine fld_w (by walk_at "f") ?_)) | ((with_reducible refine ex_at ?_); (refine at_w rfl ?_))); (conv => whnf))))
  | `(tactic| walk_at "n") => `(tactic| ((try dsimp only [st0, st1, S.at, S.drop, S.own, S.put, S.frz, Src.n] at *); omega))
  | `(tactic| walk_at "draw") => `(tactic| ((try walk_at "w"); (refine i_draw ⟨by walk_at "n", by walk_at "n", by walk_at "n"⟩ ?_)))
def kD : Option Int → D
  | none => .non
  | some k => .int k
theorem kD_some {v : Int} : kD (some v) = .int v := rfl
theorem kD_none : kD none = .non := rfl
theorem liD_case {ns : List Str} {wy : List (Int × Nat)} {o : Nat} : liD ns true (.case wy o) = .tup [.str "case", .tup (wy.map (wayD ns)), .str (wAt ns o)] := rfl
def sdD (ns : List Str) (s : Sd) : D := .tup [.str (wAt ns s.at_), kD s.kept, .int (s.left : Int)]
def evD : Bool → D
  | true => .str "cut"
  | false => .non
def outD (ns : List Str) : Option Sd × Bool → D
  | (none, _) => .tup [.non, .str "refuse"]
  | (some s, b) => .tup [sdD ns s, evD b]
def linesK (ns : List Str) (ls : List Li) : List (Key × D) := (numbered ls).map fun y => ((Sum.inr (wAt ns y.1) : Key), liD ns true y.2)
theorem lookK_at {l : List (Key × D)} : ∀ {i : Nat} {k : Key} {d : D}, (l.map (·.1)).Nodup → l[i]? = some (k, d) → lookK l k = some d := by
  induction l with
  | nil => intro i k d _ h; simp at h
  | cons p r ih =>
    intro i k d nd h
    obtain ⟨k', e⟩ := p
    rw [List.map_cons, List.nodup_cons] at nd
    unfold lookK
    cases i with
    | zero =>
      cases h
      rw [if_pos rfl]
    | succ i =>
      have h : r[i]? = some (k, d) := by simpa using h
      rw [if_neg, ih nd.2 h]
      intro z
      exact nd.1 (List.mem_map.mpr ⟨(k, d), List.mem_of_getElem? h, z.symm⟩)
theorem linesK_keys {ns ws : List Str} {ls : List Li} (dr : Drawn ns ws ls) : (linesK ns ls).map (·.1) = ns.map Sum.inr := by
  refine List.ext_getElem? fun i => ?_
  unfold linesK
  rw [List.map_map, List.getElem?_map, List.getElem?_map]
  by_cases h : i < ls.length
  · rw [numbered_at (List.getElem?_eq_getElem h), wAt_at (by rw [dr.len, ← dr.lenL]; exact h)]
    rfl
  · rw [List.getElem?_eq_none (by rw [numbered_len]; omega), List.getElem?_eq_none (by rw [dr.len, ← dr.lenL]; omega)]
    rfl
theorem nodup_inr : ∀ {ns : List Str}, ns.Nodup → (ns.map (Sum.inr : Str → Key)).Nodup
  | [], _ => List.nodup_nil
  | x :: r, h => by
    rw [List.map_cons, List.nodup_cons]
    obtain ⟨h1, h2⟩ := List.nodup_cons.mp h
    refine ⟨fun z => ?_, nodup_inr h2⟩
    obtain ⟨y, hy, e⟩ := List.mem_map.mp z
    cases e
    exact h1 hy
theorem linesK_look {ns ws : List Str} {ls : List Li} (dr : Drawn ns ws ls) {i : Nat} {li : Li} (h : ls[i]? = some li) : lookK (linesK ns ls) (Sum.inr (wAt ns i)) = some (liD ns true li) := by
  refine lookK_at (i := i) (by rw [linesK_keys dr]; exact nodup_inr dr.nd) ?_
  unfold linesK
  rw [List.getElem?_map, numbered_at h]
  rfl
theorem linesK_app {ns : List Str} {ls : List Li} {li : Li} : linesK ns (ls ++ [li]) = linesK ns ls ++ [(Sum.inr (wAt ns ls.length), liD ns true li)] := by unfold linesK; rw [numbered_app, List.map_append]; rfl
abbrev macF (ns : List Str) (ls : List Li) (rest : List (Str × D)) : List (Str × D) := ("lines", .dct (linesK ns ls)) :: ("first", .str (wAt ns 0)) :: rest
section
variable {P : Program} {w : World} {K : PySem.W.Frag} {mg : Str → Option Value} {base : Heap}
def lenO (k : Option Int) (c : Int) : Option Int := match k with
  | none => none
  | some v => if v + c < 0 then none else some (v + c)
theorem len_neg {v c : Int} (h : v + c < 0) : lenO (some v) c = none := if_pos h
theorem len_pos {v c : Int} (h : ¬ v + c < 0) : lenO (some v) c = some (v + c) := if_neg h
@[irreducible] def dLength : R2' := fun _ a b n Q _ => ∃ (k : Option Int) (c : Int), a = kD k ∧ b = .int c ∧ Q (kD (lenO k c)) n
theorem ok_length (T : Tx w K mg) : FnOk P w K mg base CX0 1 T.f_length T.d_length ["kept", "more"] (Da.upSp K (sp2 dLength)) := by
  refine T.F_length.ok sc_length (fun vs H Q E h => Da.up_len2 h) (fun cdv A outer s H vs Q E hr h => ?_)
  refine ⟨_, (pss_cons (ps_if (PW.pt (pw_or (pt_cmpR op_isN (pv 0) pe_non (nomark _)) (pw_or1 (pt_val (pe_callB (Da.isiK (K := K) rfl) (by rfl) T.z_isinstance (by decide +kernel) (pa_cons (pv 0) (pa_cons (pe_bltn (v := .ty "str") (by rfl) T.z_str (by decide +kernel) rfl) pa_nil)))))))
        (pss_one (ps_ret (pv 0)))
        pss_nil)
      (pss_cons (ps_if (pt_val (pe_callB (Da.isiK (K := K) rfl) (by rfl) T.z_isinstance (by decide +kernel) (pa_cons (pv 0) (pa_cons (pe_bltn (v := .ty "int") (by rfl) T.z_int (by decide +kernel) rfl) pa_nil))))
        (pss_one (ps_ret (pe_ifExp (pt_cmpR op_ge (pe_op (Da.addK (K := K) rfl) (pv 0) (pv 1)) pe_int (nomark _)) (pe_op (Da.addK (K := K) rfl) (pv 0) (pv 1)) pe_non)))
        pss_nil)
      (pss_one (ps_ret (pe_tup (pa_cons (pe_op (Da.addK (K := K) rfl) (pe_ix (Da.ixK (K := K) rfl) (pv 0) pe_int (fun _ _ => rfl)) (pv 1)) (pa_cons (pe_ix (Da.ixK (K := K) rfl) (pv 0) pe_int (fun _ _ => rfl)) pa_nil))))))), Da.go_up2 h ?_⟩
  intro pn a b n Q _ h
  unfold dLength at h
  obtain ⟨k, c, rfl, rfl, h⟩ := h
  cases k with
  | none =>
    walk_at "w"
    exact h
  | some v =>
    rw [kD_some]
    walk_at "w"
    refine ⟨false, T.kit_int_str, ?_⟩
    walk_at "w"
    refine ⟨true, T.kit_int_int, ?_⟩
    walk_at "w"
    refine .dec (fun h0 => ?_) (fun h0 => ?_)
    · rw [len_pos (by omega)] at h
      walk_at "w"
      exact h
    · rw [len_neg (by omega)] at h
      walk_at "w"
      exact h
theorem i_length {pn : Option (Addr × Addr)} {n : Nat} {Q : D → Nat → Prop} {X : XD} {a : D} {k : Option Int} {c : Int} (e : a = kD k) (h : Q (kD (lenO k c)) n) : dLength pn a (.int c) n Q X := by
  unfold dLength
  exact ⟨k, c, e, rfl, h⟩
def atMost (k : Option Int) (c : Int) : Bool := match k with
  | none => false
  | some v => decide (v ≤ c)
@[irreducible] def dAtMost : R2' := fun _ a b n Q _ => ∃ (k : Option Int) (c : Int), a = kD k ∧ b = .int c ∧ Q (.bl (atMost k c)) n
theorem ok_is_at_most (T : Tx w K mg) : FnOk P w K mg base CX0 1 T.f_is_at_most T.d_is_at_most ["kept", "number"] (Da.upSp K (sp2 dAtMost)) := by
  refine T.F_is_at_most.ok sc_is_at_most (fun vs H Q E h => Da.up_len2 h) (fun cdv A outer s H vs Q E hr h => ?_)
  refine ⟨_, (pss_one (ps_ret (pe_and (pe_callB (Da.isiK (K := K) rfl) (by rfl) T.z_isinstance (by decide +kernel) (pa_cons (pv 0) (pa_cons (pe_bltn (v := .ty "int") (by rfl) T.z_int (by decide +kernel) rfl) pa_nil))) (pe_one (pe_cmpR op_le (pv 0) (pv 1) (nomark _)))))), Da.go_up2 h ?_⟩
  intro pn a b n Q _ h
  unfold dAtMost at h
  obtain ⟨k, c, rfl, rfl, h⟩ := h
  cases k with
  | none =>
    rw [kD_none]
    walk_at "w"
    refine ⟨false, T.kit_NoneType_int, ?_⟩
    walk_at "w"
    exact h
  | some v =>
    rw [kD_some]
    walk_at "w"
    refine ⟨true, T.kit_int_int, ?_⟩
    walk_at "w"
    exact h
theorem i_at_most {pn : Option (Addr × Addr)} {n : Nat} {Q : D → Nat → Prop} {X : XD} {a : D} {k : Option Int} {c : Int} (e : a = kD k) (h : Q (.bl (atMost k c)) n) : dAtMost pn a (.int c) n Q X := by
  unfold dAtMost
  exact ⟨k, c, e, rfl, h⟩
@[irreducible] def dWay : R2' := fun _ a b n Q _ => ∃ (ns : List Str) (wy : List (Int × Nat)) (o : Nat) (c : Int), a = liD ns true (.case wy o) ∧ b = .int c ∧ wy.length ≤ 1000 ∧ Q (.str (wAt ns (wayOf wy o c))) n
theorem ok_way (T : Tx w K mg) : FnOk P w K mg base CX0 1 T.f_way T.d_way ["line", "cell"] (Da.upSp K (sp2 dWay)) := by
  refine T.F_way.ok sc_way (fun vs H Q E h => Da.up_len2 h) (fun cdv A outer s H vs Q E hr h => ?_)
  refine ⟨_, (pss_cons (ps_for PassesOwn.never rfl (Da.seqK (K := K) rfl (pe_ix (Da.ixK (K := K) rfl) (pv 0) pe_int (fun _ _ => rfl))) (Da.gtupK (n := 2) (K := K) rfl (by rfl) (pgs_cons (pg_name (i := 2) sc_way.nd rfl (Or.inl rfl)) (pgs_cons (pg_name (i := 3) sc_way.nd rfl (Or.inl rfl)) pgs_nil)))
        (pss_one (ps_if (pt_cmpR (Da.eqK (K := K) rfl hr.units) (pv 2) (pv 1) (nomark _))
          (pss_one (ps_ret (pv 3)))
          pss_nil)))
      (pss_one (ps_ret (pe_ix (Da.ixK (K := K) rfl) (pv 0) pe_int (fun _ _ => rfl))))), Da.go_up2 h ?_⟩
  intro pn a b n Q _ h
  unfold dWay at h
  obtain ⟨ns, wy, o, c, rfl, rfl, hl, h⟩ := h
  have en : (Src.seq (wy.map (wayD ns))).n = wy.length := List.length_map _
  rw [liD_case]
  walk_at "w"
  refine for_inv (fun i Γ s => ∃ u2 u3 : Option D, Γ = [some (.tup [.str "case", .tup (wy.map (wayD ns)), .str (wAt ns o)]), some (.int c), u2, u3] ∧ s = st0 n pn ∧ wayOf wy o c = wayOf (wy.drop i) o c) ⟨_, _, rfl, rfl, rfl⟩ ?_ ?_
  · rintro i d _ _ hi hd ⟨u2, u3, rfl, rfl, he⟩
    have hd := seq_at hd
    rw [List.getElem?_map] at hd
    obtain ⟨r, hr, rfl⟩ := Option.map_eq_some_iff.mp hd
    have hdr : wy.drop i = r :: wy.drop (i + 1) := by
      obtain ⟨h1, h2⟩ := List.getElem?_eq_some_iff.mp hr
      rw [List.drop_eq_getElem_cons h1, h2]
    rw [hdr, way_cons] at he
    unfold wayD
    walk_at "w"
    refine .dec (fun h0 => ?_) (fun h0 => ?_)
    · rw [if_pos h0] at he
      walk_at "w"
      rw [← he]
      exact h
    · rw [if_neg h0] at he
      walk_at "w"
      exact ⟨_, _, rfl, rfl, he⟩
  · rintro _ _ ⟨u2, u3, rfl, rfl, he⟩
    rw [en, List.drop_length] at he
    walk_at "w"
    have e0 : wayOf [] o c = o := rfl
    rw [he, e0] at h
    exact h
theorem i_way {pn : Option (Addr × Addr)} {n : Nat} {Q : D → Nat → Prop} {X : XD} {ns : List Str} {wy : List (Int × Nat)} {o : Nat} {c : Int} (hl : wy.length ≤ 1000) (h : Q (.str (wAt ns (wayOf wy o c))) n) : dWay pn (liD ns true (.case wy o)) (.int c) n Q X := by
  unfold dWay
  exact ⟨ns, wy, o, c, rfl, rfl, hl, h⟩
end
end Lw

namespace Lw
open PySem L2
open Evl Da
local macro_rules
  | `(tactic| walk_at "f") => `(tactic| first | exact lookF_put | exact lookF_hit | exact (lookF_skip (by decide +kernel) lookF_hit) | exact (lookF_skip (by decide +kernel) (lookF_skip (by decide +kernel) lookF_hit)) | exact (lookF_skip (by decide +kernel) (lookF_skip (by decide +kernel) (lookF_skip (by decide +kernel) lookF_hit))) | exact (lookF_skip (by decide +kernel) (lookF_skip (by decide +kernel) (lookF_skip (by decide +kernel) (lookF_skip (by decide +kernel) lookF_hit)))) | exact (lookF_skip (by decide +kernel) (lookF_skip (by decide +kernel) (lookF_skip (by decide +kernel) (lookF_skip (by decide +kernel) (lookF_skip (by decide +kernel) lookF_hit))))) | exact (lookF_skip (by decide +kernel) (lookF_skip (by decide +kernel) (lookF_skip (by decide +kernel) (lookF_skip (by decide +kernel) (lookF_skip (by decide +kernel) (lookF_skip (by decide +kernel) lookF_hit)))))) | ((refine lookF_other (by decide +kernel) ?_); walk_at "f") | ((refine lookF_skip (by decide +kernel) ?_); walk_at "f"))
  | `(tactic| walk_at "fl") => `(tactic| first | exact Nat.zero_lt_succ _ | ((refine putFD_lt ?_); walk_at "fl"))
  | `(tactic| walk_at "a") => `(tactic| first | exact le1000 (Nat.le_of_ble_eq_true rfl) | exact rfl | decide +kernel | exact And.intro (by with_reducible assumption) (by with_reducible assumption) | exact And.intro (And.intro (by with_reducible assumption) (by with_reducible assumption)) (by walk_at "fl"))
  | `(tactic| walk_at "w") => `(tactic| ((conv => whnf); repeat ((first | ((with_reducible refine And.intro ?_ ?_); (focus (walk_at "a"))) | ((with_reducible refine Br.yes ?_ ?_); (focus (first | exact rfl | decide +kernel))) | ((with_reducible refine Br.no ?_ ?_); (focus (first | exact rfl | decide +kernel))) | ((with_reducible refine ex_fld ?_); (refine fld_w (by walk_at "f") ?_)) | ((with_reducible refine ex_at ?_); (refine at_w rfl ?_))); (conv => whnf))))
  | `(tactic| walk_at "n") => `(tactic| ((try dsimp only [st0, st1, S.at, S.drop, S.own, S.put, S.frz, Src.n] at *); omega))
  | `(tactic| walk_at "draw") => `(tactic| ((try walk_at "w"); (refine i_draw ⟨by walk_at "n", by walk_at "n", by walk_at "n"⟩ ?_)))
theorem hop_rest {c : Int} {o i : Nat} {k : Option Int} : hop (.num "rest" c o) i k = .stop (some ⟨i, k, 1⟩) := by
  simp only [hop]
  rw [if_neg (by decide +kernel), if_neg (by decide +kernel), if_neg (by decide +kernel)]
theorem hop_cap {c : Int} {o i : Nat} {k : Option Int} : hop (.num "cap" c o) i k = .stop (some ⟨i, k, 1⟩) := by
  simp only [hop]
  rw [if_neg (by decide +kernel), if_neg (by decide +kernel), if_neg (by decide +kernel)]
theorem hop_jump {c : Int} {o i : Nat} {k : Option Int} : hop (.num "jump" c o) i k = .stop (some ⟨i, k, c.toNat⟩) := by
  simp only [hop]
  rw [if_neg (by decide +kernel), if_neg (by decide +kernel), if_pos trivial]
theorem hop_set {c : Int} {o i : Nat} {k : Option Int} : hop (.num "set" c o) i k = .go o (some c) false := by
  simp only [hop]
  rw [if_neg (by decide +kernel), if_pos trivial]
theorem hop_skip {c : Int} {o i : Nat} {k : Option Int} : hop (.num "skip" c o) i k = match k with | none => .stop none | some v => if v + c < 0 then .stop none else if v + c = 0 then .go o none false else .stop (some ⟨i, none, (v + c).toNat⟩) := by
  cases k <;> (simp only [hop]; rw [if_pos trivial])
theorem hop_cut {i : Nat} {k : Option Int} : hop (.fin "cut") i k = .go 0 none true := by
  simp only [hop]
  rw [if_pos trivial]
theorem hop_refuse {i : Nat} {k : Option Int} : hop (.fin "refuse") i k = .stop none := by
  simp only [hop]
  rw [if_neg (by decide +kernel)]
theorem sdD_nat {ns : List Str} {i : Nat} {k : Option Int} {c : Int} (h : 0 ≤ c) : sdD ns ⟨i, k, c.toNat⟩ = .tup [.str (wAt ns i), kD k, .int c] := by
  unfold sdD
  rw [show (((⟨i, k, c.toNat⟩ : Sd).left : Nat) : Int) = c from Int.toNat_of_nonneg h]
theorem num_five {P : Str → Prop} {w : Str} {c : Int} (h : NumOk w c) (h1 : 2 ≤ c → P "rest") (h2 : 0 ≤ c → P "cap") (h3 : 1 ≤ c → P "jump") (h4 : P "set") (h5 : P "skip") : P w := by
  rcases h with ⟨rfl, h, _⟩ | ⟨rfl, h, _⟩ | ⟨rfl, h, _⟩ | ⟨rfl, h, _⟩ | ⟨rfl, h, _⟩
  · exact h1 h
  · exact h2 h
  · exact h3 h
  · exact h4
  · exact h5
theorem trip_stop {ls : List Li} {m i : Nat} {k : Option Int} {r : Option Sd × Bool} {li : Li} {o : Option Sd} (t : Trip ls m i k r) (hl : ls[i]? = some li) (hh : hop li i k = .stop o) : r = (o, false) := by
  cases t with
  | stop g1 g2 =>
    rw [hl] at g1
    cases g1
    rw [hh] at g2
    cases g2
    rfl
  | go g1 g2 _ =>
    rw [hl] at g1
    cases g1
    rw [hh] at g2
    cases g2
theorem trip_go {ls : List Li} {m i : Nat} {k : Option Int} {r : Option Sd × Bool} {li : Li} {j : Nat} {k' : Option Int} {c : Bool} (t : Trip ls m i k r) (hl : ls[i]? = some li) (hh : hop li i k = .go j k' c) : ∃ m' r', m = m' + 1 ∧ r = (r'.1, r'.2 || c) ∧ Trip ls m' j k' r' := by
  cases t with
  | stop g1 g2 =>
    rw [hl] at g1
    cases g1
    rw [hh] at g2
    cases g2
  | go g1 g2 g3 =>
    rw [hl] at g1
    cases g1
    rw [hh] at g2
    cases g2
    exact ⟨_, _, rfl, rfl, g3⟩
section
variable {P : Program} {w : World} {K : PySem.W.Frag} {mg : Str → Option Value} {base : Heap}
@[irreducible] def dCome (C : Addr) : R3 := fun _ a b c n Q _ => ∃ (ns ws : List Str) (ls : List Li) (rest : List (Str × D)) (i : Nat) (k : Option Int), a = .obj C (macF ns ls rest) ∧ b = .str (wAt ns i) ∧ c = kD k ∧ Drawn ns ws ls ∧ i < ws.length ∧ Q (outD ns (come ls 30 i k)) n
theorem ok_Machine_come (T : Tx w K mg) : FnOk P w K mg base CX0 2 T.f_Machine_come T.d_Machine_come ["self", "name", "kept"] (Da.upSp K (sp3 (dCome T.c_Machine))) := by
  refine T.F_Machine_come.ok sc_Machine_come (fun vs H Q E h => Da.up_len3 h) (fun cdv A outer s H vs Q E hr h => ?_)
  refine ⟨_, (pss_cons (ps_set (i := 3) sc_Machine_come.nd rfl (Or.inl rfl) pe_non)
      (pss_cons (ps_set (i := 4) sc_Machine_come.nd rfl (Or.inl rfl) (pe_dget (hu_of hr) (Da.fldK (K := K) rfl (pv 0) rfl) (pv 1) (fun _ _ => rfl)))
      (pss_cons (ps_while PassesOwn.never (pt_cmpR (Da.ninK (K := K) rfl (Da.u65 hr)) (pe_ix (Da.ixK (K := K) rfl) (pv 4) pe_int (fun _ _ => rfl)) (Da.gK (K := K) rfl T.q_READING (pe_glob (v := .ref T.a_READING) rfl T.m_READING rfl)) (by rfl))
        (pss_cons (ps_set (i := 5) sc_Machine_come.nd rfl (Or.inl rfl) (pe_ix (Da.ixK (K := K) rfl) (pv 4) pe_int (fun _ _ => rfl)))
        (pss_cons (ps_if (pt_cmpR (Da.eqK (K := K) rfl hr.units) (pv 5) pe_str (nomark _))
          (pss_one (ps_ret (pe_tup (pa_cons pe_non (pa_cons (pe_glob (v := .str "refuse") rfl T.m_REFUSE ⟨_, rfl⟩) pa_nil)))))
          pss_nil)
        (pss_cons (ps_if (pt_cmpR (Da.eqK (K := K) rfl hr.units) (pv 5) pe_str (nomark _))
          (pss_cons (ps_set (i := 6) sc_Machine_come.nd rfl (Or.inl rfl) (pe_call (ok_length T) (hr.mono (by decide)) rfl T.m_length T.F_length.kp T.b_length .nil pass0 (pa_cons (pv 2) (pa_cons (pe_ix (Da.ixK (K := K) rfl) (pv 4) pe_int (fun _ _ => rfl)) pa_nil))))
          (pss_cons (ps_if (pt_cmpR op_isN (pv 6) pe_non (nomark _))
            (pss_one (ps_ret (pe_tup (pa_cons pe_non (pa_cons (pe_glob (v := .str "refuse") rfl T.m_REFUSE ⟨_, rfl⟩) pa_nil)))))
            pss_nil)
          (pss_cons (ps_if (pt_cmpR (Da.neK (K := K) rfl hr.units) (pv 6) pe_int (nomark _))
            (pss_one (ps_ret (pe_tup (pa_cons (pe_tup (pa_cons (pv 1) (pa_cons pe_non (pa_cons (pv 6) pa_nil)))) (pa_cons (pv 3) pa_nil)))))
            pss_nil)
          (pss_one (ps_par (i := 1) (j := 2) rfl sc_Machine_come.nd rfl rfl (by decide) rfl rfl (pa_cons (pe_ix (Da.ixK (K := K) rfl) (pv 4) pe_int (fun _ _ => rfl)) (pa_cons pe_non pa_nil)) (by rfl))))))
          (pss_one (ps_if (pt_cmpR (Da.eqK (K := K) rfl hr.units) (pv 5) pe_str (nomark _))
            (pss_cons (ps_set (i := 3) sc_Machine_come.nd rfl (Or.inl rfl) (pe_glob (v := .str "cut") rfl T.m_CUT ⟨_, rfl⟩))
            (pss_one (ps_par (i := 1) (j := 2) rfl sc_Machine_come.nd rfl rfl (by decide) rfl rfl (pa_cons (Da.fldK (K := K) rfl (pv 0) rfl) (pa_cons pe_non pa_nil)) (by rfl))))
            (pss_one (ps_if (pt_cmpR (Da.eqK (K := K) rfl hr.units) (pv 5) pe_str (nomark _))
              (pss_one (ps_par (i := 1) (j := 2) rfl sc_Machine_come.nd rfl rfl (by decide) rfl rfl (pa_cons (pe_ix (Da.ixK (K := K) rfl) (pv 4) pe_int (fun _ _ => rfl)) (pa_cons (pe_ix (Da.ixK (K := K) rfl) (pv 4) pe_int (fun _ _ => rfl)) pa_nil)) (by rfl)))
              (pss_one (ps_set (i := 1) sc_Machine_come.nd rfl (Or.inl rfl) (pe_ifExp (pt_val (pe_call (ok_is_at_most T) (hr.mono (by decide)) rfl T.m_is_at_most T.F_is_at_most.kp T.b_is_at_most .nil pass0 (pa_cons (pv 2) (pa_cons (pe_ix (Da.ixK (K := K) rfl) (pv 4) pe_int (fun _ _ => rfl)) pa_nil)))) (pe_ix (Da.ixK (K := K) rfl) (pv 4) pe_int (fun _ _ => rfl)) (pe_ix (Da.ixK (K := K) rfl) (pv 4) pe_int (fun _ _ => rfl))))))))))
        (pss_one (ps_set (i := 4) sc_Machine_come.nd rfl (Or.inl rfl) (pe_dget (hu_of hr) (Da.fldK (K := K) rfl (pv 0) rfl) (pv 1) (fun _ _ => rfl))))))))
      (pss_one (ps_ret (pe_tup (pa_cons (pe_tup (pa_cons (pv 1) (pa_cons (pv 2) (pa_cons (pe_ifExp (pt_cmpR (Da.eqK (K := K) rfl hr.units) (pe_ix (Da.ixK (K := K) rfl) (pv 4) pe_int (fun _ _ => rfl)) pe_str (nomark _)) (pe_ix (Da.ixK (K := K) rfl) (pv 4) pe_int (fun _ _ => rfl)) pe_int) pa_nil)))) (pa_cons (pv 3) pa_nil)))))))), Da.go_up3 h ?_⟩
  intro pn a b c n Q _ h
  unfold dCome at h
  obtain ⟨ns, ws, ls, rest, i, kp, rfl, rfl, rfl, dr, hi, h⟩ := h
  have c1 := T.cl_Machine
  have c2 := T.n_Machine_lines
  have c3 := T.n_Machine_first
  obtain ⟨tr1, tr2, tr⟩ := trip10 dr kp hi
  have at_ : ∀ {i : Nat}, i < ws.length → ∃ li, ls[i]? = some li := fun hi => ⟨_, List.getElem?_eq_getElem (by rw [dr.lenL]; exact hi)⟩
  obtain ⟨li, hli⟩ := at_ hi
  walk_at "w"
  refine ⟨_, linesK_look dr hli, ?_⟩
  walk_at "w"
  generalize come ls 30 i kp = r at tr tr1 tr2 h
  refine while_inv (fun m Γ s => ∃ (i : Nat) (li : Li) (kp : Option Int) (b : Bool) (u5 u6 : Option D) (r0 : Option Sd × Bool), Γ = [some (.obj T.c_Machine (macF ns ls rest)), some (.str (wAt ns i)), some (kD kp), some (evD b), some (liD ns true li), u5, u6] ∧ s = st0 n pn ∧ ls[i]? = some li ∧ i < ws.length ∧ Trip ls m i kp r0 ∧ (r0.1, r0.2 || b) = r) 10 ⟨i, li, kp, false, _, _, r, rfl, rfl, hli, hi, tr, by rw [Bool.or_false]⟩ ?_
  rintro m _ _ ⟨i, li, kp, b, u5, u6, r0, rfl, rfl, hli, hi, tr, er⟩
  have hok := dr.ok i li hli
  obtain ⟨ds, eds⟩ := liD_tup ns true li
  rw [eds]
  walk_at "w"
  refine ⟨_, word_at hok eds, ?_⟩
  walk_at "w"
  refine ⟨⟨ok_at dr hi, str_plain (ws := rdL) rd_ok⟩, ?_⟩
  walk_at "w"
  refine .ndec (fun hk => ?_) (fun hk => ?_)
  · have hq : ¬ Lk (wAt ws i) := fun z => hk (rd_in.mpr z)
    have lk : ∀ x ∈ (["take", "case", "rest", "cap", "jump"] : List Str), wAt ws i = x → False := fun x hx e => hq (by rw [e]; exact hx)
    refine ⟨_, (fun _ _ h => h), ?_⟩
    cases li with
    | take o => exact (lk "take" (by decide +kernel) hok.1).elim
    | case wy o => exact (lk "case" (by decide +kernel) hok.1).elim
    | upto c x y =>
      cases eds
      have fin : ∀ (j : Nat) (kp' : Option Int), hop (.upto c x y) i kp = .go j kp' false → kp' = kp → ∃ lj m', ls[j]? = some lj ∧ m' < m ∧ j < ws.length ∧ ∃ r1, Trip ls m' j kp r1 ∧ (r1.1, r1.2 || b) = r := fun j kp' e ek => by
        subst ek
        obtain ⟨m', r', rfl, rfl, t'⟩ := trip_go tr hli e
        have hj : j < ws.length := by
          rcases hop_go dr hli e with ⟨z, _⟩ | ⟨_, _, z, _⟩
          · cases z
          · exact z
        obtain ⟨lj, hlj⟩ := at_ hj
        exact ⟨lj, m', hlj, by omega, hj, r', t', by rw [← er, Bool.or_false]⟩
      cases kp with
      | none =>
        obtain ⟨lj, m', hlj, hm, hj, r1, t1, e1⟩ := fin y none rfl rfl
        rw [kD_none]
        walk_at "w"
        refine i_at_most (k := none) rfl ?_
        walk_at "w"
        refine ⟨_, linesK_look dr hlj, ?_⟩
        walk_at "w"
        exact ⟨m', hm, y, lj, none, b, _, _, r1, rfl, rfl, hlj, hj, t1, e1⟩
      | some v =>
        rw [kD_some]
        walk_at "w"
        refine i_at_most (k := some v) rfl ?_
        walk_at "w"
        refine .dec (fun hv => ?_) (fun hv => ?_)
        · obtain ⟨lj, m', hlj, hm, hj, r1, t1, e1⟩ := fin x (some v) (by simp only [hop]; rw [if_pos hv]) rfl
          walk_at "w"
          refine ⟨_, linesK_look dr hlj, ?_⟩
          walk_at "w"
          exact ⟨m', hm, x, lj, some v, b, _, _, r1, rfl, rfl, hlj, hj, t1, e1⟩
        · obtain ⟨lj, m', hlj, hm, hj, r1, t1, e1⟩ := fin y (some v) (by simp only [hop]; rw [if_neg hv]) rfl
          walk_at "w"
          refine ⟨_, linesK_look dr hlj, ?_⟩
          walk_at "w"
          exact ⟨m', hm, y, lj, some v, b, _, _, r1, rfl, rfl, hlj, hj, t1, e1⟩
    | fin x =>
      cases eds
      rcases hok.2 with rfl | rfl
      · obtain ⟨m', r', rfl, rfl, t'⟩ := trip_go tr hli hop_cut
        obtain ⟨lj, hlj⟩ := at_ dr.pos
        walk_at "w"

        walk_at "w"
        refine ⟨_, linesK_look dr hlj, ?_⟩
        walk_at "w"
        exact ⟨m', by omega, 0, lj, none, true, _, _, r', rfl, rfl, hlj, dr.pos, t', by rw [← er]; simp⟩
      · obtain rfl := trip_stop tr hli hop_refuse
        walk_at "w"
        subst er
        exact h
    | num x c o =>
      cases eds
      obtain ⟨hx, hn, ho⟩ := hok
      rcases hn with ⟨rfl, _⟩ | ⟨rfl, _⟩ | ⟨rfl, _⟩ | ⟨rfl, _⟩ | ⟨rfl, _⟩
      · exact (lk "rest" (by decide +kernel) hx).elim
      · exact (lk "cap" (by decide +kernel) hx).elim
      · exact (lk "jump" (by decide +kernel) hx).elim
      · obtain ⟨m', r', rfl, rfl, t'⟩ := trip_go tr hli hop_set
        obtain ⟨lj, hlj⟩ := at_ ho.1
        walk_at "w"
        refine ⟨_, linesK_look dr hlj, ?_⟩
        walk_at "w"
        exact ⟨m', by omega, o, lj, some c, b, _, _, r', rfl, rfl, hlj, ho.1, t', by rw [← er, Bool.or_false]⟩
      · cases kp with
        | none =>
          obtain rfl := trip_stop tr hli hop_skip
          rw [kD_none]
          walk_at "w"
          refine i_length (k := none) rfl ?_
          walk_at "w"
          subst er
          exact h
        | some v =>
          rw [kD_some]
          walk_at "w"
          refine i_length (k := some v) rfl ?_
          by_cases l0 : v + c < 0
          · obtain rfl := trip_stop (o := none) tr hli (by rw [hop_skip]; exact if_pos l0)
            rw [len_neg l0, kD_none]
            walk_at "w"
            subst er
            exact h
          · rw [len_pos l0, kD_some]
            walk_at "w"
            by_cases l1 : v + c = 0
            · obtain ⟨m', r', rfl, rfl, t'⟩ := trip_go (j := o) (k' := none) (c := false) tr hli (by rw [hop_skip]; exact (if_neg l0).trans (if_pos l1))
              obtain ⟨lj, hlj⟩ := at_ ho.1
              refine .nn l1 ?_
              walk_at "w"
              refine ⟨_, linesK_look dr hlj, ?_⟩
              walk_at "w"
              exact ⟨m', by omega, o, lj, none, b, _, _, r', rfl, rfl, hlj, ho.1, t', by rw [← er, Bool.or_false]⟩
            · obtain rfl := trip_stop (o := some ⟨i, none, (v + c).toNat⟩) tr hli (by rw [hop_skip]; exact (if_neg l0).trans (if_neg l1))
              refine .ny l1 ?_
              subst er
              have h : Q (.tup [sdD ns ⟨i, none, (v + c).toNat⟩, evD b]) n := h
              rw [sdD_nat (by omega)] at h
              cases b <;> (walk_at "w"; exact h)
  · have hq : Lk (wAt ws i) := rd_in.mp hk
    cases li with
    | take o =>
      cases eds
      obtain rfl := trip_stop (o := some ⟨i, kp, 1⟩) tr hli rfl
      subst er
      cases kp <;> cases b <;> (walk_at "w"; exact h)
    | case wy o =>
      cases eds
      obtain rfl := trip_stop (o := some ⟨i, kp, 1⟩) tr hli rfl
      subst er
      cases kp <;> cases b <;> (walk_at "w"; exact h)
    | upto c x y =>
      exact absurd hq (by rw [hok.1]; decide +kernel)
    | fin x =>
      exact absurd hq (by rw [hok.1]; rcases hok.2 with rfl | rfl <;> decide +kernel)
    | num x c o =>
      cases eds
      obtain ⟨hx, hn, ho⟩ := hok
      rcases hn with ⟨rfl, _⟩ | ⟨rfl, _⟩ | ⟨rfl, hc, _⟩ | ⟨rfl, _⟩ | ⟨rfl, _⟩
      · obtain rfl := trip_stop tr hli hop_rest
        subst er
        cases kp <;> cases b <;> (walk_at "w"; exact h)
      · obtain rfl := trip_stop tr hli hop_cap
        subst er
        cases kp <;> cases b <;> (walk_at "w"; exact h)
      · obtain rfl := trip_stop tr hli hop_jump
        subst er
        have h : Q (.tup [sdD ns ⟨i, kp, c.toNat⟩, evD b]) n := h
        rw [sdD_nat (by omega)] at h
        cases kp <;> cases b <;> (walk_at "w"; exact h)
      · exact absurd hq (by rw [hx]; decide +kernel)
      · exact absurd hq (by rw [hx]; decide +kernel)
theorem i_come {pn : Option (Addr × Addr)} {n : Nat} {Q : D → Nat → Prop} {X : XD} {C : Addr} {ns ws : List Str} {ls : List Li} {rest : List (Str × D)} {i : Nat} {k : Option Int} {c : D} (dr : Drawn ns ws ls) (hi : i < ws.length) (e : c = kD k) (h : Q (outD ns (come ls 30 i k)) n) : dCome C pn (.obj C (macF ns ls rest)) (.str (wAt ns i)) c n Q X := by
  unfold dCome
  exact ⟨ns, ws, ls, rest, i, k, rfl, rfl, e, dr, hi, h⟩
end
end Lw

namespace Lw
open PySem L2
open Evl Da
local macro_rules
  | `(tactic| walk_at "f") => `(tactic| first | exact lookF_put | exact lookF_hit | exact (lookF_skip (by decide +kernel) lookF_hit) | exact (lookF_skip (by decide +kernel) (lookF_skip (by decide +kernel) lookF_hit)) | exact (lookF_skip (by decide +kernel) (lookF_skip (by decide +kernel) (lookF_skip (by decide +kernel) lookF_hit))) | exact (lookF_skip (by decide +kernel) (lookF_skip (by decide +kernel) (lookF_skip (by decide +kernel) (lookF_skip (by decide +kernel) lookF_hit)))) | exact (lookF_skip (by decide +kernel) (lookF_skip (by decide +kernel) (lookF_skip (by decide +kernel) (lookF_skip (by decide +kernel) (lookF_skip (by decide +kernel) lookF_hit))))) | exact (lookF_skip (by decide +kernel) (lookF_skip (by decide +kernel) (lookF_skip (by decide +kernel) (lookF_skip (by decide +kernel) (lookF_skip (by decide +kernel) (lookF_skip (by decide +kernel) lookF_hit)))))) | ((refine lookF_other (by decide +kernel) ?_); walk_at "f") | ((refine lookF_skip (by decide +kernel) ?_); walk_at "f"))
  | `(tactic| walk_at "fl") => `(tactic| first | exact Nat.zero_lt_succ _ | ((refine putFD_lt ?_); walk_at "fl"))
  | `(tactic| walk_at "a") => `(tactic| first | exact le1000 (Nat.le_of_ble_eq_true rfl) | exact rfl | decide +kernel | exact And.intro (by with_reducible assumption) (by with_reducible assumption) | exact And.intro (And.intro (by with_reducible assumption) (by with_reducible assumption)) (by walk_at "fl"))
  | `(tactic| walk_at "w") => `(tactic| ((conv => whnf); repeat ((first | ((with_reducible refine And.intro ?_ ?_); (focus (walk_at "a"))) | ((with_reducible refine Br.yes ?_ ?_); (focus (first | exact rfl | decide +kernel))) | ((with_reducible refine Br.no ?_ ?_); (focus (first | exact rfl | decide +kernel))) | ((with_reducible refine ex_fld ?_); (refine fld_w (by walk_at "f") ?_)) | ((with_reducible refine ex_at ?_); (refine at_w rfl ?_))); (conv => whnf))))
  | `(tactic| walk_at "n") => `(tactic| ((try dsimp only [st0, st1, S.at, S.drop, S.own, S.put, S.frz, Src.n] at *); omega))
  | `(tactic| walk_at "draw") => `(tactic| ((try walk_at "w"); (refine i_draw ⟨by walk_at "n", by walk_at "n", by walk_at "n"⟩ ?_)))
theorem pu_k {k : Option Int} : Pu (kD k) := by
  cases k
  · exact .non
  · exact .int
theorem pu_sd {ns : List Str} {s : Sd} : Pu (sdD ns s) := .tup fun d hd => by
  rcases List.mem_cons.mp hd with rfl | hd
  · exact .str
  rcases List.mem_cons.mp hd with rfl | hd
  · exact pu_k
  rcases List.mem_cons.mp hd with rfl | hd
  · exact .int
  · exact nomatch hd
theorem pu_out {ns : List Str} {o : Option Sd × Bool} : Pu (outD ns o) := by
  obtain ⟨o, b⟩ := o
  cases o with
  | none =>
    refine .tup fun d hd => ?_
    rcases List.mem_cons.mp hd with rfl | hd
    · exact .non
    rcases List.mem_cons.mp hd with rfl | hd
    · exact .str
    · exact nomatch hd
  | some s =>
    refine .tup fun d hd => ?_
    rcases List.mem_cons.mp hd with rfl | hd
    · exact pu_sd
    rcases List.mem_cons.mp hd with rfl | hd
    · cases b
      · exact .non
      · exact .str
    · exact nomatch hd
theorem lookF_no {f g : Str} {d : D} {fs : List (Str × D)} (n : f ≠ g) (h : lookF fs g = none) : lookF ((f, d) :: fs) g = none := by
  unfold lookF
  rw [decide_eq_false n]
  exact h
theorem put2 {a b : D} : putFD "first" b (putFD "lines" a []) = ([("lines", a), ("first", b)] : List (Str × D)) := by rw [putFD_nil, putFD_skip (by decide +kernel), putFD_nil]
theorem put3 {a b c : D} : putFD "begin" c [("lines", a), ("first", b)] = ([("lines", a), ("first", b), ("begin", c)] : List (Str × D)) := by rw [putFD_skip (by decide +kernel), putFD_skip (by decide +kernel), putFD_nil]
def rdD (C : Addr) (ns : List Str) (ls : List Li) : D := .obj C [("lines", .tup (linesD ns ls true))]
def macD (C : Addr) (ns : List Str) (ls : List Li) : D := .obj C (macF ns ls [("begin", sdD ns (begS ls))])
section
variable {P : Program} {w : World} {K : PySem.W.Frag} {mg : Str → Option Value} {base : Heap}
@[irreducible] def dMachI (R : Addr) : I1 := fun _ a n Q _ => ∃ (ns ws : List Str) (ls : List Li), a = rdD R ns ls ∧ Drawn ns ws ls ∧ Q (macF ns ls [("begin", sdD ns (begS ls))]) n
theorem ok_Machine___init (T : Tx w K mg) : FnOk P w K mg base CX0 4 T.f_Machine___init T.d_Machine___init ["self", "reader"] (Da.upIn K T.c_Machine (di1 (dMachI T.c_Reader))) := by
  refine T.F_Machine___init.ok sc_Machine___init (fun vs H Q E h => Da.in_len1 h) (fun cdv A outer s H vs Q E hr h => ?_)
  refine ⟨_, (pss_cons (Da.setfK (K := K) rfl (pv 0) (pe_dc (g := gTup K 2 (gCons (gName 2) (gCons (gName 3) gNil))) rfl sc_Machine___init.nd (Da.seqK (K := K) rfl (Da.fldK (K := K) rfl (pv 1) rfl)) (blkOk_by (own := [("name", 2), ("line", 3)]) (N := ["self", "reader", "name", "line"]) (sc := defScope s_Machine___init) (by decide +kernel)) (fun _ _ _ _ _ => (Da.gtupK (n := 2) (K := K) rfl (by rfl) (pgs_cons (pg_name (i := 2) sc_Machine___init.nd rfl (Or.inl rfl)) (pgs_cons (pg_name (i := 3) sc_Machine___init.nd rfl (Or.inl rfl)) pgs_nil)))) (fun _ _ _ _ _ => pts_nil) (fun _ _ _ _ _ => (pv 2)) (fun _ _ _ _ _ => (pv 3))) rfl)
      (pss_cons (Da.setfK (K := K) rfl (pv 0) (pe_ix (Da.ixK (K := K) rfl) (pe_ix (Da.ixK (K := K) rfl) (Da.fldK (K := K) rfl (pv 1) rfl) pe_int (fun _ _ => rfl)) pe_int (fun _ _ => rfl)) rfl)
      (pss_one (Da.setfK (K := K) rfl (pv 0) (pe_ix (Da.ixK (K := K) rfl) (Da.pe_lend (pe_meth (pv 0) T.cl_Machine T.h_Machine_come (ok_Machine_come T) (hr.mono (by decide)) T.b_Machine_come .nil pass0 (pa_cons (Da.fldK (K := K) rfl (pv 0) rfl) (pa_cons pe_non pa_nil)))) pe_int (fun _ _ => rfl)) rfl)))), Da.go_in1 h ?_⟩
  intro x pn a n Q _ h
  unfold dMachI at h
  obtain ⟨ns, ws, ls, rfl, dr, h⟩ := h
  have c1 := T.cl_Machine
  have c2 := T.n_Machine_lines
  have c3 := T.n_Machine_first
  have c4 := T.n_Machine_begin
  have c5 := T.cl_Reader
  have c6 := T.n_Reader_lines
  have hl2 := dr.lenL
  have h8 := dr.most
  have en : (Src.seq (linesD ns ls true)).n = ls.length := linesD_len
  unfold rdD
  walk_at "w"
  refine dc_inv (fun i acc s => acc = linesK ns (ls.take i) ∧ s = st1 x T.c_Machine [] n pn) (le1000 (by rw [en]; omega)) ⟨rfl, rfl⟩ ?_ ?_
  · rintro i d acc _ hi hd hl ⟨rfl, rfl⟩
    obtain ⟨li, ds, hli, eds, rfl⟩ := ls_at (seq_at hd)
    have hi2 := (List.getElem?_eq_some_iff.mp hli).1
    walk_at "w"
    refine ⟨?_, rfl⟩
    have ht : (ls.take i).length = i := by rw [List.length_take]; omega
    rw [take_more hli, linesK_app, ht, ← eds]
    refine putKE_new fun z => ?_
    unfold linesK at z
    rw [List.map_map] at z
    obtain ⟨y, hy, e⟩ := List.mem_map.mp z
    obtain ⟨j, hj⟩ := List.getElem?_of_mem hy
    have hj1 := (List.getElem?_eq_some_iff.mp hj).1
    rw [numbered_len, ht] at hj1
    have hj2 := numbered_at (ls := ls.take i) (List.getElem?_eq_getElem (by rw [ht]; exact hj1))
    rw [hj] at hj2
    obtain rfl := Option.some.inj hj2
    have e : (Sum.inr (wAt ns j) : Key) = Sum.inr (wAt ns i) := e
    injection e with e
    have := wAt_inj dr.nd (by have := dr.len; omega) (by have := dr.len; omega) e
    omega
  · rintro acc _ hl ⟨rfl, rfl⟩
    rw [en, List.take_length]
    obtain ⟨l0, d0, g1, g2, g3⟩ := ls_head dr true
    walk_at "w"
    refine ⟨_, atI_nat (j := 0) g3, ?_⟩
    walk_at "w"
    refine ⟨⟨rfl, by rw [put2]; exact lookF_no (by decide +kernel) (lookF_no (by decide +kernel) rfl)⟩, ?_⟩
    walk_at "w"
    rw [put2]
    refine i_come (k := none) (rest := []) dr dr.pos rfl ?_
    refine ⟨pu_out, ?_⟩
    rw [(come_first dr).1]
    unfold outD
    walk_at "w"
    refine ⟨⟨⟨c1, c4⟩, (by show 2 < 1000; decide)⟩, ?_⟩
    rw [put3]
    walk_at "w"
    exact h
theorem i_machI {pn : Option (Addr × Addr)} {n : Nat} {Q : QF} {X : XD} {R : Addr} {ns ws : List Str} {ls : List Li} (dr : Drawn ns ws ls) (h : Q (macF ns ls [("begin", sdD ns (begS ls))]) n) : dMachI R pn (rdD R ns ls) n Q X := by
  unfold dMachI
  exact ⟨ns, ws, ls, rfl, dr, h⟩
end
end Lw

namespace Lw
open PySem L2
open Evl Da
local macro_rules
  | `(tactic| walk_at "f") => `(tactic| first | exact lookF_put | exact lookF_hit | exact (lookF_skip (by decide +kernel) lookF_hit) | exact (lookF_skip (by decide +kernel) (lookF_skip (by decide +kernel) lookF_hit)) | exact (lookF_skip (by decide +kernel) (lookF_skip (by decide +kernel) (lookF_skip (by decide +kernel) lookF_hit))) | exact (lookF_skip (by decide +kernel) (lookF_skip (by decide +kernel) (lookF_skip (by decide +kernel) (lookF_skip (by decide +kernel) lookF_hit)))) | exact (lookF_skip (by decide +kernel) (lookF_skip (by decide +kernel) (lookF_skip (by decide +kernel) (lookF_skip (by decide +kernel) (lookF_skip (by decide +kernel) lookF_hit))))) | exact (lookF_skip (by decide +kernel) (lookF_skip (by decide +kernel) (lookF_skip (by decide +kernel) (lookF_skip (by decide +kernel) (lookF_skip (by decide +kernel) (lookF_skip (by decide +kernel) lookF_hit)))))) | ((refine lookF_other (by decide +kernel) ?_); walk_at "f") | ((refine lookF_skip (by decide +kernel) ?_); walk_at "f"))
  | `(tactic| walk_at "fl") => `(tactic| first | exact Nat.zero_lt_succ _ | ((refine putFD_lt ?_); walk_at "fl"))
  | `(tactic| walk_at "a") => `(tactic| first | exact le1000 (Nat.le_of_ble_eq_true rfl) | exact rfl | decide +kernel | exact And.intro (by with_reducible assumption) (by with_reducible assumption) | exact And.intro (And.intro (by with_reducible assumption) (by with_reducible assumption)) (by walk_at "fl"))
  | `(tactic| walk_at "w") => `(tactic| ((conv => whnf); repeat ((first | ((with_reducible refine And.intro ?_ ?_); (focus (walk_at "a"))) | ((with_reducible refine Br.yes ?_ ?_); (focus (first | exact rfl | decide +kernel))) | ((with_reducible refine Br.no ?_ ?_); (focus (first | exact rfl | decide +kernel))) | ((with_reducible refine ex_fld ?_); (refine fld_w (by walk_at "f") ?_)) | ((with_reducible refine ex_at ?_); (refine at_w rfl ?_))); (conv => whnf))))
  | `(tactic| walk_at "n") => `(tactic| ((try dsimp only [st0, st1, S.at, S.drop, S.own, S.put, S.frz, Src.n] at *); omega))
  | `(tactic| walk_at "draw") => `(tactic| ((try walk_at "w"); (refine i_draw ⟨by walk_at "n", by walk_at "n", by walk_at "n"⟩ ?_)))
theorem nol_out {ns : List Str} {o : Option Sd × Bool} : NoL (outD ns o) := by
  obtain ⟨o, b⟩ := o
  cases o <;> exact fun a h z => nomatch z
theorem no_begin {a b c : D} {m : Str} (h1 : ("lines" : Str) ≠ m) (h2 : ("first" : Str) ≠ m) (h3 : ("begin" : Str) ≠ m) : lookF [("lines", a), ("first", b), ("begin", c)] m = none := lookF_no h1 (lookF_no h2 (lookF_no h3 rfl))
section
variable {P : Program} {w : World} {K : PySem.W.Frag} {mg : Str → Option Value} {base : Heap}
@[irreducible] def dBehind (C : Addr) : R4 := fun _ a b c d n Q _ => ∃ (ns ws : List Str) (ls : List Li) (s : Sd) (z : Int), a = macD C ns ls ∧ b = sdD ns s ∧ c = .int z ∧ d = .int z ∧ Drawn ns ws ls ∧ SdOk ws s ∧ Q (outD ns (behind ls s z)) n
theorem ok_Machine_behind (T : Tx w K mg) : FnOk P w K mg base CX0 4 T.f_Machine_behind T.d_Machine_behind ["self", "stand", "cell", "taken"] (Da.upSp K (sp4 (dBehind T.c_Machine))) := by
  refine T.F_Machine_behind.ok sc_Machine_behind (fun vs H Q E h => Da.up_len4 h) (fun cdv A outer s H vs Q E hr h => ?_)
  refine ⟨_, (pss_cons (ps_asg (pv 1) (Da.gtupK (n := 3) (K := K) rfl (by rfl) (pgs_cons (pg_name (i := 4) sc_Machine_behind.nd rfl (Or.inl rfl)) (pgs_cons (pg_name (i := 5) sc_Machine_behind.nd rfl (Or.inl rfl)) (pgs_cons (pg_name (i := 6) sc_Machine_behind.nd rfl (Or.inl rfl)) pgs_nil)))))
      (pss_cons (ps_set (i := 7) sc_Machine_behind.nd rfl (Or.inl rfl) (pe_dget (hu_of hr) (Da.fldK (K := K) rfl (pv 0) rfl) (pv 4) (fun _ _ => rfl)))
      (pss_cons (ps_set (i := 8) sc_Machine_behind.nd rfl (Or.inl rfl) (pe_ix (Da.ixK (K := K) rfl) (pv 7) pe_int (fun _ _ => rfl)))
      (pss_cons (ps_if (pt_cmpR (Da.eqK (K := K) rfl hr.units) (pv 8) pe_str (nomark _))
        (pss_one (ps_ret (pe_meth (pv 0) T.cl_Machine T.h_Machine_come (ok_Machine_come T) (hr.mono (by decide)) T.b_Machine_come .nil pass0 (pa_cons (pe_call (ok_way T) (hr.mono (by decide)) rfl T.m_way T.F_way.kp T.b_way .nil pass0 (pa_cons (pv 7) (pa_cons (pv 2) pa_nil))) (pa_cons (pv 5) pa_nil)))))
        pss_nil)
      (pss_cons (ps_if (pt_cmpR (Da.eqK (K := K) rfl hr.units) (pv 8) pe_str (nomark _))
        (pss_one (ps_set (i := 5) sc_Machine_behind.nd rfl (Or.inl rfl) (pv 3)))
        (pss_one (ps_if (pt_cmpR (Da.eqK (K := K) rfl hr.units) (pv 8) pe_str (nomark _))
          (pss_one (ps_set (i := 5) sc_Machine_behind.nd rfl (Or.inl rfl) (pe_op op_modN (pv 2) (pe_ix (Da.ixK (K := K) rfl) (pv 7) pe_int (fun _ _ => rfl)))))
          (pss_one (ps_if (pt_cmpR (Da.eqK (K := K) rfl hr.units) (pv 8) pe_str (nomark _))
            (pss_one (ps_set (i := 5) sc_Machine_behind.nd rfl (Or.inl rfl) (pe_callB (call_min2 rfl) (by rfl) T.z_min (by decide +kernel) (pa_cons (pv 2) (pa_cons (pe_ix (Da.ixK (K := K) rfl) (pv 7) pe_int (fun _ _ => rfl)) pa_nil)))))
            pss_nil)))))
      (pss_one (ps_ret (pe_meth (pv 0) T.cl_Machine T.h_Machine_come (ok_Machine_come T) (hr.mono (by decide)) T.b_Machine_come .nil pass0 (pa_cons (pe_ix (Da.ixK (K := K) rfl) (pv 7) (pe_un un_neg pe_int) (fun _ _ => rfl)) (pa_cons (pv 5) pa_nil)))))))))), Da.go_up4 h ?_⟩
  intro pn a b c d n Q _ h
  unfold dBehind at h
  obtain ⟨ns, ws, ls, s, z, rfl, rfl, rfl, rfl, dr, sk, h⟩ := h
  obtain ⟨i, k, l⟩ := s
  have c1 := T.cl_Machine
  have c2 := T.n_Machine_lines
  have hi : i < ws.length := sk.lt
  obtain ⟨li, hli⟩ : ∃ li, ls[i]? = some li := ⟨_, List.getElem?_eq_getElem (by rw [dr.lenL]; exact hi)⟩
  have hok := dr.ok i li hli
  unfold macD sdD
  walk_at "w"
  refine ⟨_, linesK_look dr hli, ?_⟩
  cases li with
  | case wy o =>
    rw [beh_case hli] at h
    rw [liD_case]
    walk_at "w"
    refine i_way (ns := ns) (wy := wy) (o := o) (by have := hok.2.2.2.1; omega) ?_
    cases k <;> (walk_at "w"; exact i_come dr (way_lt (fun y hy => (hok.2.2.1 y hy).2.2.1) hok.2.2.2.2.1) rfl (escP_of nol_out h))
  | take o =>
    rw [beh_take hli] at h
    walk_at "w"
    exact i_come (k := some z) dr hok.2.1 rfl (escP_of nol_out h)
  | upto c x y =>
    rcases sk.word with hw | ⟨hw, _⟩
    · exact absurd hw (by show ¬ Lk (wAt ws i); rw [hok.1]; decide +kernel)
    · exact absurd (hok.1.symm.trans hw) (by decide +kernel)
  | fin x =>
    rcases sk.word with hw | ⟨hw, _⟩
    · exact absurd hw (by show ¬ Lk (wAt ws i); rw [hok.1]; rcases hok.2 with rfl | rfl <;> decide +kernel)
    · exact absurd (hok.1.symm.trans hw) (by rcases hok.2 with rfl | rfl <;> decide +kernel)
  | num x c o =>
    rw [beh_num hli] at h
    obtain ⟨hx, hn, ho⟩ := hok
    rcases hn with ⟨rfl, hc, _⟩ | ⟨rfl, _⟩ | ⟨rfl, hc, _⟩ | ⟨rfl, _⟩ | ⟨rfl, _⟩
    · rw [if_pos rfl] at h
      walk_at "w"
      refine ⟨(by show c ≠ 0; omega), ?_⟩
      walk_at "w"
      exact i_come (k := some (z % c)) dr ho.1 (by rw [Int.fmod_eq_emod_of_nonneg _ (by omega)]; rfl) (escP_of nol_out h)
    · rw [if_neg (by decide +kernel), if_pos rfl] at h
      walk_at "w"
      exact i_come (k := some _) dr ho.1 (by show D.int (min z c) = D.int _; congr 1; omega) (escP_of nol_out h)
    · rw [if_neg (by decide +kernel), if_neg (by decide +kernel)] at h
      walk_at "w"
      cases k <;> (walk_at "w"; exact i_come dr ho.1 rfl (escP_of nol_out h))
    · rcases sk.word with hw | ⟨hw, _⟩
      · exact absurd hw (by show ¬ Lk (wAt ws i); rw [hx]; decide +kernel)
      · exact absurd (hx.symm.trans hw) (by decide +kernel)
    · rw [if_neg (by decide +kernel), if_neg (by decide +kernel)] at h
      walk_at "w"
      cases k <;> (walk_at "w"; exact i_come dr ho.1 rfl (escP_of nol_out h))
theorem i_behind {pn : Option (Addr × Addr)} {n : Nat} {Q : D → Nat → Prop} {X : XD} {C : Addr} {ns ws : List Str} {ls : List Li} {s : Sd} {z : Int} (dr : Drawn ns ws ls) (sk : SdOk ws s) (h : Q (outD ns (behind ls s z)) n) : dBehind C pn (macD C ns ls) (sdD ns s) (.int z) (.int z) n Q X := by
  unfold dBehind
  exact ⟨ns, ws, ls, s, z, rfl, rfl, rfl, rfl, dr, sk, h⟩
end
end Lw

/-! The stands that equal cells may lead to are few (own). -/
namespace Lw
open PySem PySem.Spec L2 Da
/-- what may be kept -/
def kset (k0 : Option Int) (z : Int) : List (Option Int) := [none, k0, some z, some (z % 2), some (z % 3), some (z % 4), some 0, some 1, some 2, some 3, some 4, some 5]
theorem ks_none {k0 : Option Int} {z : Int} : none ∈ kset k0 z := List.mem_cons_self
theorem ks_k0 {k0 : Option Int} {z : Int} : k0 ∈ kset k0 z := List.mem_cons_of_mem _ List.mem_cons_self
theorem ks_z {k0 : Option Int} {z : Int} : some z ∈ kset k0 z := List.mem_cons_of_mem _ (List.mem_cons_of_mem _ List.mem_cons_self)
theorem ks_mod {k0 : Option Int} {z c : Int} (h : 2 ≤ c) (h2 : c ≤ 4) : some (z % c) ∈ kset k0 z := by
  have : c = 2 ∨ c = 3 ∨ c = 4 := by omega
  unfold kset
  rcases this with rfl | rfl | rfl <;> simp
theorem ks_c {k0 : Option Int} {z c : Int} (h : 0 ≤ c) (h2 : c ≤ 5) : some c ∈ kset k0 z := by
  have : c = 0 ∨ c = 1 ∨ c = 2 ∨ c = 3 ∨ c = 4 ∨ c = 5 := by omega
  unfold kset
  rcases this with rfl | rfl | rfl | rfl | rfl | rfl <;> simp
def cands (ls : List Li) (k0 : Option Int) (z : Int) (i : Nat) : List Sd := match ls[i]? with
  | some (.num w c _) => if w = "skip" then (kset k0 z).map fun k => ⟨i, none, (k.getD 0 + c).toNat⟩ else (kset k0 z).map fun k => ⟨i, k, if w = "jump" then c.toNat else 1⟩
  | _ => (kset k0 z).map fun k => ⟨i, k, 1⟩
theorem cands_len {ls : List Li} {k0 : Option Int} {z : Int} {i : Nat} : (cands ls k0 z i).length = 12 := by
  unfold cands
  split
  · split <;> rw [List.length_map] <;> rfl
  · rw [List.length_map]; rfl
def allS (ls : List Li) (k0 : Option Int) (z : Int) : List Sd := (List.range ls.length).flatMap (cands ls k0 z)
theorem flat_len {α β : Type} {f : α → List β} {n : Nat} (h : ∀ x, (f x).length = n) : ∀ l : List α, (l.flatMap f).length = l.length * n
  | [] => by simp
  | x :: r => by rw [List.flatMap_cons, List.length_append, h, flat_len h r, List.length_cons, Nat.add_mul]; omega
theorem allS_len {ls : List Li} {k0 : Option Int} {z : Int} : (allS ls k0 z).length = ls.length * 12 := by
  unfold allS
  rw [flat_len (fun i => cands_len), List.length_range]
theorem allS_in {ls : List Li} {k0 : Option Int} {z : Int} {i : Nat} {s : Sd} (hi : i < ls.length) (h : s ∈ cands ls k0 z i) : s ∈ allS ls k0 z := List.mem_flatMap.mpr ⟨i, List.mem_range.mpr hi, h⟩
theorem allS_kept {ls : List Li} {k0 : Option Int} {z : Int} {s : Sd} (h : s ∈ allS ls k0 z) : s.kept ∈ kset k0 z := by
  obtain ⟨i, _, h⟩ := List.mem_flatMap.mp h
  unfold cands at h
  split at h
  · split at h
    · obtain ⟨k, _, rfl⟩ := List.mem_map.mp h; exact ks_none
    · obtain ⟨k, hk, rfl⟩ := List.mem_map.mp h; exact hk
  · obtain ⟨k, hk, rfl⟩ := List.mem_map.mp h; exact hk
theorem hop_in {ls : List Li} {k0 : Option Int} {z : Int} {i : Nat} {li : Li} {k : Option Int} {s : Sd} (hl : ls[i]? = some li) (hk : k ∈ kset k0 z) (e : hop li i k = .stop (some s)) : s ∈ cands ls k0 z i := by
  unfold cands
  rw [hl]
  cases li with
  | fin w =>
    simp only [hop] at e
    split at e <;> cases e
  | take o => cases e; exact List.mem_map.mpr ⟨k, hk, rfl⟩
  | case wy o => cases e; exact List.mem_map.mpr ⟨k, hk, rfl⟩
  | upto c a b => cases e
  | num w c o =>
    simp only [hop] at e
    show s ∈ if w = "skip" then _ else _
    by_cases hw : w = "skip"
    · rw [if_pos hw] at e ⊢
      cases k with
      | none => cases e
      | some v =>
        simp only at e
        by_cases h0 : v + c < 0
        · rw [if_pos h0] at e; cases e
        · rw [if_neg h0] at e
          by_cases h1 : v + c = 0
          · rw [if_pos h1] at e; cases e
          · rw [if_neg h1] at e
            cases e
            exact List.mem_map.mpr ⟨some v, hk, rfl⟩
    · rw [if_neg hw] at e ⊢
      by_cases hs : w = "set"
      · rw [if_pos hs] at e; cases e
      · rw [if_neg hs] at e
        by_cases hj : w = "jump"
        · rw [if_pos hj] at e
          cases e
          exact List.mem_map.mpr ⟨k, hk, by rw [if_pos hj]⟩
        · rw [if_neg hj] at e
          cases e
          exact List.mem_map.mpr ⟨k, hk, by rw [if_neg hj]⟩
theorem hop_keeps {ns ws : List Str} {ls : List Li} (dr : Drawn ns ws ls) {k0 : Option Int} {z : Int} {i j : Nat} {li : Li} {k k' : Option Int} {c : Bool} (hl : ls[i]? = some li) (hk : k ∈ kset k0 z) (e : hop li i k = .go j k' c) : k' ∈ kset k0 z := by
  have ok := dr.ok i li hl
  cases li with
  | fin w =>
    simp only [hop] at e
    split at e
    · cases e; exact ks_none
    · cases e
  | take o => cases e
  | case wy o => cases e
  | upto c a b => cases e; exact hk
  | num w c o =>
    simp only [hop] at e
    by_cases hw : w = "skip"
    · rw [if_pos hw] at e
      cases k with
      | none => cases e
      | some v =>
        simp only at e
        split at e
        · cases e
        · split at e
          · cases e; exact ks_none
          · cases e
    · rw [if_neg hw] at e
      by_cases hs : w = "set"
      · rw [if_pos hs] at e
        cases e
        obtain ⟨_, hn, _⟩ := ok
        subst hs
        have ne : ∀ x ∈ (["rest", "cap", "jump", "skip"] : List Str), x ≠ "set" := by decide +kernel
        rcases hn with ⟨h, _⟩ | ⟨h, _⟩ | ⟨h, _⟩ | ⟨_, h1, h2⟩ | ⟨h, _⟩
        · exact absurd h.symm (ne _ (by decide +kernel))
        · exact absurd h.symm (ne _ (by decide +kernel))
        · exact absurd h.symm (ne _ (by decide +kernel))
        · exact ks_c h1 h2
        · exact absurd h.symm (ne _ (by decide +kernel))
      · rw [if_neg hs] at e
        split at e <;> cases e
theorem trip_in {ns ws : List Str} {ls : List Li} (dr : Drawn ns ws ls) {k0 : Option Int} {z : Int} {m i : Nat} {k : Option Int} {r : Option Sd × Bool} (t : Trip ls m i k r) : k ∈ kset k0 z → ∀ s, r.1 = some s → s ∈ allS ls k0 z := by
  induction t with
  | stop h1 h2 =>
    intro hk s e
    have e : _ = some s := e
    subst e
    exact allS_in (List.getElem?_eq_some_iff.mp h1).1 (hop_in h1 hk h2)
  | go h1 h2 _ ih => exact fun hk s e => ih (hop_keeps dr h1 hk h2) s e
theorem come_in {ns ws : List Str} {ls : List Li} (dr : Drawn ns ws ls) {k0 : Option Int} {z : Int} {i : Nat} {k : Option Int} (hi : i < ws.length) (hk : k ∈ kset k0 z) : ∀ s, (come ls 30 i k).1 = some s → s ∈ allS ls k0 z := trip_in dr (trip10 dr k hi).2.2 hk
theorem beh_in {ns ws : List Str} {ls : List Li} (dr : Drawn ns ws ls) {k0 : Option Int} {z : Int} {s : Sd} (sk : SdOk ws s) (hk : s.kept ∈ kset k0 z) : ∀ s', (behind ls s z).1 = some s' → s' ∈ allS ls k0 z := by
  obtain ⟨i, k, l⟩ := s
  have hi : i < ws.length := sk.lt
  obtain ⟨li, hli⟩ : ∃ li, ls[i]? = some li := ⟨_, List.getElem?_eq_getElem (by rw [dr.lenL]; exact hi)⟩
  have hok := dr.ok i li hli
  cases li with
  | case wy o =>
    rw [beh_case hli]
    exact come_in dr (way_lt (fun y hy => (hok.2.2.1 y hy).2.2.1) hok.2.2.2.2.1) hk
  | take o =>
    rw [beh_take hli]
    exact come_in dr hok.2.1 ks_z
  | num x c o =>
    rw [beh_num hli]
    refine come_in dr hok.2.2.1 ?_
    obtain ⟨_, hn, _⟩ := hok
    by_cases h1 : x = "rest"
    · rw [if_pos h1]
      subst h1
      have ne : ∀ x ∈ (["set", "cap", "jump", "skip"] : List Str), x ≠ "rest" := by decide +kernel
      rcases hn with ⟨_, h1, h2⟩ | ⟨h, _⟩ | ⟨h, _⟩ | ⟨h, _⟩ | ⟨h, _⟩
      · exact ks_mod h1 h2
      · exact absurd h.symm (ne _ (by decide +kernel))
      · exact absurd h.symm (ne _ (by decide +kernel))
      · exact absurd h.symm (ne _ (by decide +kernel))
      · exact absurd h.symm (ne _ (by decide +kernel))
    · rw [if_neg h1]
      by_cases h2 : x = "cap"
      · rw [if_pos h2]
        subst h2
        have ne : ∀ x ∈ (["set", "rest", "jump", "skip"] : List Str), x ≠ "cap" := by decide +kernel
        rcases hn with ⟨h, _⟩ | ⟨_, h1, h2⟩ | ⟨h, _⟩ | ⟨h, _⟩ | ⟨h, _⟩
        · exact absurd h.symm (ne _ (by decide +kernel))
        · split
          · exact ks_c h1 h2
          · exact ks_z
        · exact absurd h.symm (ne _ (by decide +kernel))
        · exact absurd h.symm (ne _ (by decide +kernel))
        · exact absurd h.symm (ne _ (by decide +kernel))
      · rw [if_neg h2]
        exact hk
  | upto c x y =>
    have e : behind ls ⟨i, k, l⟩ z = come ls 30 y k := by simp only [behind, hli]
    rw [e]
    exact come_in dr hok.2.2.2.2.1 hk
  | fin x =>
    have e : behind ls ⟨i, k, l⟩ z = (none, false) := by simp only [behind, hli]
    rw [e]
    exact fun s' e => nomatch e
end Lw

namespace Lw
open PySem L2
open Evl Da
local macro_rules
  | `(tactic| walk_at "f") => `(tactic| first | exact lookF_put | exact lookF_hit | exact (lookF_skip (by decide +kernel) lookF_hit) | exact (lookF_skip (by decide +kernel) (lookF_skip (by decide +kernel) lookF_hit)) | exact (lookF_skip (by decide +kernel) (lookF_skip (by decide +kernel) (lookF_skip (by decide +kernel) lookF_hit))) | exact (lookF_skip (by decide +kernel) (lookF_skip (by decide +kernel) (lookF_skip (by decide +kernel) (lookF_skip (by decide +kernel) lookF_hit)))) | exact (lookF_skip (by decide +kernel) (lookF_skip (by decide +kernel) (lookF_skip (by decide +kernel) (lookF_skip (by decide +kernel) (lookF_skip (by decide +kernel) lookF_hit))))) | exact (lookF_skip (by decide +kernel) (lookF_skip (by decide +kernel) (lookF_skip (by decide +kernel) (lookF_skip (by decide +kernel) (lookF_skip (by decide +kernel) (lookF_skip (by decide +kernel) lookF_hit)))))) | ((refine lookF_other (by decide +kernel) ?_); walk_at "f") | ((refine lookF_skip (by decide +kernel) ?_); walk_at "f"))
  | `(tactic| walk_at "fl") => `(tactic| first | exact Nat.zero_lt_succ _ | ((refine putFD_lt ?_); walk_at "fl"))
  | `(tactic| walk_at "a") => `(tactic| first | exact le1000 (Nat.le_of_ble_eq_true rfl) | exact rfl | decide +kernel | exact And.intro (by with_reducible assumption) (by with_reducible assumption) | exact And.intro (And.intro (by with_reducible assumption) (by with_reducible assumption)) (by walk_at "fl"))
  | `(tactic| walk_at "w") => `(tactic| ((conv => whnf); repeat ((first | ((with_reducible refine And.intro ?_ ?_); (focus (walk_at "a"))) | ((with_reducible refine Br.yes ?_ ?_); (focus (first | exact rfl | decide +kernel))) | ((with_reducible refine Br.no ?_ ?_); (focus (first | exact rfl | decide +kernel))) | ((with_reducible refine ex_fld ?_); (refine fld_w (by walk_at "f") ?_)) | ((with_reducible refine ex_at ?_); (refine at_w rfl ?_))); (conv => whnf))))
  | `(tactic| walk_at "n") => `(tactic| ((try dsimp only [st0, st1, S.at, S.drop, S.own, S.put, S.frz, Src.n] at *); omega))
  | `(tactic| walk_at "draw") => `(tactic| ((try walk_at "w"); (refine i_draw ⟨by walk_at "n", by walk_at "n", by walk_at "n"⟩ ?_)))
def kK : Option Int → NestedKey
  | none => .none
  | some k => .num k
def keyS (ns : List Str) (s : Sd) : List NestedKey := [.text (wAt ns s.at_), kK s.kept, .num (s.left : Int)]
theorem key_sd {ns : List Str} {s : Sd} : keyN (sdD ns s) = some (keyS ns s) := by
  obtain ⟨i, k, l⟩ := s
  cases k <;> rfl
theorem key_inj {ns ws : List Str} {ls : List Li} (dr : Drawn ns ws ls) {a b : Sd} (ha : a.at_ < ws.length) (hb : b.at_ < ws.length) (e : keyS ns a = keyS ns b) : a = b := by
  obtain ⟨i, k, l⟩ := a
  obtain ⟨j, k', l'⟩ := b
  unfold keyS at e
  injection e with e1 e2
  injection e2 with e2 e3
  injection e3 with e3 _
  injection e1 with e1
  injection e3 with e3
  have h1 : i = j := wAt_inj dr.nd (by rw [dr.len]; exact ha) (by rw [dr.len]; exact hb) e1
  have h3 : l = l' := by have : (l : Int) = (l' : Int) := e3; omega
  have h2 : k = k' := by
    cases k <;> cases k'
    · rfl
    · cases e2
    · cases e2
    · have e2 : NestedKey.num _ = NestedKey.num _ := e2
      injection e2 with e2
      rw [e2]
  rw [h1, h2, h3]
theorem lookN_mem {es : List (List NestedKey × Int)} {ks : List NestedKey} (h : ks ∈ es.map (·.1)) : ∃ q, lookN es ks = some q ∧ (ks, q) ∈ es := by
  induction es with
  | nil => exact nomatch h
  | cons p r ih =>
    obtain ⟨k, v⟩ := p
    unfold lookN
    by_cases e : k = ks
    · rw [if_pos e]
      exact ⟨v, rfl, by rw [e]; exact List.mem_cons_self⟩
    · rw [if_neg e]
      rcases List.mem_cons.mp h with h | h
      · exact absurd h.symm e
      · obtain ⟨q, h1, h2⟩ := ih h
        exact ⟨q, h1, List.mem_cons_of_mem _ h2⟩
/-- what is known in the midst of equal cells: so many are passed, these stands were seen -/
structure Mid (ns ws : List Str) (ls : List Li) (z : Int) (m : Nat) (s : Sd) (p : Nat) (es : List (List NestedKey × Int)) (s' : Sd) : Prop where
  le : p ≤ m
  ok : SdOk ws s'
  eq : aheadG ls z m s = (p + (aheadG ls z (m - p) s').1, (aheadG ls z (m - p) s').2)
  seen : ∀ ks q, (ks, q) ∈ es → ∃ (sd : Sd) (q' : Nat), ks = keyS ns sd ∧ q = (q' : Int) ∧ q' < p ∧ SdOk ws sd ∧ aheadG ls z (p - q') sd = (p - q', some s', false)
  nd : (es.map (·.1)).Nodup
  inl : ∀ ks q, (ks, q) ∈ es → ∃ sd, ks = keyS ns sd ∧ (sd = s ∨ sd ∈ allS ls s.kept z)
  src : p < m → s' = s ∨ s' ∈ allS ls s.kept z
theorem Mid.start {ns ws : List Str} {ls : List Li} {z : Int} {m : Nat} {s : Sd} (h : SdOk ws s) : Mid ns ws ls z m s 0 [] s := ⟨Nat.zero_le _, h, by rw [Nat.sub_zero, Nat.zero_add], fun _ _ h => (nomatch h), List.nodup_nil, fun _ _ h => (nomatch h), fun _ => .inl rfl⟩
theorem Mid.few {ns ws : List Str} {ls : List Li} (dr : Drawn ns ws ls) {z : Int} {m p : Nat} {s s' : Sd} {es : List (List NestedKey × Int)} (h : Mid ns ws ls z m s p es s') : es.length ≤ 97 := by
  have h1 := Hd.nodup_len h.nd (l' := (s :: allS ls s.kept z).map (keyS ns)) (fun ks hk => by
    obtain ⟨⟨k, q⟩, hm, rfl⟩ := List.mem_map.mp hk
    obtain ⟨sd, e, hs⟩ := h.inl k q hm
    refine List.mem_map.mpr ⟨sd, ?_, e.symm⟩
    rcases hs with rfl | hs
    · exact List.mem_cons_self
    · exact List.mem_cons_of_mem _ hs)
  rw [List.length_map, List.length_map, List.length_cons, allS_len] at h1
  have := dr.most
  have := dr.lenL
  omega
theorem Mid.kept {ns ws : List Str} {ls : List Li} {z : Int} {m p : Nat} {s s' : Sd} {es : List (List NestedKey × Int)} (h : Mid ns ws ls z m s p es s') (hp : p < m) : s'.kept ∈ kset s.kept z := by
  rcases h.src hp with rfl | h
  · exact ks_k0
  · exact allS_kept h
/-- a stand that was seen: whole rings are gone over at once -/
theorem Mid.ring {ns ws : List Str} {ls : List Li} (dr : Drawn ns ws ls) {z : Int} {m p : Nat} {s s' : Sd} {es : List (List NestedKey × Int)} (h : Mid ns ws ls z m s p es s') (hm : keyS ns s' ∈ es.map (·.1)) : ∃ q : Nat, lookN es (keyS ns s') = some (q : Int) ∧ q < p ∧ Mid ns ws ls z m s (m - (m - p) % (p - q)) [] s' := by
  obtain ⟨q, h1, h2⟩ := lookN_mem hm
  obtain ⟨sd, q', e1, rfl, hq, ok, hp⟩ := h.seen _ _ h2
  obtain rfl := key_inj dr h.ok.lt ok.lt e1
  have hmod2 := Nat.mod_le (m - p) (p - q')
  refine ⟨q', h1, hq, by omega, h.ok, ?_, fun _ _ h => (nomatch h), List.nodup_nil, fun _ _ h => (nomatch h), fun hlt => h.src (by omega)⟩
  have e2 := ah_mod (by omega) hp (m - p)
  have hle := h.le
  have hmod := Nat.mod_le (m - p) (p - q')
  rw [h.eq, e2, show m - (m - (m - p) % (p - q')) = (m - p) % (p - q') by omega]
  refine Prod.ext ?_ rfl
  show p + (m - p - (m - p) % (p - q') + _) = m - (m - p) % (p - q') + _
  omega
/-- so many cells more, without an event -/
theorem Mid.more {ns ws : List Str} {ls : List Li} {z : Int} {m p c : Nat} {s s' s2 : Sd} {es : List (List NestedKey × Int)} (h : Mid ns ws ls z m s p es s') (h1 : 1 ≤ c) (hc : p + c ≤ m) (ok : SdOk ws s2) (e : aheadG ls z c s' = (c, some s2, false)) (hnew : keyS ns s' ∉ es.map (·.1)) (hsrc : p + c < m → s2 = s ∨ s2 ∈ allS ls s.kept z) : Mid ns ws ls z m s (p + c) (es ++ [(keyS ns s', (p : Int))]) s2 := by
  refine ⟨hc, ok, ?_, fun ks q hq => ?_, ?_, fun ks q hq => ?_, hsrc⟩
  · have e2 := ah_add (m - (p + c)) e
    rw [show c + (m - (p + c)) = m - p by omega] at e2
    rw [h.eq, e2]
    refine Prod.ext ?_ rfl
    show p + (c + _) = p + c + _
    omega
  · rcases List.mem_append.mp hq with hq | hq
    · obtain ⟨sd, q', e1, e2, hlt, ok', hp⟩ := h.seen ks q hq
      refine ⟨sd, q', e1, e2, by omega, ok', ?_⟩
      have e3 := ah_add c hp
      rw [show p - q' + c = p + c - q' by omega] at e3
      rw [e3, e]
      refine Prod.ext ?_ rfl
      show p - q' + c = p + c - q'
      omega
    · rw [List.mem_singleton] at hq
      cases hq
      exact ⟨s', p, rfl, rfl, by omega, h.ok, by rw [show p + c - p = c by omega]; exact e⟩
  · rw [List.map_append]
    exact nodup_snoc h.nd hnew
  · rcases List.mem_append.mp hq with hq | hq
    · exact h.inl ks q hq
    · rw [List.mem_singleton] at hq
      cases hq
      exact ⟨s', rfl, h.src (by omega)⟩
section
variable {P : Program} {w : World} {K : PySem.W.Frag} {mg : Str → Option Value} {base : Heap}
@[irreducible] def dAhead (C : Addr) : R4 := fun _ a b c d n Q _ => ∃ (ns ws : List Str) (ls : List Li) (s : Sd) (z : Int) (m : Nat), a = macD C ns ls ∧ b = sdD ns s ∧ c = .int z ∧ d = .int (m : Int) ∧ Drawn ns ws ls ∧ SdOk ws s ∧ Q (.tup [.int ((aheadG ls z m s).1 : Int), outD ns (aheadG ls z m s).2]) n
theorem ok_Machine_ahead (T : Tx w K mg) : FnOk P w K mg base CX0 6 T.f_Machine_ahead T.d_Machine_ahead ["self", "stand", "cell", "count"] (Da.upSp K (sp4 (dAhead T.c_Machine))) := by
  refine T.F_Machine_ahead.ok sc_Machine_ahead (fun vs H Q E h => Da.up_len4 h) (fun cdv A outer s H vs Q E hr h => ?_)
  refine ⟨_, (pss_cons (ps_set (i := 4) sc_Machine_ahead.nd rfl (Or.inl rfl) pe_int)
      (pss_cons (Da.ps_own 1 (ps_set (i := 5) sc_Machine_ahead.nd rfl (Or.inl rfl) (Da.dnewNK (P := P) (w := w) rfl rfl)))
      (pss_cons (ps_while PassesOwn.never (pt_cmpR op_lt (pv 4) (pv 3) (nomark _))
        (pss_cons (ps_if (pt_cmpR (Da.inDK (K := K) (P := P) (w := w) rfl rfl rfl hr.units) (pv 1) (pv 5) (by rfl))
          (pss_cons (ps_set (i := 4) sc_Machine_ahead.nd rfl (Or.inl rfl) (pe_op op_sub (pv 3) (pe_op op_modN (pe_op op_sub (pv 3) (pv 4)) (pe_op op_sub (pv 4) (pe_ix (Da.getDK (K := K) (P := P) (w := w) rfl rfl rfl hr.units) (pv 5) (pv 1) (fun _ _ => rfl))))))
          (pss_cons (Da.ps_own 1 (ps_set (i := 5) sc_Machine_ahead.nd rfl (Or.inl rfl) (Da.dnewNK (P := P) (w := w) rfl rfl)))
          (pss_one ps_continue)))
          pss_nil)
        (pss_cons (ps_asg (pv 4) (pg_sub (pv 5) (pv 1) (Da.putDK (K := K) (P := P) (w := w) rfl rfl rfl hr.units)))
        (pss_cons (ps_asg (pv 1) (Da.gtupK (n := 3) (K := K) rfl (by rfl) (pgs_cons (pg_name (i := 6) sc_Machine_ahead.nd rfl (Or.inl rfl)) (pgs_cons (pg_name (i := 7) sc_Machine_ahead.nd rfl (Or.inl rfl)) (pgs_cons (pg_name (i := 8) sc_Machine_ahead.nd rfl (Or.inl rfl)) pgs_nil)))))
        (pss_cons (ps_set (i := 9) sc_Machine_ahead.nd rfl (Or.inl rfl) (pe_callB (call_min2 rfl) (by rfl) T.z_min (by decide +kernel) (pa_cons (pv 8) (pa_cons (pe_op op_sub (pv 3) (pv 4)) pa_nil))))
        (pss_cons (ps_set (i := 4) sc_Machine_ahead.nd rfl (Or.inl rfl) (pe_op (Da.addK (K := K) rfl) (pv 4) (pv 9)))
        (pss_one (ps_if (pt_cmpR op_lt (pv 9) (pv 8) (nomark _))
          (pss_one (ps_set (i := 1) sc_Machine_ahead.nd rfl (Or.inl rfl) (pe_tup (pa_cons (pv 6) (pa_cons (pv 7) (pa_cons (pe_op op_sub (pv 8) (pv 9)) pa_nil))))))
          (pss_cons (ps_asg (pe_meth (pv 0) T.cl_Machine T.h_Machine_behind (ok_Machine_behind T) (hr.mono (by decide)) T.b_Machine_behind .nil pass0 (pa_cons (pv 1) (pa_cons (pv 2) (pa_cons (pv 2) pa_nil)))) (Da.gtupK (n := 2) (K := K) rfl (by rfl) (pgs_cons (pg_name (i := 1) sc_Machine_ahead.nd rfl (Or.inl rfl)) (pgs_cons (pg_name (i := 10) sc_Machine_ahead.nd rfl (Or.inl rfl)) pgs_nil))))
          (pss_one (ps_if (pt_cmpR op_notN (pv 10) pe_non (nomark _))
            (pss_one (ps_ret (pe_tup (pa_cons (pv 4) (pa_cons (pe_tup (pa_cons (pv 1) (pa_cons (pv 10) pa_nil))) pa_nil)))))
            pss_nil)))))))))))
      (pss_one (ps_ret (pe_tup (pa_cons (pv 4) (pa_cons (pe_tup (pa_cons (pv 1) (pa_cons pe_non pa_nil))) pa_nil)))))))), Da.go_up4 h ?_⟩
  intro pn a b c d n Q _ h
  unfold dAhead at h
  obtain ⟨ns, ws, ls, s, z, m, rfl, rfl, rfl, rfl, dr, sk, h⟩ := h
  walk_at "w"
  intro la
  walk_at "w"
  refine while_inv (fun μ Γ st => ∃ (p : Nat) (es : List (List NestedKey × Int)) (s' : Sd) (la : Addr) (u6 u7 u8 u9 u10 : Option D), Γ = [some (macD T.c_Machine ns ls), some (sdD ns s'), some (.int z), some (.int (m : Int)), some (.int (p : Int)), some (.loc la 1), u6, u7, u8, u9, u10] ∧ st = ⟨[⟨1, la, .nk P w es, false⟩], n, pn⟩ ∧ Mid ns ws ls z m s p es s' ∧ μ = 2 * (m - p) + es.length) (2 * (m - 0) + 0) ⟨0, [], s, la, _, _, _, _, _, rfl, rfl, Mid.start sk, rfl⟩ ?_
  rintro μ _ _ ⟨p, es, s', la, u6, u7, u8, u9, u10, rfl, rfl, hM, hμ⟩
  have hle := hM.le
  have hfew := hM.few dr
  walk_at "w"
  refine .dec (fun hlt => ?_) (fun hge => ?_)
  · have hlt : p < m := by omega
    refine ⟨_, (fun _ _ h => h), ?_⟩
    walk_at "w"
    refine ⟨⟨rfl, rfl⟩, _, key_sd, ?_⟩
    walk_at "w"
    refine .dec (fun hin => ?_) (fun hnin => ?_)
    · obtain ⟨q, hq, hqp, hM2⟩ := hM.ring dr hin
      have hes : 1 ≤ es.length := by
        cases es with
        | nil => exact nomatch hin
        | cons _ _ => exact Nat.succ_le_succ (Nat.zero_le _)
      walk_at "w"
      refine ⟨⟨rfl, rfl⟩, _, _, key_sd, hq, ?_⟩
      walk_at "w"
      refine ⟨(by show (p : Int) - (q : Int) ≠ 0; omega), ?_⟩
      have hmod := Nat.mod_le (m - p) (p - q)
      have e : (m : Int) - ((m : Int) - (p : Int)).fmod ((p : Int) - (q : Int)) = ((m - (m - p) % (p - q) : Nat) : Int) := by
        rw [Int.fmod_eq_emod_of_nonneg _ (by omega), show (m : Int) - (p : Int) = ((m - p : Nat) : Int) by omega, show (p : Int) - (q : Int) = ((p - q : Nat) : Int) by omega, ← Int.natCast_emod]
        omega
      walk_at "w"
      intro la2
      walk_at "w"
      exact ⟨2 * (m - (m - (m - p) % (p - q))) + 0, (by rw [hμ]; omega), m - (m - p) % (p - q), [], s', la2, u6, u7, u8, u9, u10, (by rw [← e]; rfl), rfl, hM2, rfl⟩
    · obtain ⟨i, k, l⟩ := s'
      have hl : 1 ≤ l := hM.ok.pos
      have esd : sdD ns ⟨i, k, l⟩ = .tup [.str (wAt ns i), kD k, .int (l : Int)] := rfl
      rw [esd]
      walk_at "w"
      refine ⟨⟨rfl, rfl⟩, _, _, ⟨key_sd (s := ⟨i, k, l⟩), rfl⟩, ⟨hnin, by omega⟩, ?_⟩
      walk_at "w"
      refine .dec (fun h0 => ?_) (fun h0 => ?_)
      · have e1 : min (l : Int) ((m : Int) - (p : Int)) = ((m - p : Nat) : Int) := by omega
        have e2 : (l : Int) - ((m - p : Nat) : Int) = ((l - (m - p) : Nat) : Int) := by omega
        have hM2 := hM.more (c := m - p) (s2 := ⟨i, k, l - (m - p)⟩) (by omega) (by omega) ⟨hM.ok.lt, by show 1 ≤ l - (m - p); omega, hM.ok.word⟩ (ah_part (by omega)) hnin (fun z => by omega)
        rw [e1]
        cases k
        · walk_at "w"
          rw [e2]
          exact ⟨2 * (m - (p + (m - p))) + (es.length + 1), (by rw [hμ]; omega), p + (m - p), _, ⟨i, _, l - (m - p)⟩, la, _, _, _, _, _, rfl, rfl, hM2, by rw [List.length_append]; rfl⟩
        · walk_at "w"
          rw [e2]
          exact ⟨2 * (m - (p + (m - p))) + (es.length + 1), (by rw [hμ]; omega), p + (m - p), _, ⟨i, _, l - (m - p)⟩, la, _, _, _, _, _, rfl, rfl, hM2, by rw [List.length_append]; rfl⟩
      · have e1 : min (l : Int) ((m : Int) - (p : Int)) = (l : Int) := by omega
        rw [e1]
        walk_at "w"
        refine i_behind (s := ⟨i, k, l⟩) dr hM.ok ?_
        obtain ⟨ok1, ok2, _⟩ := beh_ok dr hM.ok z
        have e0 : behind ls ⟨i, k, 1⟩ z = behind ls ⟨i, k, l⟩ z := rfl
        generalize hb : behind ls ⟨i, k, l⟩ z = r at ok1 ok2 e0
        obtain ⟨o, b⟩ := r
        cases o with
        | none =>
          obtain rfl : b = false := ok2 rfl
          have e3 := ah_event (n := m - p) hl (by omega) e0 (.inl rfl)
          have e4 := hM.eq
          rw [e3] at e4
          rw [e4] at h
          unfold outD
          walk_at "w"
          exact h
        | some s2 =>
          have ok3 := ok1 s2 rfl
          cases b with
          | true =>
            have e3 := ah_event (n := m - p) hl (by omega) e0 (.inr rfl)
            have e4 := hM.eq
            rw [e3] at e4
            rw [e4] at h
            unfold outD evD
            walk_at "w"
            exact h
          | false =>
            have hM2 := hM.more (c := l) (s2 := s2) hl (by omega) ok3 (ah_line hl e0) hnin (fun _ => .inr (beh_in dr hM.ok (hM.kept hlt) s2 (by rw [hb])))
            unfold outD evD
            walk_at "w"
            exact ⟨2 * (m - (p + l)) + (es.length + 1), (by rw [hμ]; omega), p + l, _, s2, la, _, _, _, _, _, rfl, rfl, hM2, by rw [List.length_append]; rfl⟩
  · have e : p = m := by omega
    subst e
    have e4 := hM.eq
    rw [Nat.sub_self] at e4
    rw [e4] at h
    walk_at "w"
    exact h
theorem i_ahead {pn : Option (Addr × Addr)} {n : Nat} {Q : D → Nat → Prop} {X : XD} {C : Addr} {ns ws : List Str} {ls : List Li} {s : Sd} {z : Int} {m : Nat} {d : D} (dr : Drawn ns ws ls) (sk : SdOk ws s) (e : d = .int (m : Int)) (h : Q (.tup [.int ((aheadG ls z m s).1 : Int), outD ns (aheadG ls z m s).2]) n) : dAhead C pn (macD C ns ls) (sdD ns s) (.int z) d n Q X := by
  unfold dAhead
  exact ⟨ns, ws, ls, s, z, m, rfl, rfl, rfl, e, dr, sk, h⟩
end
end Lw

namespace Lw
open PySem L2
open Evl Da
local macro_rules
  | `(tactic| walk_at "f") => `(tactic| first | exact lookF_put | exact lookF_hit | exact (lookF_skip (by decide +kernel) lookF_hit) | exact (lookF_skip (by decide +kernel) (lookF_skip (by decide +kernel) lookF_hit)) | exact (lookF_skip (by decide +kernel) (lookF_skip (by decide +kernel) (lookF_skip (by decide +kernel) lookF_hit))) | exact (lookF_skip (by decide +kernel) (lookF_skip (by decide +kernel) (lookF_skip (by decide +kernel) (lookF_skip (by decide +kernel) lookF_hit)))) | exact (lookF_skip (by decide +kernel) (lookF_skip (by decide +kernel) (lookF_skip (by decide +kernel) (lookF_skip (by decide +kernel) (lookF_skip (by decide +kernel) lookF_hit))))) | exact (lookF_skip (by decide +kernel) (lookF_skip (by decide +kernel) (lookF_skip (by decide +kernel) (lookF_skip (by decide +kernel) (lookF_skip (by decide +kernel) (lookF_skip (by decide +kernel) lookF_hit)))))) | ((refine lookF_other (by decide +kernel) ?_); walk_at "f") | ((refine lookF_skip (by decide +kernel) ?_); walk_at "f"))
  | `(tactic| walk_at "fl") => `(tactic| first | exact Nat.zero_lt_succ _ | ((refine putFD_lt ?_); walk_at "fl"))
  | `(tactic| walk_at "a") => `(tactic| first | exact le1000 (Nat.le_of_ble_eq_true rfl) | exact rfl | decide +kernel | exact And.intro (by with_reducible assumption) (by with_reducible assumption) | exact And.intro (And.intro (by with_reducible assumption) (by with_reducible assumption)) (by walk_at "fl"))
  | `(tactic| walk_at "w") => `(tactic| ((conv => whnf); repeat ((first | ((with_reducible refine And.intro ?_ ?_); (focus (walk_at "a"))) | ((with_reducible refine Br.yes ?_ ?_); (focus (first | exact rfl | decide +kernel))) | ((with_reducible refine Br.no ?_ ?_); (focus (first | exact rfl | decide +kernel))) | ((with_reducible refine ex_fld ?_); (refine fld_w (by walk_at "f") ?_)) | ((with_reducible refine ex_at ?_); (refine at_w rfl ?_))); (conv => whnf))))
  | `(tactic| walk_at "n") => `(tactic| ((try dsimp only [st0, st1, S.at, S.drop, S.own, S.put, S.frz, Src.n] at *); omega))
  | `(tactic| walk_at "draw") => `(tactic| ((try walk_at "w"); (refine i_draw ⟨by walk_at "n", by walk_at "n", by walk_at "n"⟩ ?_)))
theorem of_dec {p : Prop} {ip : Decidable p} (h : decide p = true) : p := of_decide_eq_true h
/-- what is told of a run -/
structure TT where
  many : Int
  last : Option Int
  ref : Option Int
  inside : Int
  line : Option Str
  kept : Option Int
  left : Int
def sO : Option Str → D
  | none => .non
  | some x => .str x
def partsD (t : TT) : D := .tup [.int t.many, kD t.last, kD t.ref, .int t.inside, sO t.line, kD t.kept, .int t.left]
def toldF (t : TT) : List (Str × D) := [("many", .int t.many), ("last", kD t.last), ("refused", kD t.ref), ("inside", .int t.inside), ("line", sO t.line), ("kept", kD t.kept), ("left", .int t.left)]
theorem kD_inj {a b : Option Int} (h : kD a = kD b) : a = b := by
  cases a <;> cases b
  · rfl
  · cases h
  · cases h
  · cases h; rfl
theorem sO_inj {a b : Option Str} (h : sO a = sO b) : a = b := by
  cases a <;> cases b
  · rfl
  · cases h
  · cases h
  · cases h; rfl
theorem parts_inj {a b : TT} (h : partsD a = partsD b) : a = b := by
  obtain ⟨a1, a2, a3, a4, a5, a6, a7⟩ := a
  obtain ⟨b1, b2, b3, b4, b5, b6, b7⟩ := b
  unfold partsD at h
  injection h with h
  injection h with h1 h
  injection h with h2 h
  injection h with h3 h
  injection h with h4 h
  injection h with h5 h
  injection h with h6 h
  injection h with h7 _
  injection h1 with h1
  injection h4 with h4
  injection h7 with h7
  have h2 := kD_inj h2
  have h3 := kD_inj h3
  have h5 := sO_inj h5
  have h6 := kD_inj h6
  subst h1 h2 h3 h4 h5 h6 h7
  rfl
structure TOk (t : TT) : Prop where
  line : ∀ x, t.line = some x → PyData.strOk x = true
theorem pl_k {k : Option Int} : Pl 0 (kD k) := by cases k <;> trivial
theorem parts_pl {t : TT} (h : TOk t) : Pl 1 (partsD t) := fun d hd => by
  rcases List.mem_cons.mp hd with rfl | hd
  · trivial
  rcases List.mem_cons.mp hd with rfl | hd
  · exact pl_k
  rcases List.mem_cons.mp hd with rfl | hd
  · exact pl_k
  rcases List.mem_cons.mp hd with rfl | hd
  · trivial
  rcases List.mem_cons.mp hd with rfl | hd
  · cases e : t.line with
    | none => trivial
    | some x => exact h.line x e
  rcases List.mem_cons.mp hd with rfl | hd
  · exact pl_k
  rcases List.mem_cons.mp hd with rfl | hd
  · trivial
  · exact nomatch hd
def toldD (C : Addr) (t : TT) : D := .obj C (toldF t)
section
variable {P : Program} {w : World} {K : PySem.W.Frag} {mg : Str → Option Value} {base : Heap}
theorem put_new {f : Str} {d : D} : ∀ {fs : List (Str × D)}, f ∉ fs.map (·.1) → putFD f d fs = fs ++ [(f, d)]
  | [], _ => rfl
  | (g, x) :: r, h => by
    rw [putFD_skip (fun z => h (by rw [List.map_cons, z]; exact List.mem_cons_self)), put_new (fun z => h (by rw [List.map_cons]; exact List.mem_cons_of_mem _ z))]
    rfl
@[irreducible] def dToldI : I7 := fun _ a b c d e f g n Q _ => ∃ t : TT, a = .int t.many ∧ b = kD t.last ∧ c = kD t.ref ∧ d = .int t.inside ∧ e = sO t.line ∧ f = kD t.kept ∧ g = .int t.left ∧ Q (toldF t) n
theorem ok_Told___init (T : Tx w K mg) : FnOk P w K mg base CX0 1 T.f_Told___init T.d_Told___init ["self", "many", "last", "refused", "inside", "line", "kept", "left"] (Da.upIn K T.c_Told (di7 dToldI)) := by
  refine T.F_Told___init.ok sc_Told___init (fun vs H Q E h => Da.in_len7 h) (fun cdv A outer s H vs Q E hr h => ?_)
  refine ⟨_, (pss_cons (Da.setfK (K := K) rfl (pv 0) (pv 1) rfl)
      (pss_cons (Da.setfK (K := K) rfl (pv 0) (pv 2) rfl)
      (pss_cons (Da.setfK (K := K) rfl (pv 0) (pv 3) rfl)
      (pss_cons (Da.setfK (K := K) rfl (pv 0) (pv 4) rfl)
      (pss_cons (Da.setfK (K := K) rfl (pv 0) (pv 5) rfl)
      (pss_cons (Da.setfK (K := K) rfl (pv 0) (pv 6) rfl)
      (pss_one (Da.setfK (K := K) rfl (pv 0) (pv 7) rfl)))))))), Da.go_in7 h ?_⟩
  intro x pn a b c d e f g n Q _ h
  unfold dToldI at h
  obtain ⟨⟨t1, t2, t3, t4, t5, t6, t7⟩, rfl, rfl, rfl, rfl, rfl, rfl, rfl, h⟩ := h
  have c1 := T.cl_Told
  have c2 := T.n_Told_many
  have c3 := T.n_Told_last
  have c4 := T.n_Told_refused
  have c5 := T.n_Told_inside
  have c6 := T.n_Told_line
  have c7 := T.n_Told_kept
  have c8 := T.n_Told_left
  have e7 : ∀ a b c d e f g : D, putFD "left" g (putFD "kept" f (putFD "line" e (putFD "inside" d (putFD "refused" c (putFD "last" b (putFD "many" a [])))))) = ([("many", a), ("last", b), ("refused", c), ("inside", d), ("line", e), ("kept", f), ("left", g)] : List (Str × D)) := fun a b c d e f g => by
    rw [put_new (f := "many") List.not_mem_nil, put_new (f := "last") (by show ("last" : Str) ∉ (["many"] : List Str); decide +kernel), put_new (f := "refused") (by show ("refused" : Str) ∉ (["many", "last"] : List Str); decide +kernel), put_new (f := "inside") (by show ("inside" : Str) ∉ (["many", "last", "refused"] : List Str); decide +kernel), put_new (f := "line") (by show ("line" : Str) ∉ (["many", "last", "refused", "inside"] : List Str); decide +kernel), put_new (f := "kept") (by show ("kept" : Str) ∉ (["many", "last", "refused", "inside", "line"] : List Str); decide +kernel), put_new (f := "left") (by show ("left" : Str) ∉ (["many", "last", "refused", "inside", "line", "kept"] : List Str); decide +kernel)]
    rfl
  unfold toldF at h
  rw [← e7] at h
  cases t2 <;> cases t3 <;> cases t5 <;> cases t6 <;> (walk_at "w"; exact h)
theorem i_toldI {pn : Option (Addr × Addr)} {n : Nat} {Q : QF} {X : XD} {t : TT} {a b c d e f g : D} (e1 : a = .int t.many) (e2 : b = kD t.last) (e3 : c = kD t.ref) (e4 : d = .int t.inside) (e5 : e = sO t.line) (e6 : f = kD t.kept) (e7 : g = .int t.left) (h : Q (toldF t) n) : dToldI pn a b c d e f g n Q X := by
  unfold dToldI
  exact ⟨t, e1, e2, e3, e4, e5, e6, e7, h⟩
end
end Lw

namespace Lw
open PySem L2
open Evl Da
local macro_rules
  | `(tactic| walk_at "f") => `(tactic| first | exact lookF_put | exact lookF_hit | exact (lookF_skip (by decide +kernel) lookF_hit) | exact (lookF_skip (by decide +kernel) (lookF_skip (by decide +kernel) lookF_hit)) | exact (lookF_skip (by decide +kernel) (lookF_skip (by decide +kernel) (lookF_skip (by decide +kernel) lookF_hit))) | exact (lookF_skip (by decide +kernel) (lookF_skip (by decide +kernel) (lookF_skip (by decide +kernel) (lookF_skip (by decide +kernel) lookF_hit)))) | exact (lookF_skip (by decide +kernel) (lookF_skip (by decide +kernel) (lookF_skip (by decide +kernel) (lookF_skip (by decide +kernel) (lookF_skip (by decide +kernel) lookF_hit))))) | exact (lookF_skip (by decide +kernel) (lookF_skip (by decide +kernel) (lookF_skip (by decide +kernel) (lookF_skip (by decide +kernel) (lookF_skip (by decide +kernel) (lookF_skip (by decide +kernel) lookF_hit)))))) | ((refine lookF_other (by decide +kernel) ?_); walk_at "f") | ((refine lookF_skip (by decide +kernel) ?_); walk_at "f"))
  | `(tactic| walk_at "fl") => `(tactic| first | exact Nat.zero_lt_succ _ | ((refine putFD_lt ?_); walk_at "fl"))
  | `(tactic| walk_at "a") => `(tactic| first | exact le1000 (Nat.le_of_ble_eq_true rfl) | exact rfl | decide +kernel | exact And.intro (by with_reducible assumption) (by with_reducible assumption) | exact And.intro (And.intro (by with_reducible assumption) (by with_reducible assumption)) (by walk_at "fl"))
  | `(tactic| walk_at "w") => `(tactic| ((conv => whnf); repeat ((first | ((with_reducible refine And.intro ?_ ?_); (focus (walk_at "a"))) | ((with_reducible refine Br.yes ?_ ?_); (focus (first | exact rfl | decide +kernel))) | ((with_reducible refine Br.no ?_ ?_); (focus (first | exact rfl | decide +kernel))) | ((with_reducible refine ex_fld ?_); (refine fld_w (by walk_at "f") ?_)) | ((with_reducible refine ex_at ?_); (refine at_w rfl ?_))); (conv => whnf))))
  | `(tactic| walk_at "n") => `(tactic| ((try dsimp only [st0, st1, S.at, S.drop, S.own, S.put, S.frz, Src.n] at *); omega))
  | `(tactic| walk_at "draw") => `(tactic| ((try walk_at "w"); (refine i_draw ⟨by walk_at "n", by walk_at "n", by walk_at "n"⟩ ?_)))
def sdo (ns : List Str) : Option Sd → D
  | none => .non
  | some s => sdD ns s
/-- a course as it stands -/
def crsD (ns : List Str) (v : Wk) : D := .tup [.int (v.place : Int), .int (v.cuts.length : Int), kD v.cuts.getLast?, kD v.ref, sdo ns v.sd]
theorem sd_inj {ns ws : List Str} {ls : List Li} (dr : Drawn ns ws ls) {a b : Sd} (ha : a.at_ < ws.length) (hb : b.at_ < ws.length) (h : sdD ns a = sdD ns b) : a = b := by
  refine key_inj dr ha hb ?_
  have h2 := congrArg keyN h
  rw [key_sd, key_sd] at h2
  exact Option.some.inj h2
theorem sd_pl {ns ws : List Str} {ls : List Li} (dr : Drawn ns ws ls) {s : Sd} (h : s.at_ < ws.length) : Pl 1 (sdD ns s) := fun d hd => by
  rcases List.mem_cons.mp hd with rfl | hd
  · exact name_ok dr h
  rcases List.mem_cons.mp hd with rfl | hd
  · exact pl_k
  rcases List.mem_cons.mp hd with rfl | hd
  · trivial
  · exact nomatch hd
theorem mulB {i j : Int} (hi : i.natAbs < 2 ^ 200) (hj : j.natAbs < 2 ^ 200) : CMulW i j := by
  have h1 : i.natAbs.log2 < 200 := log2_small hi (by decide)
  have h2 : j.natAbs.log2 < 200 := log2_small hj (by decide)
  show i.natAbs.log2 + j.natAbs.log2 < 1000000
  omega
theorem dec_gen {p : Prop} {ip : Decidable p} {k : Bool → Prop} (h : ∀ b : Bool, (b = true ↔ p) → k b) : k (decide p) := h _ ⟨of_dec, dec_t⟩
section
variable {P : Program} {w : World} {K : PySem.W.Frag} {mg : Str → Option Value} {base : Heap}
@[irreducible] def dBegun (C : Addr) : R1 := fun _ a n Q _ => ∃ (ns : List Str) (ls : List Li), a = macD C ns ls ∧ Q (crsD ns (wk0 ls)) n
theorem ok_course_begun (T : Tx w K mg) : FnOk P w K mg base CX0 1 T.f_course_begun T.d_course_begun ["machine"] (Da.upSp K (sp1 (dBegun T.c_Machine))) := by
  refine T.F_course_begun.ok sc_course_begun (fun vs H Q E h => Da.up_len1 h) (fun cdv A outer s H vs Q E hr h => ?_)
  refine ⟨_, (pss_one (ps_ret (pe_tup (pa_cons pe_int (pa_cons pe_int (pa_cons pe_non (pa_cons pe_non (pa_cons (Da.fldK (K := K) rfl (pv 0) rfl) pa_nil)))))))), Da.go_up1 h ?_⟩
  intro pn a n Q _ h
  unfold dBegun at h
  obtain ⟨ns, ls, rfl, h⟩ := h
  have c1 := T.cl_Machine
  have c2 := T.n_Machine_begin
  unfold macD
  walk_at "w"
  exact h
theorem i_begun {pn : Option (Addr × Addr)} {n : Nat} {Q : D → Nat → Prop} {X : XD} {C : Addr} {ns : List Str} {ls : List Li} (h : Q (crsD ns (wk0 ls)) n) : dBegun C pn (macD C ns ls) n Q X := by
  unfold dBegun
  exact ⟨ns, ls, rfl, h⟩
@[irreducible] def dOver (C : Addr) : R4 := fun _ a b c d n Q _ => ∃ (ns ws : List Str) (ls : List Li) (v : Wk) (m : Nat) (z : Int), a = macD C ns ls ∧ b = crsD ns v ∧ c = .int (m : Int) ∧ d = .int z ∧ Drawn ns ws ls ∧ WkOk ws v ∧ m < 2 ^ 200 ∧ Q (crsD ns (runW ls v (List.replicate m z))) n
theorem ok_over_run (T : Tx w K mg) : FnOk P w K mg base CX0 8 T.f_over_run T.d_over_run ["machine", "course", "count", "cell"] (Da.upSp K (sp4 (dOver T.c_Machine))) := by
  refine T.F_over_run.ok sc_over_run (fun vs H Q E h => Da.up_len4 h) (fun cdv A outer s H vs Q E hr h => ?_)
  refine ⟨_, (pss_cons (ps_asg (pv 1) (Da.gtupK (n := 5) (K := K) rfl (by rfl) (pgs_cons (pg_name (i := 4) sc_over_run.nd rfl (Or.inl rfl)) (pgs_cons (pg_name (i := 5) sc_over_run.nd rfl (Or.inl rfl)) (pgs_cons (pg_name (i := 6) sc_over_run.nd rfl (Or.inl rfl)) (pgs_cons (pg_name (i := 7) sc_over_run.nd rfl (Or.inl rfl)) (pgs_cons (pg_name (i := 8) sc_over_run.nd rfl (Or.inl rfl)) pgs_nil)))))))
      (pss_cons (ps_set (i := 9) sc_over_run.nd rfl (Or.inl rfl) (pe_op (Da.addK (K := K) rfl) (pv 4) (pv 2)))
      (pss_cons (ps_while PassesOwn.never (PW.pt (pw_and (pt_cmpR op_lt (pv 4) (pv 9) (nomark _)) (pw_and1 (pt_cmpR op_isN (pv 7) pe_non (nomark _)))))
        (pss_cons (ps_set (i := 10) sc_over_run.nd rfl (Or.inl rfl) (pe_cmpR (Da.eqK (K := K) rfl hr.units) (pv 8) (Da.fldK (K := K) rfl (pv 0) rfl) (nomark _)))
        (pss_cons (ps_asg (pe_meth (pv 0) T.cl_Machine T.h_Machine_ahead (ok_Machine_ahead T) (hr.mono (by decide)) T.b_Machine_ahead .nil pass0 (pa_cons (pv 8) (pa_cons (pv 3) (pa_cons (pe_op op_sub (pv 9) (pv 4)) pa_nil)))) (Da.gtupK (n := 2) (K := K) rfl (by rfl) (pgs_cons (pg_name (i := 11) sc_over_run.nd rfl (Or.inl rfl)) (pgs_cons (Da.gtupK (n := 2) (K := K) rfl (by rfl) (pgs_cons (pg_name (i := 8) sc_over_run.nd rfl (Or.inl rfl)) (pgs_cons (pg_name (i := 12) sc_over_run.nd rfl (Or.inl rfl)) pgs_nil))) pgs_nil))))
        (pss_cons (ps_set (i := 13) sc_over_run.nd rfl (Or.inl rfl) (pe_ifExp (PW.pt (pw_and (pt_val (pv 10)) (pw_and1 (pt_cmpR (Da.eqK (K := K) rfl hr.units) (pv 12) (pe_glob (v := .str "cut") rfl T.m_CUT ⟨_, rfl⟩) (nomark _))))) (pe_op Da.op_divA (pe_op op_sub (pv 9) (pv 4)) (pv 11)) pe_int))
        (pss_cons (ps_set (i := 4) sc_over_run.nd rfl (Or.inl rfl) (pe_op (Da.addK (K := K) rfl) (pv 4) (pe_op (Da.mulK (K := K) rfl) (pv 13) (pv 11))))
        (pss_one (ps_if (pt_cmpR (Da.eqK (K := K) rfl hr.units) (pv 12) (pe_glob (v := .str "cut") rfl T.m_CUT ⟨_, rfl⟩) (nomark _))
          (pss_cons (ps_set (i := 5) sc_over_run.nd rfl (Or.inl rfl) (pe_op (Da.addK (K := K) rfl) (pv 5) (pv 13)))
          (pss_one (ps_set (i := 6) sc_over_run.nd rfl (Or.inl rfl) (pv 4))))
          (pss_one (ps_if (pt_cmpR (Da.eqK (K := K) rfl hr.units) (pv 12) (pe_glob (v := .str "refuse") rfl T.m_REFUSE ⟨_, rfl⟩) (nomark _))
            (pss_one (ps_set (i := 7) sc_over_run.nd rfl (Or.inl rfl) (pv 4)))
            pss_nil)))))))))
      (pss_one (ps_ret (pe_tup (pa_cons (pv 9) (pa_cons (pv 5) (pa_cons (pv 6) (pa_cons (pv 7) (pa_cons (pv 8) pa_nil))))))))))), Da.go_up4 h ?_⟩
  intro pn a b c d n Q _ h
  unfold dOver at h
  obtain ⟨ns, ws, ls, v0, m, z, rfl, rfl, rfl, rfl, dr, ok0, hm, h⟩ := h
  have c1 := T.cl_Machine
  have c2 := T.n_Machine_begin
  unfold crsD
  walk_at "w"
  refine while_inv (fun μ Γ st => ∃ (v : Wk) (q : Nat) (P M : Int) (L R S : D) (u10 u11 u12 u13 : Option D), Γ = [some (macD T.c_Machine ns ls), some (.tup [.int (v0.place : Int), .int (v0.cuts.length : Int), kD v0.cuts.getLast?, kD v0.ref, sdo ns v0.sd]), some (.int (m : Int)), some (.int z), some (.int P), some (.int M), some L, some R, some S, some (.int ((v0.place : Int) + (m : Int))), u10, u11, u12, u13] ∧ st = st0 n pn ∧ runW ls v0 (List.replicate q z) = v ∧ q ≤ m ∧ WkOk ws v ∧ P = v.place ∧ v.place = v0.place + q ∧ M = v.cuts.length ∧ L = kD v.cuts.getLast? ∧ R = kD v.ref ∧ S = sdo ns v.sd ∧ μ = m - q) (m - 0) ⟨v0, 0, _, _, _, _, _, _, _, _, _, rfl, rfl, rfl, Nat.zero_le _, ok0, rfl, rfl, rfl, rfl, rfl, rfl, rfl⟩ ?_
  rintro μ _ _ ⟨v, q, P, M, L, R, S, u10, u11, u12, u13, rfl, rfl, hv, hq, ok, rfl, hpl, rfl, rfl, rfl, rfl, hμ⟩
  have hrun : ∀ k, q + k = m → runW ls v (List.replicate k z) = runW ls v0 (List.replicate m z) := fun k hk => by
    rw [← hv, ← runW_app, List.replicate_append_replicate, hk]
  obtain ⟨pl, cs, rf, sd⟩ := v
  have hpl : pl = v0.place + q := hpl
  cases sd with
  | none =>
    obtain ⟨r, hr⟩ : ∃ r, rf = some r := by
      cases rf with
      | none => exact nomatch ok.ref
      | some r => exact ⟨r, rfl⟩
    subst hr
    have e := hrun (m - q) (by omega)
    rw [run_ref rfl] at e
    rw [← e] at h
    have e2 : ((pl + (m - q) : Nat) : Int) = (v0.place : Int) + (m : Int) := by omega
    have h : Q (.tup [.int ((pl + (m - q) : Nat) : Int), .int (cs.length : Int), kD cs.getLast?, .int r, .non]) n := h
    rw [e2] at h
    walk_at "w"
    refine .dec (fun _ => ?_) (fun _ => ?_)
    · walk_at "w"
      cases hL : cs.getLast? <;> (rw [hL] at h; walk_at "w"; exact h)
    · walk_at "w"
      cases hL : cs.getLast? <;> (rw [hL] at h; walk_at "w"; exact h)
  | some s =>
    obtain rfl : rf = none := by
      cases rf with
      | none => rfl
      | some r => exact nomatch ok.ref
    have sk : SdOk ws s := ok.ok s rfl
    walk_at "w"
    refine .dec (fun hlt => ?_) (fun hge => ?_)
    · have hlt : q < m := by
        have : (pl : Int) < (v0.place : Int) + (m : Int) := hlt
        omega
      walk_at "w"
      refine ⟨_, (fun _ _ h => h), ?_⟩
      unfold macD
      walk_at "w"
      refine ⟨⟨1, 1, by decide, by decide, sd_pl dr sk.lt, sd_pl dr (come_first dr).2.lt⟩, ?_⟩
      generalize hg : @decide (D.tup [.str (wAt ns s.at_), kD s.kept, .int (s.left : Int)] = D.tup [.str (wAt ns (begS ls).at_), kD (begS ls).kept, .int ((begS ls).left : Int)]) (Classical.propDecidable _) = bg
      have hbg : bg = true → s = begS ls := fun e => sd_inj dr sk.lt (come_first dr).2.lt (of_dec (hg.trans e))
      walk_at "w"
      refine i_ahead (s := s) (ns := ns) (ls := ls) (m := m - q) dr sk (by congr 1; show (v0.place : Int) + (m : Int) - (pl : Int) = _; omega) ?_
      have f1 := ah_le (ls := ls) (z := z) (n := m - q) (s := s)
      have f2 := ah_ok (n := m - q) (z := z) dr sk
      have f3 := ah_run (ls := ls) (z := z) (n := m - q) (w := ⟨pl, cs, none, some s⟩) rfl
      have f4 := fun (o : Option Sd) (c : Bool) (p : Nat) (h : aheadG ls z (m - q) s = (p, o, c)) (he : o = none ∨ c = true) => ah_same h he (Nat.le_refl p)
      generalize aheadG ls z (m - q) s = r at f1 f2 f3 f4
      obtain ⟨p, o, c⟩ := r
      obtain ⟨g1, g2, g3⟩ := f1
      have g1 : p ≤ m - q := g1
      have h3 : 1 ≤ p := g3 (by omega)
      obtain ⟨k1, k2, k3⟩ := f2
      have fin : ∀ (v' : Wk) (k : Nat), runW ls ⟨pl, cs, none, some s⟩ (List.replicate k z) = v' → 1 ≤ k → q + k ≤ m → m - (q + k) < μ ∧ runW ls v0 (List.replicate (q + k) z) = v' ∧ WkOk ws v' ∧ v'.place = v0.place + (q + k) := fun v' k e h1 h2 => by
        have e2 : runW ls v0 (List.replicate (q + k) z) = v' := by rw [← List.replicate_append_replicate, runW_app, hv, e]
        refine ⟨by omega, e2, by rw [← e]; exact ok.run dr, ?_⟩
        rw [← e2, run_place, List.length_replicate]
      cases o with
      | none =>
        obtain rfl : c = false := k2 rfl
        obtain ⟨a1, a2, a3, a4⟩ := fin _ _ f3 h3 (by omega)
        cases bg
        · walk_at "w"
          refine ⟨mulB (by decide) (by show (p : Int).natAbs < 2 ^ 200; omega), ?_⟩
          walk_at "w"
          exact ⟨_, a1, _, _, _, _, _, _, _, _, _, _, _, rfl, rfl, a2, (by show q + p ≤ m; omega), a3, (by show (pl : Int) + 1 * (p : Int) = ((pl + p : Nat) : Int); omega), a4, rfl, rfl, (by show D.int ((pl : Int) + 1 * (p : Int)) = D.int ((pl + p : Nat) : Int); congr 1; omega), rfl, rfl⟩
        · walk_at "w"
          refine ⟨mulB (by decide) (by show (p : Int).natAbs < 2 ^ 200; omega), ?_⟩
          walk_at "w"
          exact ⟨_, a1, _, _, _, _, _, _, _, _, _, _, _, rfl, rfl, a2, (by show q + p ≤ m; omega), a3, (by show (pl : Int) + 1 * (p : Int) = ((pl + p : Nat) : Int); omega), a4, rfl, rfl, (by show D.int ((pl : Int) + 1 * (p : Int)) = D.int ((pl + p : Nat) : Int); congr 1; omega), rfl, rfl⟩
      | some s' =>
        cases c with
        | false =>
          obtain ⟨a1, a2, a3, a4⟩ := fin _ _ f3 h3 (by omega)
          cases bg
          · walk_at "w"
            refine ⟨mulB (by decide) (by show (p : Int).natAbs < 2 ^ 200; omega), ?_⟩
            walk_at "w"
            exact ⟨_, a1, _, _, _, _, _, _, _, _, _, _, _, rfl, rfl, a2, (by show q + p ≤ m; omega), a3, (by show (pl : Int) + 1 * (p : Int) = ((pl + p : Nat) : Int); omega), a4, rfl, rfl, rfl, rfl, rfl⟩
          · walk_at "w"
            refine ⟨mulB (by decide) (by show (p : Int).natAbs < 2 ^ 200; omega), ?_⟩
            walk_at "w"
            exact ⟨_, a1, _, _, _, _, _, _, _, _, _, _, _, rfl, rfl, a2, (by show q + p ≤ m; omega), a3, (by show (pl : Int) + 1 * (p : Int) = ((pl + p : Nat) : Int); omega), a4, rfl, rfl, rfl, rfl, rfl⟩
        | true =>
          cases bg with
          | false =>
            obtain ⟨a1, a2, a3, a4⟩ := fin _ _ f3 h3 (by omega)
            walk_at "w"
            refine ⟨mulB (by decide) (by show (p : Int).natAbs < 2 ^ 200; omega), ?_⟩
            walk_at "w"
            exact ⟨_, a1, _, _, _, _, _, _, _, _, _, _, _, rfl, rfl, a2, (by show q + p ≤ m; omega), a3, (by show (pl : Int) + 1 * (p : Int) = ((pl + p : Nat) : Int); omega), a4, (by show (cs.length : Int) + 1 = ((cs ++ [_]).length : Int); rw [List.length_append]; rfl), (by show D.int ((pl : Int) + 1 * (p : Int)) = kD (cs ++ [((pl + p : Nat) : Int)]).getLast?; rw [List.getLast?_append]; show _ = D.int ((pl + p : Nat) : Int); congr 1; omega), rfl, rfl, rfl⟩
          | true =>
            obtain rfl := hbg rfl
            have e' : s' = begS ls := Option.some.inj (k3 rfl)
            subst e'
            obtain ⟨cs', b1, b2, b3⟩ := ah_times (f4 _ _ _ rfl (.inr rfl)) ((m - q) / p) ⟨pl, cs, none, some (begS ls)⟩ rfl
            have hd := Nat.div_mul_le_self (m - q) p
            have hd2 : 1 ≤ (m - q) / p := Nat.div_pos g1 h3
            have hd3 : 1 ≤ (m - q) / p * p := Nat.mul_pos hd2 h3
            obtain ⟨a1, a2, a3, a4⟩ := fin _ _ b1 hd3 (by omega)
            have e1 : ((v0.place : Int) + (m : Int) - (pl : Int)) / (p : Int) = (((m - q) / p : Nat) : Int) := by
              rw [show (v0.place : Int) + (m : Int) - (pl : Int) = ((m - q : Nat) : Int) by omega, Int.natCast_ediv]
            walk_at "w"
            refine ⟨⟨(by show (0 : Int) < (p : Int); omega), (by show (p : Int).natAbs.log2 < 9000; exact Nat.lt_of_lt_of_le (log2_small (k := 200) (by omega) (by decide)) (by decide))⟩, ?_⟩
            walk_at "w"
            refine ⟨mulB (by show (((v0.place : Int) + (m : Int) - (pl : Int)) / (p : Int)).natAbs < 2 ^ 200; rw [e1]; have := Nat.div_le_self (m - q) p; omega) (by show (p : Int).natAbs < 2 ^ 200; omega), ?_⟩
            walk_at "w"
            have e2 : (pl : Int) + ((v0.place : Int) + (m : Int) - (pl : Int)) / (p : Int) * (p : Int) = ((pl + (m - q) / p * p : Nat) : Int) := by rw [e1]; omega
            exact ⟨_, a1, _, _, _, _, _, _, _, _, _, _, _, rfl, rfl, a2, (by show q + (m - q) / p * p ≤ m; omega), a3, e2, a4, (by show (cs.length : Int) + ((v0.place : Int) + (m : Int) - (pl : Int)) / (p : Int) = ((cs ++ cs').length : Int); rw [e1, List.length_append, b2]; rfl), (by show D.int ((pl : Int) + ((v0.place : Int) + (m : Int) - (pl : Int)) / (p : Int) * (p : Int)) = kD (cs ++ cs').getLast?; rw [List.getLast?_append, b3 hd2, e2]; rfl), rfl, rfl, rfl⟩
    · have e : q = m := by
        have : ¬ (pl : Int) < (v0.place : Int) + (m : Int) := hge
        omega
      subst e
      rw [hv] at h
      have e2 : (v0.place : Int) + (q : Int) = (pl : Int) := by omega
      have h : Q (.tup [.int (pl : Int), .int (cs.length : Int), kD cs.getLast?, .non, sdD ns s]) n := h
      rw [← e2] at h
      walk_at "w"
      cases hL : cs.getLast? <;> (rw [hL] at h; walk_at "w"; exact h)
end
end Lw

namespace Lw
open PySem L2
open Evl Da
local macro_rules
  | `(tactic| walk_at "f") => `(tactic| first | exact lookF_put | exact lookF_hit | exact (lookF_skip (by decide +kernel) lookF_hit) | exact (lookF_skip (by decide +kernel) (lookF_skip (by decide +kernel) lookF_hit)) | exact (lookF_skip (by decide +kernel) (lookF_skip (by decide +kernel) (lookF_skip (by decide +kernel) lookF_hit))) | exact (lookF_skip (by decide +kernel) (lookF_skip (by decide +kernel) (lookF_skip (by decide +kernel) (lookF_skip (by decide +kernel) lookF_hit)))) | exact (lookF_skip (by decide +kernel) (lookF_skip (by decide +kernel) (lookF_skip (by decide +kernel) (lookF_skip (by decide +kernel) (lookF_skip (by decide +kernel) lookF_hit))))) | exact (lookF_skip (by decide +kernel) (lookF_skip (by decide +kernel) (lookF_skip (by decide +kernel) (lookF_skip (by decide +kernel) (lookF_skip (by decide +kernel) (lookF_skip (by decide +kernel) lookF_hit)))))) | ((refine lookF_other (by decide +kernel) ?_); walk_at "f") | ((refine lookF_skip (by decide +kernel) ?_); walk_at "f"))
  | `(tactic| walk_at "fl") => `(tactic| first | exact Nat.zero_lt_succ _ | ((refine putFD_lt ?_); walk_at "fl"))
  | `(tactic| walk_at "a") => `(tactic| first | exact le1000 (Nat.le_of_ble_eq_true rfl) | exact rfl | decide +kernel | exact And.intro (by with_reducible assumption) (by with_reducible assumption) | exact And.intro (And.intro (by with_reducible assumption) (by with_reducible assumption)) (by walk_at "fl"))
  | `(tactic| walk_at "w") => `(tactic| ((conv => whnf); repeat ((first | ((with_reducible refine And.intro ?_ ?_); (focus (walk_at "a"))) | ((with_reducible refine Br.yes ?_ ?_); (focus (first | exact rfl | decide +kernel))) | ((with_reducible refine Br.no ?_ ?_); (focus (first | exact rfl | decide +kernel))) | ((with_reducible refine ex_fld ?_); (refine fld_w (by walk_at "f") ?_)) | ((with_reducible refine ex_at ?_); (refine at_w rfl ?_))); (conv => whnf))))
  | `(tactic| walk_at "n") => `(tactic| ((try dsimp only [st0, st1, S.at, S.drop, S.own, S.put, S.frz, Src.n] at *); omega))
  | `(tactic| walk_at "draw") => `(tactic| ((try walk_at "w"); (refine i_draw ⟨by walk_at "n", by walk_at "n", by walk_at "n"⟩ ?_)))
open Jn (Rn expand)
theorem i_over {pn : Option (Addr × Addr)} {n : Nat} {Q : D → Nat → Prop} {X : XD} {C : Addr} {ns ws : List Str} {ls : List Li} {v : Wk} {m : Nat} {z : Int} {b c : D} (dr : Drawn ns ws ls) (ok : WkOk ws v) (hm : m < 2 ^ 200) (e1 : b = crsD ns v) (e2 : c = .int (m : Int)) (h : Q (crsD ns (runW ls v (List.replicate m z))) n) : dOver C pn (macD C ns ls) b c (.int z) n Q X := by
  unfold dOver
  exact ⟨ns, ws, ls, v, m, z, rfl, e1, e2, rfl, dr, ok, hm, h⟩
theorem expand_take {rs : List Rn} {i : Nat} {r : Rn} (h : rs[i]? = some r) : expand (rs.take (i + 1)) = expand (rs.take i) ++ List.replicate r.1.toNat r.2 := by rw [take_more h, Jn.expand_app, Jn.expand_one]
theorem run_few {rs : List Rn} {i : Nat} {r : Rn} (h : rs[i]? = some r) : (expand (rs.take i)).length + r.1.toNat ≤ (expand rs).length := by
  have e := Jn.expand_app (rs.take (i + 1)) (rs.drop (i + 1))
  rw [List.take_append_drop, expand_take h] at e
  rw [e, List.length_append, List.length_append, List.length_replicate]
  omega
def lineW (ns : List Str) : Option Sd → Option Str
  | none => none
  | some s => some (wAt ns s.at_)
def keptW : Option Sd → Option Int
  | none => none
  | some s => s.kept
def leftW : Option Sd → Int
  | none => 0
  | some s => (s.left : Int)
def endT (pl : Int) : Option Int → Int
  | none => pl
  | some r => r
def insT (pl : Int) (rf : Option Int) : Option Int → Int
  | none => endT pl rf
  | some l => endT pl rf - l
def insW (w : Wk) : Int := insT (w.place : Int) w.ref w.cuts.getLast?
/-- what is told of a walk -/
def ttW (ns : List Str) (w : Wk) : TT := ⟨(w.cuts.length : Int), w.cuts.getLast?, w.ref, insW w, lineW ns w.sd, keptW w.sd, leftW w.sd⟩
theorem ttW_ok {ns ws : List Str} {ls : List Li} (dr : Drawn ns ws ls) {w : Wk} (h : WkOk ws w) : TOk (ttW ns w) := ⟨fun x e => by
  obtain ⟨a, b, c, d⟩ := w
  cases d with
  | none => cases e
  | some s =>
    cases e
    exact name_ok dr (h.ok s rfl).lt⟩
section
variable {P : Program} {w : World} {K : PySem.W.Frag} {mg : Str → Option Value} {base : Heap}
@[irreducible] def dCourse (C R : Addr) : R3 := fun _ a b c n Q _ => ∃ (ns ws : List Str) (ls : List Li) (v : Wk) (rs : List Rn), a = macD C ns ls ∧ b = crsD ns v ∧ c = rowG R rs ∧ Drawn ns ws ls ∧ WkOk ws v ∧ RunsOk rs ∧ (expand rs).length < 2 ^ 200 ∧ Q (crsD ns (runW ls v (expand rs))) n
theorem ok_course_over (T : Tx w K mg) : FnOk P w K mg base CX0 9 T.f_course_over T.d_course_over ["machine", "course", "row"] (Da.upSp K (sp3 (dCourse T.c_Machine T.c_Row))) := by
  refine T.F_course_over.ok sc_course_over (fun vs H Q E h => Da.up_len3 h) (fun cdv A outer s H vs Q E hr h => ?_)
  refine ⟨_, (pss_cons (ps_for PassesOwn.never rfl (Da.seqK (K := K) rfl (Da.fldK (K := K) rfl (pv 2) rfl)) (Da.gtupK (n := 2) (K := K) rfl (by rfl) (pgs_cons (pg_name (i := 3) sc_course_over.nd rfl (Or.inl rfl)) (pgs_cons (pg_name (i := 4) sc_course_over.nd rfl (Or.inl rfl)) pgs_nil)))
        (pss_one (ps_set (i := 1) sc_course_over.nd rfl (Or.inl rfl) (pe_call (ok_over_run T) (hr.mono (by decide)) rfl T.m_over_run T.F_over_run.kp T.b_over_run .nil pass0 (pa_cons (pv 0) (pa_cons (pv 1) (pa_cons (pv 3) (pa_cons (pv 4) pa_nil))))))))
      (pss_one (ps_ret (pv 1)))), Da.go_up3 h ?_⟩
  intro pn a b c n Q _ h
  unfold dCourse at h
  obtain ⟨ns, ws, ls, v, rs, rfl, rfl, rfl, dr, ok, ho, hl, h⟩ := h
  have c1 := T.cl_Row
  have c2 := T.n_Row_runs
  have e0 : rowG T.c_Row rs = .obj T.c_Row [("runs", .tup (rs.map runD))] := rfl
  rw [e0]
  walk_at "w"
  refine for_inv (fun i Γ s => ∃ u3 u4 : Option D, Γ = [some (macD T.c_Machine ns ls), some (crsD ns (runW ls v (expand (rs.take i)))), some (.obj T.c_Row [("runs", .tup (rs.map runD))]), u3, u4] ∧ s = st0 n pn) ⟨_, _, rfl, rfl⟩ ?_ ?_
  · rintro i d _ _ hi hd ⟨u3, u4, rfl, rfl⟩
    obtain ⟨r, hr, rfl⟩ := runs_at (seq_at hd)
    have hf := run_few hr
    have h1 := ho.pos r (List.mem_of_getElem? hr)
    walk_at "w"
    refine i_over (m := r.1.toNat) dr (ok.run dr) (by omega) rfl (by congr 1; omega) ?_
    rw [← runW_app, ← expand_take hr]
    walk_at "w"
    exact ⟨_, _, rfl, rfl⟩
  · rintro _ _ ⟨u3, u4, rfl, rfl⟩
    rw [runs_n, List.take_length]
    walk_at "w"
    exact h
theorem i_course {pn : Option (Addr × Addr)} {n : Nat} {Q : D → Nat → Prop} {X : XD} {C R : Addr} {ns ws : List Str} {ls : List Li} {v : Wk} {rs : List Rn} (dr : Drawn ns ws ls) (ok : WkOk ws v) (ho : RunsOk rs) (hl : (expand rs).length < 2 ^ 200) (h : Q (crsD ns (runW ls v (expand rs))) n) : dCourse C R pn (macD C ns ls) (crsD ns v) (rowG R rs) n Q X := by
  unfold dCourse
  exact ⟨ns, ws, ls, v, rs, rfl, rfl, rfl, dr, ok, ho, hl, h⟩
@[irreducible] def dToldOf (C : Addr) : R1 := fun _ a n Q _ => ∃ (ns : List Str) (v : Wk), a = crsD ns v ∧ Q (toldD C (ttW ns v)) n
theorem ok_told_of (T : Tx w K mg) : FnOk P w K mg base CX0 3 T.f_told_of T.d_told_of ["course"] (Da.upSp K (sp1 (dToldOf T.c_Told))) := by
  refine T.F_told_of.ok sc_told_of (fun vs H Q E h => Da.up_len1 h) (fun cdv A outer s H vs Q E hr h => ?_)
  refine ⟨_, (pss_cons (ps_asg (pv 0) (Da.gtupK (n := 5) (K := K) rfl (by rfl) (pgs_cons (pg_name (i := 1) sc_told_of.nd rfl (Or.inl rfl)) (pgs_cons (pg_name (i := 2) sc_told_of.nd rfl (Or.inl rfl)) (pgs_cons (pg_name (i := 3) sc_told_of.nd rfl (Or.inl rfl)) (pgs_cons (pg_name (i := 4) sc_told_of.nd rfl (Or.inl rfl)) (pgs_cons (pg_name (i := 5) sc_told_of.nd rfl (Or.inl rfl)) pgs_nil)))))))
      (pss_cons (ps_set (i := 6) sc_told_of.nd rfl (Or.inl rfl) (pe_ifExp (pt_cmpR op_isN (pv 4) pe_non (nomark _)) (pv 1) (pv 4)))
      (pss_cons (ps_set (i := 7) sc_told_of.nd rfl (Or.inl rfl) (pe_ifExp (pt_cmpR op_isN (pv 3) pe_non (nomark _)) (pv 6) (pe_op op_sub (pv 6) (pv 3))))
      (pss_cons (ps_asg (pe_ifExp (pt_cmpR op_isN (pv 5) pe_non (nomark _)) (pe_tup (pa_cons pe_non (pa_cons pe_non (pa_cons pe_int pa_nil)))) (pv 5)) (Da.gtupK (n := 3) (K := K) rfl (by rfl) (pgs_cons (pg_name (i := 8) sc_told_of.nd rfl (Or.inl rfl)) (pgs_cons (pg_name (i := 9) sc_told_of.nd rfl (Or.inl rfl)) (pgs_cons (pg_name (i := 10) sc_told_of.nd rfl (Or.inl rfl)) pgs_nil)))))
      (pss_one (ps_ret (pe_make T.mk_Told (ok_Told___init T) (hr.mono (by decide)) rfl T.m_Told T.b_Told___init .nil pass0 (pa_cons (pv 2) (pa_cons (pv 3) (pa_cons (pv 4) (pa_cons (pv 7) (pa_cons (pv 8) (pa_cons (pv 9) (pa_cons (pv 10) pa_nil)))))))))))))), Da.go_up1 h ?_⟩
  intro pn a n Q _ h
  unfold dToldOf at h
  obtain ⟨ns, ⟨pl, cs, rf, sd⟩, rfl, h⟩ := h
  have e0 : crsD ns ⟨pl, cs, rf, sd⟩ = .tup [.int (pl : Int), .int (cs.length : Int), kD cs.getLast?, kD rf, sdo ns sd] := rfl
  have e1 : ttW ns ⟨pl, cs, rf, sd⟩ = ⟨(cs.length : Int), cs.getLast?, rf, insT (pl : Int) rf cs.getLast?, lineW ns sd, keptW sd, leftW sd⟩ := rfl
  rw [e1] at h
  rw [e0]
  generalize (cs.length : Int) = m at h ⊢
  generalize cs.getLast? = la at h ⊢
  cases la <;> cases rf <;> rcases sd with _ | ⟨i, _ | k, l⟩ <;> (walk_at "w"; exact i_toldI rfl rfl rfl rfl rfl rfl rfl h)
theorem i_told_of {pn : Option (Addr × Addr)} {n : Nat} {Q : D → Nat → Prop} {X : XD} {C : Addr} {ns : List Str} {v : Wk} (h : Q (toldD C (ttW ns v)) n) : dToldOf C pn (crsD ns v) n Q X := by
  unfold dToldOf
  exact ⟨ns, v, rfl, h⟩
@[irreducible] def dRun (C R W : Addr) : R2' := fun _ a b n Q _ => ∃ (ns ws : List Str) (ls : List Li) (rs : List Rn), a = rdD R ns ls ∧ RowArg W b rs ∧ Drawn ns ws ls ∧ RunsOk rs ∧ (expand rs).length < 2 ^ 200 ∧ Q (toldD C (ttW ns (runW ls (wk0 ls) (expand rs)))) n
theorem ok_run (T : Tx w K mg) : FnOk P w K mg base CX0 10 T.f_run T.d_run ["reader", "row"] (Da.upSp K (sp2 (dRun T.c_Told T.c_Reader T.c_Row))) := by
  refine T.F_run.ok sc_run (fun vs H Q E h => Da.up_len2 h) (fun cdv A outer s H vs Q E hr h => ?_)
  refine ⟨_, (pss_cons (ps_set (i := 2) sc_run.nd rfl (Or.inl rfl) (pe_call (ok_row_of T) (hr.mono (by decide)) rfl T.m_row_of T.F_row_of.kp T.b_row_of .nil pass0 (pa_cons (pv 1) pa_nil)))
      (pss_cons (ps_set (i := 3) sc_run.nd rfl (Or.inl rfl) (pe_make T.mk_Machine (ok_Machine___init T) (hr.mono (by decide)) rfl T.m_Machine T.b_Machine___init .nil pass0 (pa_cons (pv 0) pa_nil)))
      (pss_one (ps_ret (pe_call (ok_told_of T) (hr.mono (by decide)) rfl T.m_told_of T.F_told_of.kp T.b_told_of .nil pass0 (pa_cons (pe_call (ok_course_over T) (hr.mono (by decide)) rfl T.m_course_over T.F_course_over.kp T.b_course_over .nil pass0 (pa_cons (pv 3) (pa_cons (pe_call (ok_course_begun T) (hr.mono (by decide)) rfl T.m_course_begun T.F_course_begun.kp T.b_course_begun .nil pass0 (pa_cons (pv 3) pa_nil)) (pa_cons (pv 2) pa_nil)))) pa_nil)))))), Da.go_up2 h ?_⟩
  intro pn a b n Q _ h
  unfold dRun at h
  obtain ⟨ns, ws, ls, rs, rfl, hb, dr, ho, hl, h⟩ := h
  have er : ∀ (C : Addr), rdD C ns ls = .obj C [("lines", .tup (linesD ns ls true))] := fun C => rfl
  rw [er]
  cases hb with
  | lst h1 h2 =>
    walk_at "w"
    refine i_row_of (.lst h1 h2) ?_
    walk_at "w"
    refine i_machI dr ?_
    walk_at "w"
    refine i_begun (ls := ls) ?_
    walk_at "w"
    refine i_course dr (wk0_ok dr) ho hl ?_
    walk_at "w"
    refine i_told_of ?_
    walk_at "w"
    exact h
  | tup h1 h2 =>
    walk_at "w"
    refine i_row_of (.tup h1 h2) ?_
    walk_at "w"
    refine i_machI dr ?_
    walk_at "w"
    refine i_begun (ls := ls) ?_
    walk_at "w"
    refine i_course dr (wk0_ok dr) ho hl ?_
    walk_at "w"
    refine i_told_of ?_
    walk_at "w"
    exact h
  | row =>
    have ew : rowG T.c_Row rs = .obj T.c_Row [("runs", .tup (rs.map runD))] := rfl
    rw [ew]
    walk_at "w"
    refine i_row_of .row ?_
    walk_at "w"
    refine i_machI dr ?_
    walk_at "w"
    refine i_begun (ls := ls) ?_
    walk_at "w"
    refine i_course dr (wk0_ok dr) ho hl ?_
    walk_at "w"
    refine i_told_of ?_
    walk_at "w"
    exact h
theorem i_runG {pn : Option (Addr × Addr)} {n : Nat} {Q : D → Nat → Prop} {X : XD} {C R W : Addr} {ns ws : List Str} {ls : List Li} {rs : List Rn} {b : D} (dr : Drawn ns ws ls) (hb : RowArg W b rs) (ho : RunsOk rs) (hl : (expand rs).length < 2 ^ 200) (h : Q (toldD C (ttW ns (runW ls (wk0 ls) (expand rs)))) n) : dRun C R W pn (rdD R ns ls) b n Q X := by
  unfold dRun
  exact ⟨ns, ws, ls, rs, rfl, hb, dr, ho, hl, h⟩
theorem i_run {pn : Option (Addr × Addr)} {n : Nat} {Q : D → Nat → Prop} {X : XD} {C R W : Addr} {ns ws : List Str} {ls : List Li} {cs : List Int} {b : D} (dr : Drawn ns ws ls) (hb : b = .lst (intsD cs) ∨ b = .tup (intsD cs) ∨ b = rowD W cs) (hc : ∀ c ∈ cs, 0 ≤ c) (hl : cs.length ≤ 1000) (h : Q (toldD C (ttW ns (runW ls (wk0 ls) cs))) n) : dRun C R W pn (rdD R ns ls) b n Q X := by
  refine i_runG dr (RowArg.of hb hc hl) (rowR_runs hl) ?_ ?_
  · rw [(rowR_ok cs).2]; exact Nat.lt_of_le_of_lt hl (by decide)
  · rw [(rowR_ok cs).2]; exact h
end
end Lw

namespace Lw
open PySem L2
open Evl Da
local macro_rules
  | `(tactic| walk_at "f") => `(tactic| first | exact lookF_put | exact lookF_hit | exact (lookF_skip (by decide +kernel) lookF_hit) | exact (lookF_skip (by decide +kernel) (lookF_skip (by decide +kernel) lookF_hit)) | exact (lookF_skip (by decide +kernel) (lookF_skip (by decide +kernel) (lookF_skip (by decide +kernel) lookF_hit))) | exact (lookF_skip (by decide +kernel) (lookF_skip (by decide +kernel) (lookF_skip (by decide +kernel) (lookF_skip (by decide +kernel) lookF_hit)))) | exact (lookF_skip (by decide +kernel) (lookF_skip (by decide +kernel) (lookF_skip (by decide +kernel) (lookF_skip (by decide +kernel) (lookF_skip (by decide +kernel) lookF_hit))))) | exact (lookF_skip (by decide +kernel) (lookF_skip (by decide +kernel) (lookF_skip (by decide +kernel) (lookF_skip (by decide +kernel) (lookF_skip (by decide +kernel) (lookF_skip (by decide +kernel) lookF_hit)))))) | ((refine lookF_other (by decide +kernel) ?_); walk_at "f") | ((refine lookF_skip (by decide +kernel) ?_); walk_at "f"))
  | `(tactic| walk_at "fl") => `(tactic| first | exact Nat.zero_lt_succ _ | ((refine putFD_lt ?_); walk_at "fl"))
  | `(tactic| walk_at "a") => `(tactic| first | exact le1000 (Nat.le_of_ble_eq_true rfl) | exact rfl | decide +kernel | exact And.intro (by with_reducible assumption) (by with_reducible assumption) | exact And.intro (And.intro (by with_reducible assumption) (by with_reducible assumption)) (by walk_at "fl"))
  | `(tactic| walk_at "w") => `(tactic| ((conv => whnf); repeat ((first | ((with_reducible refine And.intro ?_ ?_); (focus (walk_at "a"))) | ((with_reducible refine Br.yes ?_ ?_); (focus (first | exact rfl | decide +kernel))) | ((with_reducible refine Br.no ?_ ?_); (focus (first | exact rfl | decide +kernel))) | ((with_reducible refine ex_fld ?_); (refine fld_w (by walk_at "f") ?_)) | ((with_reducible refine ex_at ?_); (refine at_w rfl ?_))); (conv => whnf))))
  | `(tactic| walk_at "n") => `(tactic| ((try dsimp only [st0, st1, S.at, S.drop, S.own, S.put, S.frz, Src.n] at *); omega))
  | `(tactic| walk_at "draw") => `(tactic| ((try walk_at "w"); (refine i_draw ⟨by walk_at "n", by walk_at "n", by walk_at "n"⟩ ?_)))
open Jn (Rn expand)
theorem run_out {ls : List Li} : ∀ {zs : List Int} {w : Wk}, w.sd = none → runW ls w zs = ⟨w.place + zs.length, w.cuts, w.ref, none⟩
  | [], w, h => by
    obtain ⟨a, b, c, d⟩ := w
    have h : d = none := h
    subst h
    rfl
  | z :: r, w, h => by
    obtain ⟨a, b, c, d⟩ := w
    have h : d = none := h
    subst h
    rw [runW_cons]
    have e : stepW ls ⟨a, b, c, none⟩ z = ⟨a + 1, b, c, none⟩ := rfl
    rw [e, run_out rfl]
    show (⟨a + 1 + r.length, b, c, none⟩ : Wk) = ⟨a + (r.length + 1), b, c, none⟩
    rw [show a + 1 + r.length = a + (r.length + 1) by omega]
theorem runs_cut {rs : List Rn} {i : Nat} {r : Rn} (h : rs[i]? = some r) {q : Nat} (hq : q ≤ r.1.toNat) : ∃ zs, expand rs = expand (rs.take i) ++ List.replicate q r.2 ++ zs := by
  have e := Jn.expand_app (rs.take (i + 1)) (rs.drop (i + 1))
  rw [List.take_append_drop, expand_take h] at e
  refine ⟨List.replicate (r.1.toNat - q) r.2 ++ expand (rs.drop (i + 1)), ?_⟩
  rw [e, List.append_assoc, List.append_assoc, ← List.append_assoc (List.replicate q r.2), List.replicate_append_replicate, show q + (r.1.toNat - q) = r.1.toNat by omega]
section
variable {P : Program} {w : World} {K : PySem.W.Frag} {mg : Str → Option Value} {base : Heap}
@[irreducible] def dShown (C R : Addr) : R2' := fun _ a b n Q _ => ∃ (ns ws : List Str) (ls : List Li) (rs : List Rn), a = macD C ns ls ∧ b = rowG R rs ∧ Drawn ns ws ls ∧ RunsOk rs ∧ (expand rs).length ≤ 1000 ∧ Q (.tup [.lst (intsD (runW ls (wk0 ls) (expand rs)).cuts), kD (runW ls (wk0 ls) (expand rs)).ref]) n
theorem ok_shown (T : Tx w K mg) : FnOk P w K mg base CX0 8 T.f_shown T.d_shown ["machine", "row"] (Da.upSp K (sp2 (dShown T.c_Machine T.c_Row))) := by
  refine T.F_shown.ok sc_shown (fun vs H Q E h => Da.up_len2 h) (fun cdv A outer s H vs Q E hr h => ?_)
  refine ⟨_, (pss_cons (Da.ps_own 1 (ps_set (i := 2) sc_shown.nd rfl (Or.inl rfl) (pe_lst pa_nil)))
      (pss_cons (ps_set (i := 3) sc_shown.nd rfl (Or.inl rfl) (Da.fldK (K := K) rfl (pv 0) rfl))
      (pss_cons (ps_set (i := 4) sc_shown.nd rfl (Or.inl rfl) pe_int)
      (pss_cons (ps_for PassesOwn.never rfl (Da.seqK (K := K) rfl (Da.fldK (K := K) rfl (pv 1) rfl)) (Da.gtupK (n := 2) (K := K) rfl (by rfl) (pgs_cons (pg_name (i := 5) sc_shown.nd rfl (Or.inl rfl)) (pgs_cons (pg_name (i := 6) sc_shown.nd rfl (Or.inl rfl)) pgs_nil)))
        (pss_cons (ps_set (i := 7) sc_shown.nd rfl (Or.inl rfl) (pv 4))
        (pss_cons (ps_set (i := 4) sc_shown.nd rfl (Or.inl rfl) (pe_op (Da.addK (K := K) rfl) (pv 4) (pv 5)))
        (pss_one (ps_while PassesOwn.never (pt_cmpR op_lt (pv 7) (pv 4) (nomark _))
          (pss_cons (ps_asg (pe_meth (pv 0) T.cl_Machine T.h_Machine_ahead (ok_Machine_ahead T) (hr.mono (by decide)) T.b_Machine_ahead .nil pass0 (pa_cons (pv 3) (pa_cons (pv 6) (pa_cons (pe_op op_sub (pv 4) (pv 7)) pa_nil)))) (Da.gtupK (n := 2) (K := K) rfl (by rfl) (pgs_cons (pg_name (i := 8) sc_shown.nd rfl (Or.inl rfl)) (pgs_cons (Da.gtupK (n := 2) (K := K) rfl (by rfl) (pgs_cons (pg_name (i := 3) sc_shown.nd rfl (Or.inl rfl)) (pgs_cons (pg_name (i := 9) sc_shown.nd rfl (Or.inl rfl)) pgs_nil))) pgs_nil))))
          (pss_cons (ps_set (i := 7) sc_shown.nd rfl (Or.inl rfl) (pe_op (Da.addK (K := K) rfl) (pv 7) (pv 8)))
          (pss_cons (ps_if (pt_cmpR (Da.eqK (K := K) rfl hr.units) (pv 9) (pe_glob (v := .str "refuse") rfl T.m_REFUSE ⟨_, rfl⟩) (nomark _))
            (pss_one (ps_ret (pe_tup (pa_cons (pv 2) (pa_cons (pv 7) pa_nil)))))
            pss_nil)
          (pss_one (ps_if (pt_cmpR (Da.eqK (K := K) rfl hr.units) (pv 9) (pe_glob (v := .str "cut") rfl T.m_CUT ⟨_, rfl⟩) (nomark _))
            (pss_one (ps_expr (Da.bmK (K := K) rfl PySem.F.plainAttrs_list PySem.F.slot_list_append PySem.F.type_list_append mt_append (pv 2) (pa_cons (pv 7) pa_nil))))
            pss_nil))))))))))
      (pss_one (ps_ret (pe_tup (pa_cons (pv 2) (pa_cons pe_non pa_nil))))))))), Da.go_up2 h ?_⟩
  intro pn a b n Q _ h
  unfold dShown at h
  obtain ⟨ns, ws, ls, rs, rfl, rfl, dr, ho, hl, h⟩ := h
  have c1 := T.cl_Row
  have c2 := T.n_Row_runs
  have c3 := T.cl_Machine
  have c4 := T.n_Machine_begin
  have rk := ho.pos
  have e0 : rowG T.c_Row rs = .obj T.c_Row [("runs", .tup (rs.map runD))] := rfl
  rw [e0]
  have em : macD T.c_Machine ns ls = .obj T.c_Machine (macF ns ls [("begin", sdD ns (begS ls))]) := rfl
  rw [em]
  walk_at "w"
  intro lf
  walk_at "w"
  refine for_inv (fun i Γ st => ∃ (v : Wk) (s : Sd) (E : Int) (u5 u6 u7 u8 u9 : Option D), Γ = [some (.obj T.c_Machine (macF ns ls [("begin", sdD ns (begS ls))])), some (.obj T.c_Row [("runs", .tup (rs.map runD))]), some (.loc lf 1), some (sdD ns s), some (.int E), u5, u6, u7, u8, u9] ∧ st = ⟨[⟨1, lf, .lst (intsD v.cuts), false⟩], n, pn⟩ ∧ runW ls (wk0 ls) (expand (rs.take i)) = v ∧ v.sd = some s ∧ WkOk ws v ∧ E = v.place) ⟨wk0 ls, begS ls, _, _, _, _, _, _, rfl, rfl, rfl, rfl, wk0_ok dr, rfl⟩ ?_ ?_
  · rintro i d _ _ hi hd ⟨v, s, E, u5, u6, u7, u8, u9, rfl, rfl, hv, hs, ok, rfl⟩
    obtain ⟨r, hr, rfl⟩ := runs_at (seq_at hd)
    have hf := run_few hr
    have h1 := rk r (List.mem_of_getElem? hr)
    have hp : v.place = (expand (rs.take i)).length := by rw [← hv, run_place]; exact Nat.zero_add _
    walk_at "w"
    refine while_inv (fun μ Γ st => ∃ (v' : Wk) (s' : Sd) (q : Nat) (P : Int) (u8 u9 : Option D), Γ = [some (.obj T.c_Machine (macF ns ls [("begin", sdD ns (begS ls))])), some (.obj T.c_Row [("runs", .tup (rs.map runD))]), some (.loc lf 1), some (sdD ns s'), some (.int ((v.place : Int) + r.1)), some (.int r.1), some (.int r.2), some (.int P), u8, u9] ∧ st = ⟨[⟨1, lf, .lst (intsD v'.cuts), false⟩], n, pn⟩ ∧ runW ls v (List.replicate q r.2) = v' ∧ v'.sd = some s' ∧ WkOk ws v' ∧ P = v'.place ∧ v'.place = v.place + q ∧ q ≤ r.1.toNat ∧ μ = r.1.toNat - q) (r.1.toNat - 0) ⟨v, s, 0, _, _, _, rfl, rfl, rfl, hs, ok, rfl, rfl, Nat.zero_le _, rfl⟩ ?_
    rintro μ _ _ ⟨⟨pl, ct, rf, sd⟩, s', q, P, u8, u9, rfl, rfl, hv', hs', ok', rfl, hpl, hq, hμ⟩
    have hs' : sd = some s' := hs'
    subst hs'
    have hpl : pl = v.place + q := hpl
    obtain rfl : rf = none := by
      cases rf with
      | none => rfl
      | some r => exact nomatch ok'.ref
    have sk : SdOk ws s' := ok'.ok s' rfl
    walk_at "w"
    refine .dec (fun hlt => ?_) (fun hge => ?_)
    · have hlt : q < r.1.toNat := by
        have : (pl : Int) < (v.place : Int) + r.1 := hlt
        omega
      refine ⟨_, (fun _ _ h => h), ?_⟩
      walk_at "w"
      refine i_ahead (s := s') (ns := ns) (ls := ls) (m := r.1.toNat - q) dr sk (by congr 1; show (v.place : Int) + r.1 - (pl : Int) = _; omega) ?_
      have f1 := ah_le (ls := ls) (z := r.2) (n := r.1.toNat - q) (s := s')
      have f2 := ah_ok (n := r.1.toNat - q) (z := r.2) dr sk
      have f3 := ah_run (ls := ls) (z := r.2) (n := r.1.toNat - q) (w := ⟨pl, ct, none, some s'⟩) rfl
      generalize aheadG ls r.2 (r.1.toNat - q) s' = x at f1 f2 f3
      obtain ⟨p, o, c⟩ := x
      obtain ⟨g1, g2, g3⟩ := f1
      have g1 : p ≤ r.1.toNat - q := g1
      have h3 : 1 ≤ p := g3 (by omega)
      obtain ⟨k1, k2, k3⟩ := f2
      have fin : ∀ (v' : Wk), runW ls ⟨pl, ct, none, some s'⟩ (List.replicate p r.2) = v' → r.1.toNat - (q + p) < μ ∧ runW ls v (List.replicate (q + p) r.2) = v' ∧ WkOk ws v' ∧ v'.place = v.place + (q + p) := fun v' e => by
        have e2 : runW ls v (List.replicate (q + p) r.2) = v' := by rw [← List.replicate_append_replicate, runW_app, hv', e]
        refine ⟨by omega, e2, by rw [← e]; exact ok'.run dr, ?_⟩
        rw [← e2, run_place, List.length_replicate]
      obtain ⟨a1, a2, a3, a4⟩ := fin _ f3
      cases o with
      | none =>
        obtain rfl : c = false := k2 rfl
        obtain ⟨zs, hz⟩ := runs_cut hr (q := q + p) (by omega)
        rw [hz, runW_app, runW_app, hv, a2, run_out rfl] at h
        have h : Q (.tup [.lst (intsD ct), .int ((pl + p : Nat) : Int)]) n := h
        walk_at "w"
        exact h
      | some s2 =>
        cases c with
        | false =>
          walk_at "w"
          exact ⟨_, a1, aft ⟨pl, ct, none, some s'⟩ p (some s2) false, _, _, _, _, _, rfl, rfl, a2, rfl, a3, rfl, a4, (by show q + p ≤ _; omega), rfl⟩
        | true =>
          have hfew := ok'.few
          have hfew : ct.length ≤ pl := hfew
          walk_at "w"
          refine ⟨small1000 (by rw [intsD_len]; show ct.length ≤ 1000; omega), ?_⟩
          walk_at "w"
          exact ⟨_, a1, aft ⟨pl, ct, none, some s'⟩ p (some s2) true, _, _, _, _, _, rfl, (by show _ = (⟨[⟨1, lf, .lst (intsD (ct ++ [((pl + p : Nat) : Int)])), false⟩], n, pn⟩ : S); unfold intsD; rw [List.map_append]; rfl), a2, rfl, a3, rfl, a4, (by show q + p ≤ _; omega), rfl⟩
    · have e : q = r.1.toNat := by
        have : ¬ (pl : Int) < (v.place : Int) + r.1 := hge
        omega
      subst e
      exact ⟨_, _, _, _, _, _, _, _, rfl, rfl, (by rw [expand_take hr, runW_app, hv, hv']), rfl, ok', (by show (v.place : Int) + r.1 = (pl : Int); omega)⟩
  · rintro _ _ ⟨v, s, E, u5, u6, u7, u8, u9, rfl, rfl, hv, hs, ok, rfl⟩
    rw [runs_n, List.take_length] at hv
    rw [hv] at h
    obtain ⟨pl, ct, rf, sd⟩ := v
    have hs : sd = some s := hs
    subst hs
    obtain rfl : rf = none := by
      cases rf with
      | none => rfl
      | some r => exact nomatch ok.ref
    walk_at "w"
    exact h
theorem i_shown {pn : Option (Addr × Addr)} {n : Nat} {Q : D → Nat → Prop} {X : XD} {C R : Addr} {ns ws : List Str} {ls : List Li} {rs : List Rn} (dr : Drawn ns ws ls) (ho : RunsOk rs) (hl : (expand rs).length ≤ 1000) (h : Q (.tup [.lst (intsD (runW ls (wk0 ls) (expand rs)).cuts), kD (runW ls (wk0 ls) (expand rs)).ref]) n) : dShown C R pn (macD C ns ls) (rowG R rs) n Q X := by
  unfold dShown
  exact ⟨ns, ws, ls, rs, rfl, rfl, dr, ho, hl, h⟩
@[irreducible] def dCuts (R W : Addr) : R2' := fun _ a b n Q _ => ∃ (ns ws : List Str) (ls : List Li) (rs : List Rn), a = rdD R ns ls ∧ RowArg W b rs ∧ Drawn ns ws ls ∧ RunsOk rs ∧ (expand rs).length ≤ 1000 ∧ Q (.lst (intsD (runW ls (wk0 ls) (expand rs)).cuts)) n
theorem ok_cuts (T : Tx w K mg) : FnOk P w K mg base CX0 9 T.f_cuts T.d_cuts ["reader", "row"] (Da.upSp K (sp2 (dCuts T.c_Reader T.c_Row))) := by
  refine T.F_cuts.ok sc_cuts (fun vs H Q E h => Da.up_len2 h) (fun cdv A outer s H vs Q E hr h => ?_)
  refine ⟨_, (pss_cons (ps_set (i := 2) sc_cuts.nd rfl (Or.inl rfl) (pe_call (ok_short_row_of T) (hr.mono (by decide)) rfl T.m_short_row_of T.F_short_row_of.kp T.b_short_row_of .nil pass0 (pa_cons (pv 1) pa_nil)))
      (pss_one (ps_ret (pe_ix (Da.ixK (K := K) rfl) (pe_call (ok_shown T) (hr.mono (by decide)) rfl T.m_shown T.F_shown.kp T.b_shown .nil pass0 (pa_cons (pe_make T.mk_Machine (ok_Machine___init T) (hr.mono (by decide)) rfl T.m_Machine T.b_Machine___init .nil pass0 (pa_cons (pv 0) pa_nil)) (pa_cons (pv 2) pa_nil))) pe_int (fun _ _ => rfl))))), Da.go_up2 h ?_⟩
  intro pn a b n Q _ h
  unfold dCuts at h
  obtain ⟨ns, ws, ls, rs, rfl, hb, dr, ho, hl, h⟩ := h
  have er : ∀ (C : Addr), rdD C ns ls = .obj C [("lines", .tup (linesD ns ls true))] := fun C => rfl
  rw [er]
  cases hb with
  | lst h1 h2 =>
    walk_at "w"
    refine i_short (.lst h1 h2) ho hl ?_
    walk_at "w"
    refine i_machI dr ?_
    walk_at "w"
    refine i_shown dr ho hl ?_
    walk_at "w"
    exact h
  | tup h1 h2 =>
    walk_at "w"
    refine i_short (.tup h1 h2) ho hl ?_
    walk_at "w"
    refine i_machI dr ?_
    walk_at "w"
    refine i_shown dr ho hl ?_
    walk_at "w"
    exact h
  | row =>
    have ew : rowG T.c_Row rs = .obj T.c_Row [("runs", .tup (rs.map runD))] := rfl
    rw [ew]
    walk_at "w"
    refine i_short .row ho hl ?_
    walk_at "w"
    refine i_machI dr ?_
    walk_at "w"
    refine i_shown dr ho hl ?_
    walk_at "w"
    exact h
theorem i_cutsG {pn : Option (Addr × Addr)} {n : Nat} {Q : D → Nat → Prop} {X : XD} {R W : Addr} {ns ws : List Str} {ls : List Li} {rs : List Rn} {b : D} (dr : Drawn ns ws ls) (hb : RowArg W b rs) (ho : RunsOk rs) (hl : (expand rs).length ≤ 1000) (h : Q (.lst (intsD (runW ls (wk0 ls) (expand rs)).cuts)) n) : dCuts R W pn (rdD R ns ls) b n Q X := by
  unfold dCuts
  exact ⟨ns, ws, ls, rs, rfl, hb, dr, ho, hl, h⟩
theorem i_cuts {pn : Option (Addr × Addr)} {n : Nat} {Q : D → Nat → Prop} {X : XD} {R W : Addr} {ns ws : List Str} {ls : List Li} {cs : List Int} {b : D} (dr : Drawn ns ws ls) (hb : b = .lst (intsD cs) ∨ b = .tup (intsD cs)) (hc : ∀ c ∈ cs, 0 ≤ c) (hl : cs.length ≤ 1000) (h : Q (.lst (intsD (runW ls (wk0 ls) cs).cuts)) n) : dCuts R W pn (rdD R ns ls) b n Q X := by
  have hb2 : b = .lst (intsD cs) ∨ b = .tup (intsD cs) ∨ b = rowD W cs := by
    rcases hb with h | h
    · exact .inl h
    · exact .inr (.inl h)
  refine i_cutsG dr (RowArg.of hb2 hc hl) (rowR_runs hl) ?_ ?_
  · rw [(rowR_ok cs).2]; exact hl
  · rw [(rowR_ok cs).2]; exact h
end
end Lw

/-! Where two readers part, cell by cell and by runs (own). -/
namespace Lw
open PySem PySem.Spec L2 Da
/-- the first place at which two readers are told apart by their cuts, no refusal ahead of it -/
def partF (l1 l2 : List Li) : List Int → Sd → Sd → Int → Option Int
  | [], _, _, _ => none
  | z :: r, s1, s2, pl => match (step1 l1 s1 z).1, (step1 l2 s2 z).1 with
    | some t1, some t2 => if (step1 l1 s1 z).2 = (step1 l2 s2 z).2 then partF l1 l2 r t1 t2 (pl + 1) else some (pl + 1)
    | _, _ => none
def resA (l1 l2 : List Li) (z : Int) (n : Nat) (pl : Int) (rest : List Int) (a1 a2 : Nat × Option Sd × Bool) : Option Int :=
  if a1.1 = a2.1 then match a1.2.1, a2.2.1 with
    | some t1, some t2 => if a1.2.2 = a2.2.2 then partF l1 l2 (List.replicate (n - a1.1) z ++ rest) t1 t2 (pl + (a1.1 : Nat)) else some (pl + (a1.1 : Nat))
    | _, _ => none
  else if a1.1 < a2.1 then match a1.2.1 with
    | none => none
    | some _ => some (pl + (a1.1 : Nat))
  else match a2.2.1 with
    | none => none
    | some _ => some (pl + (a2.1 : Nat))
theorem resA_eq {l1 l2 : List Li} {z : Int} {n : Nat} {pl : Int} {rest : List Int} {p q : Nat} {o1 o2 : Option Sd} {c1 c2 : Bool} (h : p = q) : resA l1 l2 z n pl rest (p, o1, c1) (q, o2, c2) = match o1, o2 with
    | some t1, some t2 => if c1 = c2 then partF l1 l2 (List.replicate (n - p) z ++ rest) t1 t2 (pl + (p : Nat)) else some (pl + (p : Nat))
    | _, _ => none := if_pos h
theorem resA_lt {l1 l2 : List Li} {z : Int} {n : Nat} {pl : Int} {rest : List Int} {p q : Nat} {o1 o2 : Option Sd} {c1 c2 : Bool} (h : p < q) : resA l1 l2 z n pl rest (p, o1, c1) (q, o2, c2) = match o1 with
    | none => none
    | some _ => some (pl + (p : Nat)) := (if_neg (show ¬ p = q by omega)).trans (if_pos h)
theorem resA_gt {l1 l2 : List Li} {z : Int} {n : Nat} {pl : Int} {rest : List Int} {p q : Nat} {o1 o2 : Option Sd} {c1 c2 : Bool} (h : q < p) : resA l1 l2 z n pl rest (p, o1, c1) (q, o2, c2) = match o2 with
    | none => none
    | some _ => some (pl + (q : Nat)) := (if_neg (show ¬ p = q by omega)).trans (if_neg (show ¬ p < q by omega))
theorem part_run {l1 l2 : List Li} {z : Int} {rest : List Int} : ∀ (n : Nat) (s1 s2 : Sd) (pl : Int), partF l1 l2 (List.replicate n z ++ rest) s1 s2 pl = resA l1 l2 z n pl rest (aheadG l1 z n s1) (aheadG l2 z n s2)
  | 0, s1, s2, pl => by
    have e1 : aheadG l1 z 0 s1 = (0, some s1, false) := rfl
    have e2 : aheadG l2 z 0 s2 = (0, some s2, false) := rfl
    rw [e1, e2, resA_eq rfl]
    show _ = if false = false then partF l1 l2 rest s1 s2 (pl + 0) else _
    rw [if_pos rfl, Int.add_zero]
    rfl
  | n + 1, s1, s2, pl => by
    rw [List.replicate_succ, List.cons_append]
    have hp : partF l1 l2 (z :: (List.replicate n z ++ rest)) s1 s2 pl = match (step1 l1 s1 z).1, (step1 l2 s2 z).1 with
      | some t1, some t2 => if (step1 l1 s1 z).2 = (step1 l2 s2 z).2 then partF l1 l2 (List.replicate n z ++ rest) t1 t2 (pl + 1) else some (pl + 1)
      | _, _ => none := rfl
    rw [hp]
    cases h1 : step1 l1 s1 z with
    | mk o1 c1 =>
    cases h2 : step1 l2 s2 z with
    | mk o2 c2 =>
    have ev : ∀ (o : Option Sd) (c : Bool), (o = none ∨ c = true) ∨ (∃ s, o = some s ∧ c = false) := fun o c => by
      cases o with
      | none => exact .inl (.inl rfl)
      | some s => cases c with
        | true => exact .inl (.inr rfl)
        | false => exact .inr ⟨s, rfl, rfl⟩
    rcases ev o1 c1 with e1 | ⟨t1, rfl, rfl⟩
    · rcases ev o2 c2 with e2 | ⟨t2, rfl, rfl⟩
      · rw [ah_end h1 e1, ah_end h2 e2, resA_eq rfl]
        cases o1 <;> cases o2 <;> rfl
      · rw [ah_end h1 e1, ah_go h2]
        rcases Nat.eq_zero_or_pos n with hn | hn
        · have h0 : (aheadG l2 z n t2).1 = 0 := by have := (ah_le (ls := l2) (z := z) (n := n) (s := t2)).1; omega
          rw [show ((aheadG l2 z n t2).1 + 1, (aheadG l2 z n t2).2) = (1, some t2, false) by subst hn; rfl, resA_eq rfl]
          cases o1 with
          | none => rfl
          | some t =>
            rcases e1 with e | e
            · cases e
            · subst e
              rfl
        · have hge := (ah_le (ls := l2) (z := z) (n := n) (s := t2)).2.2 hn
          generalize aheadG l2 z n t2 = x at hge
          obtain ⟨p2, o2, c2⟩ := x
          have hge : 1 ≤ p2 := hge
          show _ = resA l1 l2 z (n + 1) pl rest (1, o1, c1) (p2 + 1, o2, c2)
          rw [resA_lt (by omega)]
          cases o1 with
          | none => rfl
          | some t =>
            rcases e1 with e | e
            · cases e
            · subst e
              rfl
    · rcases ev o2 c2 with e2 | ⟨t2, rfl, rfl⟩
      · rw [ah_end h2 e2, ah_go h1]
        rcases Nat.eq_zero_or_pos n with hn | hn
        · rw [show ((aheadG l1 z n t1).1 + 1, (aheadG l1 z n t1).2) = (1, some t1, false) by subst hn; rfl, resA_eq rfl]
          cases o2 with
          | none => rfl
          | some t =>
            rcases e2 with e | e
            · cases e
            · subst e
              rfl
        · have hge := (ah_le (ls := l1) (z := z) (n := n) (s := t1)).2.2 hn
          generalize aheadG l1 z n t1 = x at hge
          obtain ⟨p1, o1, c1⟩ := x
          have hge : 1 ≤ p1 := hge
          show _ = resA l1 l2 z (n + 1) pl rest (p1 + 1, o1, c1) (1, o2, c2)
          rw [resA_gt (by omega)]
          cases o2 with
          | none => rfl
          | some t =>
            rcases e2 with e | e
            · cases e
            · subst e
              rfl
      · rw [ah_go h1, ah_go h2]
        show (if false = false then partF l1 l2 (List.replicate n z ++ rest) t1 t2 (pl + 1) else some (pl + 1)) = _
        rw [if_pos rfl, part_run n t1 t2 (pl + 1)]
        generalize aheadG l1 z n t1 = x
        generalize aheadG l2 z n t2 = y
        obtain ⟨p1, o1, c1⟩ := x
        obtain ⟨p2, o2, c2⟩ := y
        show resA l1 l2 z n (pl + 1) rest (p1, o1, c1) (p2, o2, c2) = resA l1 l2 z (n + 1) pl rest (p1 + 1, o1, c1) (p2 + 1, o2, c2)
        have a1 : pl + 1 + ((p1 : Nat) : Int) = pl + ((p1 + 1 : Nat) : Int) := by omega
        have a2 : pl + 1 + ((p2 : Nat) : Int) = pl + ((p2 + 1 : Nat) : Int) := by omega
        have a3 : n + 1 - (p1 + 1) = n - p1 := by omega
        rcases Nat.lt_trichotomy p1 p2 with h | h | h
        · rw [resA_lt h, resA_lt (by omega), a1]
        · rw [resA_eq h, resA_eq (by omega), a1, a3]
        · rw [resA_gt h, resA_gt (by omega), a2]
/-- whole messages of both -/
theorem part_times {l1 l2 : List Li} {z : Int} {p : Nat} {rest : List Int} (h1 : aheadG l1 z p (begS l1) = (p, some (begS l1), true)) (h2 : aheadG l2 z p (begS l2) = (p, some (begS l2), true)) : ∀ (t : Nat) (pl : Int), partF l1 l2 (List.replicate (t * p) z ++ rest) (begS l1) (begS l2) pl = partF l1 l2 rest (begS l1) (begS l2) (pl + (t * p : Nat))
  | 0, pl => by
    rw [Nat.zero_mul]
    show partF l1 l2 rest _ _ pl = partF l1 l2 rest _ _ (pl + 0)
    rw [Int.add_zero]
  | t + 1, pl => by
    have h1' := h1
    have h2' := h2
    rw [show (t + 1) * p = p + t * p by rw [Nat.add_mul, Nat.one_mul, Nat.add_comm], ← List.replicate_append_replicate, List.append_assoc, part_run, h1', h2', resA_eq rfl]
    show (if true = true then partF l1 l2 (List.replicate (p - p) z ++ (List.replicate (t * p) z ++ rest)) _ _ (pl + (p : Nat)) else _) = _
    rw [if_pos rfl, Nat.sub_self]
    show partF l1 l2 (List.replicate (t * p) z ++ rest) _ _ (pl + (p : Nat)) = _
    rw [part_times h1 h2 t]
    congr 1
    omega
end Lw

set_option maxHeartbeats 1000000
/-! zip of a tuple and a list (own). -/
namespace Da
open PySem PySem.Spec PyProof.Rows L2 Evl Hd RZ
/-- the tuple at a and the list at b, item by item, each pair a new tuple -/
def ItMix (K : PySem.W.Frag) (a b : Addr) : It where
  go i H := ∃ xs ys : List V, SqT K H a xs ∧ SqL K H b ys ∧ i < xs.length ∧ i < ys.length
  yld i H v H' := ∃ (T : Addr) (p : V × V), v = .ref T ∧ H T = none ∧ H' = upd H T (.tup [p.1, p.2]) ∧ (∀ xs, SqT K H a xs → xs[i]? = some p.1) ∧ ∀ ys, SqL K H b ys → ys[i]? = some p.2
  stop i H := ∃ xs ys : List V, SqT K H a xs ∧ SqL K H b ys ∧ i = min xs.length ys.length
/-- where the five cells of such a zip stand -/
def MixAt (z TI TO i1 i2 a b : Addr) (i : Nat) (h : Heap) : Prop := IsZip h z TI TO .none ∧ IsTupOf2 h TI (.ref i1) (.ref i2) ∧ (∃ x y, IsTupOf2 h TO x y) ∧ h.IsTupleIter i1 a i ∧ h.IsListIter i2 b i
theorem turn_mix {P : Program} {w : World} {K : PySem.W.Frag} {elts : List Expr} {kk : Nat} {tpos : Pos} {a b z TI TO i1 i2 : Addr} (S : ZipSep2 z TI TO i1 i2 [i1, a] [i2, b]) (na : a ≠ i1) (nb : b ≠ i2) :
    Turn P w K (.Tuple elts kk tpos) (ItMix K a b) [z, TI, TO, i1, i2] z (MixAt z TI TO i1 i2 a b) where
  mem := List.mem_cons_self
  obj i h st c hc := by
    obtain ⟨g1, g2, ⟨x, y, g3⟩, ⟨o1, e1, _, d1⟩, ⟨o2, e2, _, d2⟩⟩ := st
    simp only [List.mem_cons, List.not_mem_nil, or_false] at hc
    rcases hc with rfl | rfl | rfl | rfl | rfl
    · exact ⟨_, g1, fun v q => nomatch q⟩
    · exact ⟨_, g2, fun v q => nomatch q⟩
    · exact ⟨_, g3, fun v q => nomatch q⟩
    · exact ⟨o1, e1, fun v q => by rw [d1] at q; cases q⟩
    · exact ⟨o2, e2, fun v q => by rw [d2] at q; cases q⟩
  keep i h h' st k := by
    obtain ⟨g1, g2, ⟨x, y, g3⟩, g4, g5⟩ := st
    exact ⟨k z (by simp) _ g1, k TI (by simp) _ g2, ⟨x, y, k TO (by simp) _ g3⟩, g4.at fun o q => k i1 (by simp) o q, g5.at fun o q => k i2 (by simp) o q⟩
  item X hP hw hK hc i pins s σ H E I hf st hg := by
    subst hP hw hK
    obtain ⟨g1, g2, g3, g4, g5⟩ := st
    obtain ⟨xs, ys, qx, qy, lx, ly⟩ := hg
    obtain ⟨us, rx, px, _⟩ := I.tuple qx
    obtain ⟨vs, ry, py, _⟩ := I.list qy
    have hh : X.A.in1.handled = none := I.ok.hd hc
    have W := WalksT.zipD2 (prog := X.prog) (w := X.w) (A := X.A) S (Draws.tuple hh i1 a na us.toArray) (Draws.list hh i2 b nb vs.toArray)
    have l1 := rx.length
    have l2 := ry.length
    have hi : i < min us.toArray.size vs.toArray.size := by rw [List.size_toArray, List.size_toArray]; omega
    refine W.item i s _ _ hi ⟨g1, g2, g3, ⟨g4, px⟩, ⟨g5, py.isList⟩⟩ fun T vals h1 tk hv hT hO mid hk => ?_
    obtain ⟨x1, x2, e1, e2, rfl⟩ := hv
    refine ⟨_, rfl, W.go elts kk tpos i T { s with heap := h1, toks := tk } _ _ mid fun h2 st2 hk2 => ?_⟩
    obtain ⟨u1, f1, r1⟩ := rx.get (show xs[i]? = some xs[i] from List.getElem?_eq_getElem lx)
    obtain ⟨u2, f2, r2⟩ := ry.get (show ys[i]? = some ys[i] from List.getElem?_eq_getElem ly)
    obtain rfl : u1 = x1 := Option.some.inj (f1.symm.trans (by simpa using e1))
    obtain rfl : u2 = x2 := Option.some.inj (f2.symm.trans (by simpa using e2))
    obtain ⟨o, ho, hc1, n, hd⟩ := hO
    have new : ObjOk X.prog X.w (upd H T (.tup [xs[i], ys[i]])) h2 T (.tup [xs[i], ys[i]]) :=
      ⟨by show 2 ≤ sizeLine; decide, [u1, u2], .cons r1 (.cons r2 .nil), ⟨o, hk2 T o (W.apart i T h1 mid) ho, hc1, n, hd⟩⟩
    have sub : ∀ c, c ∉ [z, TI, TO, i1, i2] → c ∉ [z, TO, i1, i2] := fun c hc q => hc (by
      simp only [List.mem_cons, List.not_mem_nil, or_false] at q ⊢
      rcases q with q | q | q | q
      · exact .inl q
      · exact .inr (.inr (.inl q))
      · exact .inr (.inr (.inr (.inl q)))
      · exact .inr (.inr (.inr (.inr q))))
    have I1 : Inv X pins σ (upd H T (.tup [xs[i], ys[i]])) { s with heap := h2, toks := tk } :=
      I.turnedNew (t' := tk) (ch := [z, TI, TO, i1, i2]) (fun c o hb q => hk2 c o (sub c hb) (hk c o (sub c hb) q)) hf hT new
    refine ⟨.ref T, _, I1, rfl, ⟨T, (xs[i], ys[i]), rfl, I.hok.fresh hT, rfl, fun l hl => by rw [I.tuple_inj hl qx]; exact List.getElem?_eq_getElem lx, fun l hl => by rw [I.list_inj hl qy]; exact List.getElem?_eq_getElem ly⟩, ⟨st2.1, st2.2.1, st2.2.2.1, st2.2.2.2.1.1, st2.2.2.2.2.1⟩, fun c hcm => ?_⟩
    have lt : c < s.heap.objs.size := by
      obtain ⟨x, y, g3⟩ := g3
      have hcm := hcm
      simp only [List.mem_cons, List.not_mem_nil, or_false] at hcm
      rcases hcm with rfl | rfl | rfl | rfl | rfl
      · exact Heap.lt_size g1
      · exact Heap.lt_size g2
      · exact Heap.lt_size g3
      · obtain ⟨_, e, _⟩ := g4; exact Heap.lt_size e
      · obtain ⟨_, e, _⟩ := g5; exact Heap.lt_size e
    rw [upd_ne (Nat.ne_of_lt (Nat.lt_of_lt_of_le lt hT))]
    exact (hf c hcm).1
  done X hP hw hK hc i pins s σ H E I hf st hg := by
    subst hP hw hK
    obtain ⟨g1, g2, g3, g4, g5⟩ := st
    obtain ⟨xs, ys, qx, qy, hi⟩ := hg
    obtain ⟨us, rx, px, _⟩ := I.tuple qx
    obtain ⟨vs, ry, py, _⟩ := I.list qy
    have hh : X.A.in1.handled = none := I.ok.hd hc
    have W := WalksT.zipD2 (prog := X.prog) (w := X.w) (A := X.A) S (Draws.tuple hh i1 a na us.toArray) (Draws.list hh i2 b nb vs.toArray)
    have l1 := rx.length
    have l2 := ry.length
    have hi : min us.toArray.size vs.toArray.size = i := by rw [List.size_toArray, List.size_toArray]; omega
    refine W.done s _ _ (by rw [hi]; exact ⟨g1, g2, g3, ⟨g4, px⟩, ⟨g5, py.isList⟩⟩) fun h1 tk hk => ⟨rfl, ?_⟩
    refine I.turnedL (t' := tk) (ch := [z, TI, TO, i1, i2]) (fun c o hb q => hk c o (fun m => hb ?_) q) hf
    simp only [List.mem_cons, List.not_mem_nil, or_false] at m ⊢
    rcases m with q | q | q | q
    · exact .inl q
    · exact .inr (.inr (.inl q))
    · exact .inr (.inr (.inr (.inl q)))
    · exact .inr (.inr (.inr (.inr q)))
  self A i s Q E st h := wpAny_pyIter_zip (show IsZip s.heap z TI TO .none from st.1) h
theorem vals_two {a b : Addr} {us : List Value} (r : Vals [.ref a, .ref b] us) : us = [.ref a, .ref b] := by
  cases r with
  | cons r rr =>
    cases rr with
    | cons r' rr =>
      cases rr
      cases r
      cases r'
      rfl
def iMix (K : PySem.W.Frag) (ta : TA) : TI := fun σ H R => ta σ H fun vs H1 => ∃ a b xs ys, vs = [.ref a, .ref b] ∧ SqT K H1 a xs ∧ SqL K H1 b ys ∧ R (ItMix K a b) H1
theorem pi_mix {X : Cx} {e e2 : Expr} {ta : TA} {p pos tpos : Pos} {elts : List Expr} {kk : Nat} (hg : Gl X "zip") (hm : X.mg "zip" = none) (ha : PA X [e, e2] ta)
    (hs : starEach [e, e2] X.env = (false, eval e X.env) :: starEach [e2] X.env := by rfl) (hpl : (backTo pos (starEach [e2] X.env)).any (·.1) = false := by rfl) :
    PI X (.Tuple elts kk tpos) (.Call (.Name "zip" p) [e, e2] [] pos) (iMix X.K ta) := by
  refine ⟨fun pins s σ H R I h => Call_ (ld_blt I hg hm boot_zip (callWith_type1 (thn (ha.run pos pins s σ H _ I h) fun us s1 ⟨vs, H1, I1, r1, q1⟩ => ?_) hs hpl))⟩
  obtain ⟨a, b, xs, ys, rfl, qx, qy, q⟩ := q1
  obtain ⟨its, rx, px, _⟩ := I1.tuple qx
  obtain ⟨its2, ry, py, _⟩ := I1.list qy
  have r1 := vals_two r1
  obtain rfl := r1
  have la : a < s1.heap.objs.size := by obtain ⟨_, e, _⟩ := px; exact Heap.lt_size e
  have lb : b < s1.heap.objs.size := py.lt
  refine zip_begins2 (begins_tuple a its.toArray) (begins_list b its2.toArray) px py.isList fun h' hz hTI hTO g1 g2 hsz hk => wpAny_pyIter_zip hz ?_
  have I2 : Inv X pins σ H1 { s1 with heap := h' } := I1.kept (t' := s1.toks) hk
  have S : ZipSep2 (s1.heap.objs.size + 4) (s1.heap.objs.size + 2) (s1.heap.objs.size + 3) s1.heap.objs.size (s1.heap.objs.size + 1) [s1.heap.objs.size, a] [s1.heap.objs.size + 1, b] :=
    zip_sep2 (N := s1.heap.objs.size) (fp1 := [a]) (fp2 := [b]) (fun c hc => by rw [List.mem_singleton.mp hc]; exact la) (fun c hc => by rw [List.mem_singleton.mp hc]; exact lb)
  have lb1 : b < s1.heap.objs.size + 1 := Nat.lt_succ_of_lt lb
  have st0 : MixAt (s1.heap.objs.size + 4) (s1.heap.objs.size + 2) (s1.heap.objs.size + 3) s1.heap.objs.size (s1.heap.objs.size + 1) a b 0 h' := ⟨hz, hTI, ⟨_, _, hTO⟩, ⟨_, g1, rfl, rfl⟩, ⟨_, g2, rfl, rfl⟩⟩
  have tm := turn_mix (P := X.prog) (w := X.w) (K := X.K) (elts := elts) (kk := kk) (tpos := tpos) S (Nat.ne_of_lt la) (Nat.ne_of_lt lb1)
  refine ⟨s1.heap.objs.size + 4, [s1.heap.objs.size + 4, s1.heap.objs.size + 2, s1.heap.objs.size + 3, s1.heap.objs.size, s1.heap.objs.size + 1], MixAt (s1.heap.objs.size + 4) (s1.heap.objs.size + 2) (s1.heap.objs.size + 3) s1.heap.objs.size (s1.heap.objs.size + 1) a b, _, H1, rfl, I2, tm, st0, fun c hc => ?_, q⟩
  have hle : s1.heap.objs.size ≤ c := by
    simp only [List.mem_cons, List.not_mem_nil, or_false] at hc
    rcases hc with rfl | rfl | rfl | rfl | rfl
    · exact Nat.le_add_right _ _
    · exact Nat.le_add_right _ _
    · exact Nat.le_add_right _ _
    · exact Nat.le_refl _
    · exact Nat.le_add_right _ _
  exact I1.fpOk hle (I1.hok.fresh hle)
theorem mixK {X : Cx} {K : PySem.W.Frag} (hK : X.K = K) {e e2 : Expr} {ta : TA} {p pos tpos : Pos} {elts : List Expr} {kk : Nat} (hg : Gl X "zip") (hm : X.mg "zip" = none) (ha : PA X [e, e2] ta)
    (hs : starEach [e, e2] X.env = (false, eval e X.env) :: starEach [e2] X.env := by rfl) (hpl : (backTo pos (starEach [e2] X.env)).any (·.1) = false := by rfl) :
    PI X (.Tuple elts kk tpos) (.Call (.Name "zip" p) [e, e2] [] pos) (iMix K ta) := by subst hK; exact pi_mix hg hm ha hs hpl
section
variable {K : PySem.W.Frag} {F : Fr} {s : S} {H : Hp}
theorem walk_mix {a b : Addr} {xs ys : List V} {n : Nat} (hn : n = min xs.length ys.length) : Walk (ItMix K a b) n (fun H => SqT K H a xs ∧ SqL K H b ys) (YPair (fun i => xs[i]?) (fun i => ys[i]?)) := by
  subst hn
  refine ⟨fun i _ hi q => ⟨xs, ys, q.1, q.2, by omega, by omega⟩, fun _ q => ⟨xs, ys, q.1, q.2, rfl⟩, fun i H v H' _ q y => ?_⟩
  obtain ⟨T, p, h1, h2, h3, h4, h5⟩ := y
  exact ⟨T, p.1, p.2, h1, h2, h3, h4 xs q.1, h5 ys q.2⟩
def mixSrc (d e : D) (k : Src → Prop) : Prop := match d, e with
  | .tup ds, .lst es => k (.zip ds es)
  | _, _ => False
def wiMix (w : WA) : WI := fun Γ s Q => w Γ s fun ds s1 => escA s1 ds fun ds' s2 => match ds' with
  | [d, e] => mixSrc d e fun src => Q src s2
  | _ => False
instance {ta : TA} {w : WA} [l : LA K ta w] : LI K (iMix K ta) (wiMix w) := ⟨fun {F s H σ Γ Q R} a h k => l.go a h fun vs H1 ds s1 t1 ok1 r1 h1 => by
  obtain ⟨ds', s2, h2, ok2, t2, r2⟩ := escs ok1 r1 h1
  split at h2
  · rename_i d e
    cases r2 with
    | cons q1 q2 =>
      cases q2 with
      | cons q2 q3 =>
        cases q3
        unfold mixSrc at h2
        split at h2
        · rename_i es fs
          cases q1 with
          | @tup b xs _ g1 g2 g3 =>
            cases q2 with
            | @lst c ys _ g4 g5 g6 =>
              refine ⟨b, c, xs, ys, rfl, ex_t vis_ex g1, SqL.of (vis_ex _ _ g4), k _ _ _ _ (t1.trans t2) ok2 ⟨⟨_, _, walk_mix (n := (Src.zip es fs).n) (xs := xs) (ys := ys) (by rw [g2.len, g5.len]; rfl), fun F2 s2 H2 e _ => ⟨ex_t vis_ex (ex_t e g1), SqL.of (vis_ex _ _ (e _ _ g4))⟩, fun F2 i s2 H2 x H3 hi e ok y => ?_⟩⟩ h2⟩
              obtain ⟨T, u, v, rfl, hT, h3, e1, e2⟩ := y
              obtain ⟨dd, h4, h5⟩ := g2.get' e1
              obtain ⟨ee, h6, h7⟩ := g5.get' e2
              obtain ⟨q1, q2, q3, q4⟩ := new_pair ok hT h3 (h5.mono e) (h7.mono e)
              exact ⟨_, by show (match es[i]?, fs[i]? with | some d, some e => some (D.tup [d, e]) | _, _ => none) = _; rw [h4, h6], q1, q2, q3, q4⟩
        · exact h2.elim
  · exact h2.elim⟩
end
end Da

/-! Two readers gone over equal cells together: one step (own). -/
namespace Lw
open PySem PySem.Spec L2 Da
inductive Evt where
  | non
  | cut
  | ref
def Evt.D : Evt → Da.D
  | .non => .non
  | .cut => .str "cut"
  | .ref => .str "refuse"
def evOf : Option Sd × Bool → Evt
  | (none, _) => .ref
  | (some _, true) => .cut
  | (some _, false) => .non
/-- the event of a reader where it stands at the place that both have come to -/
def evA (p : Nat) (a : Nat × Option Sd × Bool) : Evt := if a.1 = p then evOf a.2 else .non
theorem evA_eq {p : Nat} {a : Nat × Option Sd × Bool} (h : a.1 = p) : evA p a = evOf a.2 := if_pos h
theorem evA_ne {p : Nat} {a : Nat × Option Sd × Bool} (h : a.1 ≠ p) : evA p a = .non := if_neg h
structure Tog (l1 l2 : List Li) (ws1 ws2 : List Str) (z : Int) (m : Nat) (rest : List Int) (s1 s2 : Sd) (pl : Int) (A1 A2 : Nat × Option Sd × Bool) (p : Nat) : Prop where
  pos : 1 ≤ p
  le : p ≤ m
  go : evA p A1 = .non → evA p A2 = .non → ∃ t1 t2, A1.2.1 = some t1 ∧ A2.2.1 = some t2 ∧ SdOk ws1 t1 ∧ SdOk ws2 t2 ∧ p = m ∧ partF l1 l2 (List.replicate m z ++ rest) s1 s2 pl = partF l1 l2 rest t1 t2 (pl + m)
  cut : evA p A1 = .cut → evA p A2 = .cut → A1.2.1 = some (begS l1) ∧ A2.2.1 = some (begS l2) ∧ SdOk ws1 (begS l1) ∧ SdOk ws2 (begS l2) ∧ partF l1 l2 (List.replicate m z ++ rest) s1 s2 pl = partF l1 l2 (List.replicate (m - p) z ++ rest) (begS l1) (begS l2) (pl + p) ∧
    (s1 = begS l1 → s2 = begS l2 → ∀ t, t * p ≤ m → partF l1 l2 (List.replicate m z ++ rest) s1 s2 pl = partF l1 l2 (List.replicate (m - t * p) z ++ rest) (begS l1) (begS l2) (pl + (t * p : Nat)))
  ref : evA p A1 = .ref ∨ evA p A2 = .ref → partF l1 l2 (List.replicate m z ++ rest) s1 s2 pl = none
  part : evA p A1 ≠ evA p A2 → evA p A1 ≠ .ref → evA p A2 ≠ .ref → partF l1 l2 (List.replicate m z ++ rest) s1 s2 pl = some (pl + p)
theorem tog_step {l1 l2 : List Li} {ns1 ws1 ns2 ws2 : List Str} (dr1 : Drawn ns1 ws1 l1) (dr2 : Drawn ns2 ws2 l2) {z : Int} {m : Nat} {rest : List Int} {s1 s2 : Sd} {pl : Int} (sk1 : SdOk ws1 s1) (sk2 : SdOk ws2 s2) (hm : 1 ≤ m) :
    Tog l1 l2 ws1 ws2 z m rest s1 s2 pl (aheadG l1 z m s1) (aheadG l2 z m s2) (min (aheadG l1 z m s1).1 (aheadG l2 z m s2).1) := by
  have hp := part_run (l1 := l1) (l2 := l2) (z := z) (rest := rest) m s1 s2 pl
  obtain ⟨a1, a2, a3⟩ := ah_ok dr1 (z := z) (n := m) sk1
  obtain ⟨b1, b2, b3⟩ := ah_ok dr2 (z := z) (n := m) sk2
  obtain ⟨c1, c2, c3⟩ := ah_le (ls := l1) (z := z) (n := m) (s := s1)
  obtain ⟨d1, d2, d3⟩ := ah_le (ls := l2) (z := z) (n := m) (s := s2)
  have c3 := c3 hm
  have d3 := d3 hm
  have same1 : ∀ p o c, aheadG l1 z m s1 = (p, o, c) → (o = none ∨ c = true) → aheadG l1 z p s1 = (p, o, c) := fun p o c h e => ah_same h e (Nat.le_refl p)
  have same2 : ∀ p o c, aheadG l2 z m s2 = (p, o, c) → (o = none ∨ c = true) → aheadG l2 z p s2 = (p, o, c) := fun p o c h e => ah_same h e (Nat.le_refl p)
  generalize aheadG l1 z m s1 = A1 at hp a1 a2 a3 c1 c2 c3 same1
  generalize aheadG l2 z m s2 = A2 at hp b1 b2 b3 d1 d2 d3 same2
  obtain ⟨p1, o1, e1⟩ := A1
  obtain ⟨p2, o2, e2⟩ := A2
  have q1 : p1 ≤ m := c1
  have d1 : p2 ≤ m := d1
  have q3 : 1 ≤ p1 := c3
  have d3 : 1 ≤ p2 := d3
  have c2 : o1 ≠ none → e1 = false → p1 = m := c2
  have d2 : o2 ≠ none → e2 = false → p2 = m := d2
  have a2 : o1 = none → e1 = false := a2
  have b2 : o2 = none → e2 = false := b2
  have a3 : e1 = true → o1 = some (begS l1) := a3
  have b3 : e2 = true → o2 = some (begS l2) := b3
  have a1 : OutOk ws1 o1 := a1
  have b1 : OutOk ws2 o2 := b1
  show Tog l1 l2 ws1 ws2 z m rest s1 s2 pl (p1, o1, e1) (p2, o2, e2) (min p1 p2)
  rcases Nat.lt_trichotomy p1 p2 with h | h | h
  · have hmin : min p1 p2 = p1 := by omega
    rw [hmin]
    rw [resA_lt h] at hp
    have n1 : evA p1 (p1, o1, e1) = evOf (o1, e1) := evA_eq rfl
    have n2 : evA p1 (p2, o2, e2) = .non := evA_ne (by show p2 ≠ p1; omega)
    cases o1 with
    | none =>
      have e : evA p1 (p1, none, e1) = .ref := n1
      exact ⟨q3, q1, (fun x _ => by rw [e] at x; cases x), (fun x _ => by rw [e] at x; cases x), (fun _ => hp), fun _ x _ => absurd e x⟩
    | some t1 =>
      cases e1 with
      | false => exact absurd (c2 (fun x => nomatch x) rfl) (by omega)
      | true =>
        have e : evA p1 (p1, some t1, true) = .cut := n1
        refine ⟨q3, q1, (fun x _ => by rw [e] at x; cases x), (fun _ x => by rw [n2] at x; cases x), fun x => ?_, fun _ _ _ => hp⟩
        rcases x with x | x
        · rw [e] at x; cases x
        · rw [n2] at x; cases x
  · subst h
    have hmin : min p1 p1 = p1 := by omega
    rw [hmin]
    rw [resA_eq rfl] at hp
    have n1 : evA p1 (p1, o1, e1) = evOf (o1, e1) := evA_eq rfl
    have n2 : evA p1 (p1, o2, e2) = evOf (o2, e2) := evA_eq rfl
    cases o1 with
    | none =>
      have e : evA p1 (p1, none, e1) = .ref := n1
      exact ⟨q3, q1, (fun x _ => by rw [e] at x; cases x), (fun x _ => by rw [e] at x; cases x), (fun _ => hp), fun _ x _ => absurd e x⟩
    | some t1 =>
      cases o2 with
      | none =>
        have e : evA p1 (p1, none, e2) = .ref := n2
        exact ⟨q3, q1, (fun _ x => by rw [e] at x; cases x), (fun _ x => by rw [e] at x; cases x), (fun _ => hp), fun _ _ x => absurd e x⟩
      | some t2 =>
        cases e1 with
        | false =>
          have e : evA p1 (p1, some t1, false) = .non := n1
          obtain rfl := c2 (fun x => nomatch x) rfl
          cases e2 with
          | false =>
            have e' : evA p1 (p1, some t2, false) = .non := n2
            have hp : partF l1 l2 (List.replicate p1 z ++ rest) s1 s2 pl = if false = false then partF l1 l2 (List.replicate (p1 - p1) z ++ rest) t1 t2 (pl + (p1 : Nat)) else some (pl + (p1 : Nat)) := hp
            rw [if_pos rfl, Nat.sub_self] at hp
            refine ⟨q3, q1, (fun _ _ => ⟨t1, t2, rfl, rfl, a1 t1 rfl, b1 t2 rfl, rfl, hp⟩), (fun x _ => by rw [e] at x; cases x), fun x => ?_, fun x _ _ => absurd (e.trans e'.symm) x⟩
            rcases x with x | x
            · rw [e] at x; cases x
            · rw [e'] at x; cases x
          | true =>
            have e' : evA p1 (p1, some t2, true) = .cut := n2
            have hp : partF l1 l2 (List.replicate p1 z ++ rest) s1 s2 pl = if false = true then partF l1 l2 (List.replicate (p1 - p1) z ++ rest) t1 t2 (pl + (p1 : Nat)) else some (pl + (p1 : Nat)) := hp
            rw [if_neg (fun x => nomatch x)] at hp
            refine ⟨q3, q1, (fun _ x => by rw [e'] at x; cases x), (fun x _ => by rw [e] at x; cases x), fun x => ?_, fun _ _ _ => hp⟩
            rcases x with x | x
            · rw [e] at x; cases x
            · rw [e'] at x; cases x
        | true =>
          have e : evA p1 (p1, some t1, true) = .cut := n1
          cases e2 with
          | false =>
            have e' : evA p1 (p1, some t2, false) = .non := n2
            have hp : partF l1 l2 (List.replicate m z ++ rest) s1 s2 pl = if true = false then partF l1 l2 (List.replicate (m - p1) z ++ rest) t1 t2 (pl + (p1 : Nat)) else some (pl + (p1 : Nat)) := hp
            rw [if_neg (fun x => nomatch x)] at hp
            refine ⟨q3, q1, (fun x _ => by rw [e] at x; cases x), (fun _ x => by rw [e'] at x; cases x), fun x => ?_, fun _ _ _ => hp⟩
            rcases x with x | x
            · rw [e] at x; cases x
            · rw [e'] at x; cases x
          | true =>
            have e' : evA p1 (p1, some t2, true) = .cut := n2
            have hp : partF l1 l2 (List.replicate m z ++ rest) s1 s2 pl = if true = true then partF l1 l2 (List.replicate (m - p1) z ++ rest) t1 t2 (pl + (p1 : Nat)) else some (pl + (p1 : Nat)) := hp
            rw [if_pos rfl] at hp
            obtain rfl := Option.some.inj (a3 rfl)
            obtain rfl := Option.some.inj (b3 rfl)
            refine ⟨q3, q1, (fun x _ => by rw [e] at x; cases x), (fun _ _ => ⟨rfl, rfl, a1 _ rfl, b1 _ rfl, hp, fun x y t ht => ?_⟩), fun x => ?_, fun x _ _ => absurd (e.trans e'.symm) x⟩
            · subst x y
              have g1 := same1 p1 _ _ rfl (.inr rfl)
              have g2 := same2 p1 _ _ rfl (.inr rfl)
              have hm2 : m = t * p1 + (m - t * p1) := by omega
              have e3 : List.replicate m z ++ rest = List.replicate (t * p1) z ++ (List.replicate (m - t * p1) z ++ rest) := by
                rw [← List.append_assoc, List.replicate_append_replicate, ← hm2]
              rw [e3, part_times g1 g2]
            · rcases x with x | x
              · rw [e] at x; cases x
              · rw [e'] at x; cases x
  · have hmin : min p1 p2 = p2 := by omega
    rw [hmin]
    rw [resA_gt h] at hp
    have n2 : evA p2 (p2, o2, e2) = evOf (o2, e2) := evA_eq rfl
    have n1 : evA p2 (p1, o1, e1) = .non := evA_ne (by show p1 ≠ p2; omega)
    cases o2 with
    | none =>
      have e : evA p2 (p2, none, e2) = .ref := n2
      exact ⟨d3, d1, (fun _ x => by rw [e] at x; cases x), (fun _ x => by rw [e] at x; cases x), (fun _ => hp), fun _ _ x => absurd e x⟩
    | some t2 =>
      cases e2 with
      | false => exact absurd (d2 (fun x => nomatch x) rfl) (by omega)
      | true =>
        have e : evA p2 (p2, some t2, true) = .cut := n2
        refine ⟨d3, d1, (fun _ x => by rw [e] at x; cases x), (fun x _ => by rw [n1] at x; cases x), fun x => ?_, fun _ _ _ => hp⟩
        rcases x with x | x
        · rw [n1] at x; cases x
        · rw [e] at x; cases x
theorem strne : (D.str "cut" : Da.D) ≠ .str "refuse" := fun h => by
  have h : Str.ofString "cut" = Str.ofString "refuse" := D.str.inj h
  exact absurd h (by decide +kernel)
theorem Evt.inj {a b : Evt} (h : a.D = b.D) : a = b := by
  cases a <;> cases b <;> first | rfl | cases h | exact absurd h strne | exact absurd h.symm strne
/-- both nothing, or both cuts -/
theorem evt_both {a b : Evt} : D.lst [a.D, b.D] ∈ [D.lst [.non, .non], D.lst [.str "cut", .str "cut"]] ↔ (a = .non ∧ b = .non) ∨ (a = .cut ∧ b = .cut) := by
  constructor
  · intro h
    rcases List.mem_cons.mp h with h | h
    · have h := D.lst.inj h
      injection h with h1 h2
      injection h2 with h2 _
      exact .inl ⟨Evt.inj (b := .non) h1, Evt.inj (b := .non) h2⟩
    · have h := D.lst.inj (List.mem_singleton.mp h)
      injection h with h1 h2
      injection h2 with h2 _
      exact .inr ⟨Evt.inj (b := .cut) h1, Evt.inj (b := .cut) h2⟩
  · rintro (⟨rfl, rfl⟩ | ⟨rfl, rfl⟩)
    · exact List.mem_cons_self
    · exact List.mem_cons_of_mem _ List.mem_cons_self
theorem evt_in {a b c : Evt} : c.D ∈ [a.D, b.D] ↔ c = a ∨ c = b := by
  rw [List.mem_cons, List.mem_singleton]
  exact ⟨fun h => h.imp Evt.inj Evt.inj, fun h => h.imp (fun e => by rw [e]) (fun e => by rw [e])⟩
end Lw

namespace Lw
open PySem L2
open Evl Da
local macro_rules
  | `(tactic| walk_at "f") => `(tactic| first | exact lookF_put | exact lookF_hit | exact (lookF_skip (by decide +kernel) lookF_hit) | exact (lookF_skip (by decide +kernel) (lookF_skip (by decide +kernel) lookF_hit)) | exact (lookF_skip (by decide +kernel) (lookF_skip (by decide +kernel) (lookF_skip (by decide +kernel) lookF_hit))) | exact (lookF_skip (by decide +kernel) (lookF_skip (by decide +kernel) (lookF_skip (by decide +kernel) (lookF_skip (by decide +kernel) lookF_hit)))) | exact (lookF_skip (by decide +kernel) (lookF_skip (by decide +kernel) (lookF_skip (by decide +kernel) (lookF_skip (by decide +kernel) (lookF_skip (by decide +kernel) lookF_hit))))) | exact (lookF_skip (by decide +kernel) (lookF_skip (by decide +kernel) (lookF_skip (by decide +kernel) (lookF_skip (by decide +kernel) (lookF_skip (by decide +kernel) (lookF_skip (by decide +kernel) lookF_hit)))))) | ((refine lookF_other (by decide +kernel) ?_); walk_at "f") | ((refine lookF_skip (by decide +kernel) ?_); walk_at "f"))
  | `(tactic| walk_at "fl") => `(tactic| first | exact Nat.zero_lt_succ _ | ((refine putFD_lt ?_); walk_at "fl"))
  | `(tactic| walk_at "a") => `(tactic| first | exact le1000 (Nat.le_of_ble_eq_true rfl) | exact rfl | decide +kernel | exact And.intro (by with_reducible assumption) (by with_reducible assumption) | exact And.intro (And.intro (by with_reducible assumption) (by with_reducible assumption)) (by walk_at "fl"))
  | `(tactic| walk_at "w") => `(tactic| ((conv => whnf); repeat ((first | ((with_reducible refine And.intro ?_ ?_); (focus (walk_at "a"))) | ((with_reducible refine Br.yes ?_ ?_); (focus (first | exact rfl | decide +kernel))) | ((with_reducible refine Br.no ?_ ?_); (focus (first | exact rfl | decide +kernel))) | ((with_reducible refine ex_fld ?_); (refine fld_w (by walk_at "f") ?_)) | ((with_reducible refine ex_at ?_); (refine at_w rfl ?_))); (conv => whnf))))
  | `(tactic| walk_at "n") => `(tactic| ((try dsimp only [st0, st1, S.at, S.drop, S.own, S.put, S.frz, Src.n] at *); omega))
  | `(tactic| walk_at "draw") => `(tactic| ((try walk_at "w"); (refine i_draw ⟨by walk_at "n", by walk_at "n", by walk_at "n"⟩ ?_)))
open Jn (Rn expand)
section
variable {P : Program} {w : World} {K : PySem.W.Frag} {mg : Str → Option Value} {base : Heap}
end
end Lw

/-! Members of a tuple that are lists or tuples themselves (own). -/
namespace Da
open PySem PySem.Spec PyProof.Rows L2 Evl Hd RZ
def rInT (K : PySem.W.Frag) (neg : Bool) : R2 := fun x y H Q => ∃ d ds, Dp K H x d ∧ Dp K H y (.tuple ds) ∧ SeqAt.shaped d = true ∧ SeqAt.shaped (.tuple ds) = true ∧ Q (.bl (if neg = true then !ds.any fun z => PyData.eqv z d else ds.any fun z => PyData.eqv z d)) H
theorem op_inT {X : Cx} (hu : X.A.units + 65 < cLine) : OpR X (compareOp .In) (rInT X.K false) := fun pins s σ H x y v u Q I rx ry h => by
  obtain ⟨d, ds, h1, h2, h3, h4, q⟩ := h
  obtain ⟨as, r1⟩ := Dp.reads I d x v h1 rx
  obtain ⟨bs, r2⟩ := Dp.reads I (.tuple ds) y u h2 ry
  exact SeqAt.in_tuple_reads r2 r1 (SeqAt.canLay_of_shaped h4) (SeqAt.canLay_of_shaped h3) (room_in_shaped h3 hu) ⟨.bl _, H, I, rfl, q⟩
theorem op_ninT {X : Cx} (hu : X.A.units + 65 < cLine) : OpR X (compareOp .NotIn) (rInT X.K true) := fun pins s σ H x y v u Q I rx ry h => by
  obtain ⟨d, ds, h1, h2, h3, h4, q⟩ := h
  obtain ⟨as, r1⟩ := Dp.reads I d x v h1 rx
  obtain ⟨bs, r2⟩ := Dp.reads I (.tuple ds) y u h2 ry
  exact SeqAt.notIn_tuple_reads r2 r1 (SeqAt.canLay_of_shaped h4) (SeqAt.canLay_of_shaped h3) (room_in_shaped h3 hu) ⟨.bl _, H, I, rfl, q⟩
theorem inTK {X : Cx} {K : PySem.W.Frag} (hK : X.K = K) (hu : X.A.units + 65 < cLine) : OpR X (compareOp .In) (rInT K false) := by subst hK; exact op_inT hu
theorem ninTK {X : Cx} {K : PySem.W.Frag} (hK : X.K = K) (hu : X.A.units + 65 < cLine) : OpR X (compareOp .NotIn) (rInT K true) := by subst hK; exact op_ninT hu
open Classical in
def fInT (neg : Bool) : F2 := fun x y s Q => match y with
  | .tup ds => (∃ n, n ≤ 60 ∧ Pl n x ∧ ∀ d ∈ ds, Pl n d) ∧ Q (.bl (if neg = true then !decide (x ∈ ds) else decide (x ∈ ds))) s
  | _ => False
section
variable {K : PySem.W.Frag}
instance {neg : Bool} : LR K (rInT K neg) (fInT neg) := ⟨fun {F s H x y dx dy Q Q0} ok rx ry h k => by
  unfold fInT at h
  split at h
  · rename_i ds
    obtain ⟨⟨n, hn, h1, h2⟩, h3⟩ := h
    refine ⟨_, _, rx.dp vis_ex h1, ry.dp (n := n + 1) vis_ex h2, py_shaped h1 (by omega), py_shaped (n := n + 1) (d := .tup ds) h2 (by omega), ?_⟩
    rw [any_py h1 h2]
    exact k _ _ _ _ Tr.refl ok .bl h3
  · exact h.elim⟩
end
end Da

namespace Lw
open PySem L2
open Evl Da
local macro_rules
  | `(tactic| walk_at "f") => `(tactic| first | exact lookF_put | exact lookF_hit | exact (lookF_skip (by decide +kernel) lookF_hit) | exact (lookF_skip (by decide +kernel) (lookF_skip (by decide +kernel) lookF_hit)) | exact (lookF_skip (by decide +kernel) (lookF_skip (by decide +kernel) (lookF_skip (by decide +kernel) lookF_hit))) | exact (lookF_skip (by decide +kernel) (lookF_skip (by decide +kernel) (lookF_skip (by decide +kernel) (lookF_skip (by decide +kernel) lookF_hit)))) | exact (lookF_skip (by decide +kernel) (lookF_skip (by decide +kernel) (lookF_skip (by decide +kernel) (lookF_skip (by decide +kernel) (lookF_skip (by decide +kernel) lookF_hit))))) | exact (lookF_skip (by decide +kernel) (lookF_skip (by decide +kernel) (lookF_skip (by decide +kernel) (lookF_skip (by decide +kernel) (lookF_skip (by decide +kernel) (lookF_skip (by decide +kernel) lookF_hit)))))) | ((refine lookF_other (by decide +kernel) ?_); walk_at "f") | ((refine lookF_skip (by decide +kernel) ?_); walk_at "f"))
  | `(tactic| walk_at "fl") => `(tactic| first | exact Nat.zero_lt_succ _ | ((refine putFD_lt ?_); walk_at "fl"))
  | `(tactic| walk_at "a") => `(tactic| first | exact le1000 (Nat.le_of_ble_eq_true rfl) | exact rfl | decide +kernel | exact And.intro (by with_reducible assumption) (by with_reducible assumption) | exact And.intro (And.intro (by with_reducible assumption) (by with_reducible assumption)) (by walk_at "fl"))
  | `(tactic| walk_at "w") => `(tactic| ((conv => whnf); repeat ((first | ((with_reducible refine And.intro ?_ ?_); (focus (walk_at "a"))) | ((with_reducible refine Br.yes ?_ ?_); (focus (first | exact rfl | decide +kernel))) | ((with_reducible refine Br.no ?_ ?_); (focus (first | exact rfl | decide +kernel))) | ((with_reducible refine ex_fld ?_); (refine fld_w (by walk_at "f") ?_)) | ((with_reducible refine ex_at ?_); (refine at_w rfl ?_))); (conv => whnf))))
  | `(tactic| walk_at "n") => `(tactic| ((try dsimp only [st0, st1, S.at, S.drop, S.own, S.put, S.frz, Src.n] at *); omega))
  | `(tactic| walk_at "draw") => `(tactic| ((try walk_at "w"); (refine i_draw ⟨by walk_at "n", by walk_at "n", by walk_at "n"⟩ ?_)))
open Jn (Rn expand)
section
variable {P : Program} {w : World} {K : PySem.W.Frag} {mg : Str → Option Value} {base : Heap}
end
end Lw

namespace Lw
open PySem L2
open Evl Da
local macro_rules
  | `(tactic| walk_at "f") => `(tactic| first | exact lookF_put | exact lookF_hit | exact (lookF_skip (by decide +kernel) lookF_hit) | exact (lookF_skip (by decide +kernel) (lookF_skip (by decide +kernel) lookF_hit)) | exact (lookF_skip (by decide +kernel) (lookF_skip (by decide +kernel) (lookF_skip (by decide +kernel) lookF_hit))) | exact (lookF_skip (by decide +kernel) (lookF_skip (by decide +kernel) (lookF_skip (by decide +kernel) (lookF_skip (by decide +kernel) lookF_hit)))) | exact (lookF_skip (by decide +kernel) (lookF_skip (by decide +kernel) (lookF_skip (by decide +kernel) (lookF_skip (by decide +kernel) (lookF_skip (by decide +kernel) lookF_hit))))) | exact (lookF_skip (by decide +kernel) (lookF_skip (by decide +kernel) (lookF_skip (by decide +kernel) (lookF_skip (by decide +kernel) (lookF_skip (by decide +kernel) (lookF_skip (by decide +kernel) lookF_hit)))))) | ((refine lookF_other (by decide +kernel) ?_); walk_at "f") | ((refine lookF_skip (by decide +kernel) ?_); walk_at "f"))
  | `(tactic| walk_at "fl") => `(tactic| first | exact Nat.zero_lt_succ _ | ((refine putFD_lt ?_); walk_at "fl"))
  | `(tactic| walk_at "a") => `(tactic| first | exact le1000 (Nat.le_of_ble_eq_true rfl) | exact rfl | decide +kernel | exact And.intro (by with_reducible assumption) (by with_reducible assumption) | exact And.intro (And.intro (by with_reducible assumption) (by with_reducible assumption)) (by walk_at "fl"))
  | `(tactic| walk_at "w") => `(tactic| ((conv => whnf); repeat ((first | ((with_reducible refine And.intro ?_ ?_); (focus (walk_at "a"))) | ((with_reducible refine Br.yes ?_ ?_); (focus (first | exact rfl | decide +kernel))) | ((with_reducible refine Br.no ?_ ?_); (focus (first | exact rfl | decide +kernel))) | ((with_reducible refine ex_fld ?_); (refine fld_w (by walk_at "f") ?_)) | ((with_reducible refine ex_at ?_); (refine at_w rfl ?_))); (conv => whnf))))
  | `(tactic| walk_at "n") => `(tactic| ((try dsimp only [st0, st1, S.at, S.drop, S.own, S.put, S.frz, Src.n] at *); omega))
  | `(tactic| walk_at "draw") => `(tactic| ((try walk_at "w"); (refine i_draw ⟨by walk_at "n", by walk_at "n", by walk_at "n"⟩ ?_)))
/-- the law's own book of lines -/
def lawK (ns : List Str) (ls : List Li) : List (Key × D) := (numbered ls).map fun y => ((Sum.inr (wAt ns y.1) : Key), liD ns false y.2)
theorem lawK_keys {ns ws : List Str} {ls : List Li} (dr : Drawn ns ws ls) : (lawK ns ls).map (·.1) = ns.map Sum.inr := by
  rw [← linesK_keys dr]
  unfold lawK linesK
  rw [List.map_map, List.map_map]
  rfl
theorem lawK_look {ns ws : List Str} {ls : List Li} (dr : Drawn ns ws ls) {i : Nat} {li : Li} (h : ls[i]? = some li) : lookK (lawK ns ls) (Sum.inr (wAt ns i)) = some (liD ns false li) := by
  refine lookK_at (i := i) (by rw [lawK_keys dr]; exact nodup_inr dr.nd) ?_
  unfold lawK
  rw [List.getElem?_map, numbered_at h]
  rfl
def bookD (ns : List Str) (ls : List Li) : D := .dct [(Sum.inr "first", .str (wAt ns 0)), (Sum.inr "lines", .dct (lawK ns ls))]
def stK (ns : List Str) (o : Option Sd) : List (Key × D) := [(Sum.inr "at", sO (lineW ns o)), (Sum.inr "kept", kD (keptW o)), (Sum.inr "left", .int (leftW o))]
/-- the law's own state -/
def stD (ns : List Str) (o : Option Sd) : D := .dct (stK ns o)
theorem book_first {ns : List Str} {ls : List Li} : lookK [(Sum.inr "first", D.str (wAt ns 0)), (Sum.inr "lines", .dct (lawK ns ls))] (Sum.inr "first") = some (.str (wAt ns 0)) := lookK_hit
theorem book_lines {ns : List Str} {ls : List Li} : lookK [(Sum.inr "first", D.str (wAt ns 0)), (Sum.inr "lines", .dct (lawK ns ls))] (Sum.inr "lines") = some (.dct (lawK ns ls)) := lookK_skip (by decide +kernel) lookK_hit
theorem keys_st : ([Sum.inr "at", Sum.inr "kept", Sum.inr "left"] : List Key).Nodup := by decide +kernel
theorem st_nat {ns : List Str} {i : Nat} {k : Option Int} {c : Int} (h : 0 ≤ c) : stD ns (some ⟨i, k, c.toNat⟩) = .dct [(Sum.inr "at", .str (wAt ns i)), (Sum.inr "kept", kD k), (Sum.inr "left", .int c)] := by
  have e : leftW (some ⟨i, k, c.toNat⟩) = c := Int.toNat_of_nonneg h
  unfold stD stK
  rw [e]
  rfl
theorem come_stop {ls : List Li} {m i : Nat} {k : Option Int} {li : Li} {o : Option Sd} (h : ls[i]? = some li) (e : hop li i k = .stop o) : come ls (m + 1) i k = (o, false) := by simp only [come, h, e]
theorem come_go {ls : List Li} {m i : Nat} {k : Option Int} {li : Li} {j : Nat} {k' : Option Int} {c : Bool} (h : ls[i]? = some li) (e : hop li i k = .go j k' c) : come ls (m + 1) i k = ((come ls m j k').1, (come ls m j k').2 || c) := by simp only [come, h, e]
theorem come_ref {ls : List Li} {m i : Nat} {k : Option Int} (h : ls[i]? = some (.fin "refuse")) : come ls m i k = (none, false) := by
  cases m with
  | zero => rfl
  | succ m => exact come_stop h hop_refuse
section
variable {P : Program} {w : World} {K : PySem.W.Frag} {mg : Str → Option Value} {base : Heap}
@[irreducible] def dSettle : R3 := fun _ a b c n Q _ => ∃ (ns ws : List Str) (ls : List Li) (i : Nat) (k : Option Int), a = bookD ns ls ∧ b = .str (wAt ns i) ∧ c = kD k ∧ Drawn ns ws ls ∧ i < ws.length ∧ Q (.tup [stD ns (come ls 30 i k).1, .bl (come ls 30 i k).2]) n
theorem ok_law_settle (T : Tx w K mg) : FnOk P w K mg base CX0 1 T.f_law_settle T.d_law_settle ["_law_book", "_law_name", "_law_kept"] (Da.upSp K (sp3 dSettle)) := by
  refine T.F_law_settle.ok sc_law_settle (fun vs H Q E h => Da.up_len3 h) (fun cdv A outer s H vs Q E hr h => ?_)
  refine ⟨_, (pss_cons (ps_set (i := 3) sc_law_settle.nd rfl (Or.inl rfl) pe_bl)
      (pss_cons (ps_for PassesOwn.never rfl (pi_range1 (by rfl) T.z_range (pa_cons pe_int pa_nil)) (pg_name (i := 4) sc_law_settle.nd rfl (Or.inl rfl))
        (pss_cons (ps_set (i := 5) sc_law_settle.nd rfl (Or.inl rfl) (pe_dget (hu_of hr) (pe_dget (hu_of hr) (pv 0) pe_str (fun _ _ => rfl)) (pv 1) (fun _ _ => rfl)))
        (pss_cons (ps_set (i := 6) sc_law_settle.nd rfl (Or.inl rfl) (pe_ix (Da.ixK (K := K) rfl) (pv 5) pe_int (fun _ _ => rfl)))
        (pss_one (ps_if (pt_cmpR (Da.eqK (K := K) rfl hr.units) (pv 6) pe_str (nomark _))
          (pss_cons (ps_set (i := 7) sc_law_settle.nd rfl (Or.inl rfl) (pe_ifExp (pt_cmpR op_isN (pv 2) pe_non (nomark _)) (pe_un un_neg pe_int) (pe_op (Da.addK (K := K) rfl) (pv 2) (pe_ix (Da.ixK (K := K) rfl) (pv 5) pe_int (fun _ _ => rfl)))))
          (pss_cons (ps_if (pt_cmpR op_lt (pv 7) pe_int (nomark _))
            (pss_one (ps_ret (pe_tup (pa_cons (pe_disp (pps_cons pe_str pe_non (pps_cons pe_str pe_non (pps_cons pe_str pe_int pps_nil))) (by rfl) (by rfl) (fun z => by cases z) (by decide)) (pa_cons (pv 3) pa_nil)))))
            pss_nil)
          (pss_cons (ps_if (pt_cmpR op_gt (pv 7) pe_int (nomark _))
            (pss_one (ps_ret (pe_tup (pa_cons (pe_disp (pps_cons pe_str (pv 1) (pps_cons pe_str pe_non (pps_cons pe_str (pv 7) pps_nil))) (by rfl) (by rfl) (fun z => by cases z) (by decide)) (pa_cons (pv 3) pa_nil)))))
            pss_nil)
          (pss_cons (ps_set (i := 1) sc_law_settle.nd rfl (Or.inl rfl) (pe_ix (Da.ixK (K := K) rfl) (pv 5) pe_int (fun _ _ => rfl)))
          (pss_one (ps_set (i := 2) sc_law_settle.nd rfl (Or.inl rfl) pe_non))))))
          (pss_one (ps_if (pt_cmpR (Da.eqK (K := K) rfl hr.units) (pv 6) pe_str (nomark _))
            (pss_cons (ps_set (i := 1) sc_law_settle.nd rfl (Or.inl rfl) (pe_ix (Da.ixK (K := K) rfl) (pv 5) pe_int (fun _ _ => rfl)))
            (pss_one (ps_set (i := 2) sc_law_settle.nd rfl (Or.inl rfl) (pe_ix (Da.ixK (K := K) rfl) (pv 5) pe_int (fun _ _ => rfl)))))
            (pss_one (ps_if (pt_cmpR (Da.eqK (K := K) rfl hr.units) (pv 6) pe_str (nomark _))
              (pss_one (ps_set (i := 1) sc_law_settle.nd rfl (Or.inl rfl) (pe_ifExp (PW.pt (pw_and (pt_cmpR op_notN (pv 2) pe_non (nomark _)) (pw_and1 (pt_cmpR op_le (pv 2) (pe_ix (Da.ixK (K := K) rfl) (pv 5) pe_int (fun _ _ => rfl)) (nomark _))))) (pe_ix (Da.ixK (K := K) rfl) (pv 5) pe_int (fun _ _ => rfl)) (pe_ix (Da.ixK (K := K) rfl) (pv 5) pe_int (fun _ _ => rfl)))))
              (pss_one (ps_if (pt_cmpR (Da.eqK (K := K) rfl hr.units) (pv 6) pe_str (nomark _))
                (pss_cons (ps_set (i := 1) sc_law_settle.nd rfl (Or.inl rfl) (pe_dget (hu_of hr) (pv 0) pe_str (fun _ _ => rfl)))
                (pss_cons (ps_set (i := 2) sc_law_settle.nd rfl (Or.inl rfl) pe_non)
                (pss_one (ps_set (i := 3) sc_law_settle.nd rfl (Or.inl rfl) pe_bl))))
                (pss_one (ps_if (pt_cmpR (Da.neK (K := K) rfl hr.units) (pv 6) pe_str (nomark _))
                  (pss_one (ps_ret (pe_tup (pa_cons (pe_disp (pps_cons pe_str (pv 1) (pps_cons pe_str (pv 2) (pps_cons pe_str (pe_ifExp (pt_cmpR (Da.eqK (K := K) rfl hr.units) (pv 6) pe_str (nomark _)) (pe_ix (Da.ixK (K := K) rfl) (pv 5) pe_int (fun _ _ => rfl)) pe_int) pps_nil))) (by rfl) (by rfl) (fun z => by cases z) (by decide)) (pa_cons (pv 3) pa_nil)))))
                  pss_nil)))))))))))))
      (pss_one (ps_ret (pe_tup (pa_cons (pe_disp (pps_cons pe_str pe_non (pps_cons pe_str pe_non (pps_cons pe_str pe_int pps_nil))) (by rfl) (by rfl) (fun z => by cases z) (by decide)) (pa_cons (pv 3) pa_nil))))))), Da.go_up3 h ?_⟩
  intro pn a b c n Q _ h
  unfold dSettle at h
  obtain ⟨ns, ws, ls, i, kp, rfl, rfl, rfl, dr, hi, h⟩ := h
  have at_ : ∀ {i : Nat}, i < ws.length → ∃ li, ls[i]? = some li := fun hi => ⟨_, List.getElem?_eq_getElem (by rw [dr.lenL]; exact hi)⟩
  unfold bookD
  walk_at "w"
  generalize hr : come ls 30 i kp = r at h
  refine for_inv (fun j Γ s => ∃ (i : Nat) (kp : Option Int) (b : Bool) (u4 u5 u6 u7 : Option D), Γ = [some (.dct [(Sum.inr "first", .str (wAt ns 0)), (Sum.inr "lines", .dct (lawK ns ls))]), some (.str (wAt ns i)), some (kD kp), some (.bl b), u4, u5, u6, u7] ∧ s = st0 n pn ∧ i < ws.length ∧ ((come ls (30 - j) i kp).1, (come ls (30 - j) i kp).2 || b) = r) ⟨i, kp, false, _, _, _, _, rfl, rfl, hi, by rw [Nat.sub_zero, Bool.or_false, ← hr]⟩ ?_ ?_
  · rintro j d _ _ hj hd ⟨i, kp, b, u4, u5, u6, u7, rfl, rfl, hi, er⟩
    obtain ⟨hj, rfl⟩ := rng_at hd
    have hj : j < 30 := hj
    obtain ⟨m, hm⟩ : ∃ m, 30 - j = m + 1 := ⟨29 - j, by omega⟩
    have hm2 : 30 - (j + 1) = m := by omega
    rw [hm] at er
    obtain ⟨li, hli⟩ := at_ hi
    have hok := dr.ok i li hli
    walk_at "w"
    refine ⟨_, book_lines, ?_⟩
    walk_at "w"
    refine ⟨_, lawK_look dr hli, ?_⟩
    have goes : ∀ (jj : Nat) (kp' : Option Int) (c : Bool), hop li i kp = .go jj kp' c → jj < ws.length ∧ ((come ls (30 - (j + 1)) jj kp').1, (come ls (30 - (j + 1)) jj kp').2 || (c || b)) = r := fun jj kp' c e => by
      rw [come_go hli e] at er
      rw [hm2, ← Bool.or_assoc]
      refine ⟨?_, er⟩
      rcases hop_go dr hli e with ⟨_, rfl, _⟩ | ⟨_, _, z, _⟩
      · exact dr.pos
      · exact z
    cases li with
    | take o =>
      rw [come_stop (o := some ⟨i, kp, 1⟩) hli rfl] at er
      subst er
      cases kp <;> (walk_at "w"; refine ⟨⟨(by show 3 ≤ 15; decide), keys_st⟩, ?_⟩; walk_at "w"; exact h)
    | case wy o =>
      rw [come_stop (o := some ⟨i, kp, 1⟩) hli rfl] at er
      subst er
      cases kp <;> (walk_at "w"; refine ⟨⟨(by show 3 ≤ 15; decide), keys_st⟩, ?_⟩; walk_at "w"; exact h)
    | upto c x y =>
      cases kp with
      | none =>
        obtain ⟨g1, g2⟩ := goes y none false rfl
        rw [kD_none]
        walk_at "w"
        exact ⟨y, none, b, _, _, _, _, rfl, rfl, g1, g2⟩
      | some v =>
        rw [kD_some]
        walk_at "w"
        refine .dec (fun hv => ?_) (fun hv => ?_)
        · obtain ⟨g1, g2⟩ := goes x (some v) false (by simp only [hop]; rw [if_pos hv])
          walk_at "w"
          exact ⟨x, some v, b, _, _, _, _, rfl, rfl, g1, g2⟩
        · obtain ⟨g1, g2⟩ := goes y (some v) false (by simp only [hop]; rw [if_neg hv])
          walk_at "w"
          exact ⟨y, some v, b, _, _, _, _, rfl, rfl, g1, g2⟩
    | fin x =>
      rcases hok.2 with rfl | rfl
      · obtain ⟨g1, g2⟩ := goes 0 none true hop_cut
        walk_at "w"
        refine ⟨_, book_first, ?_⟩
        walk_at "w"
        exact ⟨0, none, true, _, _, _, _, rfl, rfl, g1, g2⟩
      · rw [come_ref hli] at er
        walk_at "w"
        exact ⟨i, kp, b, _, _, _, _, rfl, rfl, hi, by rw [come_ref hli]; exact er⟩
    | num x c o =>
      obtain ⟨hx, hn, ho⟩ := hok
      rcases hn with ⟨rfl, _⟩ | ⟨rfl, _⟩ | ⟨rfl, hc, _⟩ | ⟨rfl, _⟩ | ⟨rfl, _⟩
      · rw [come_stop hli hop_rest] at er
        subst er
        cases kp <;> (walk_at "w"; refine ⟨⟨(by show 3 ≤ 15; decide), keys_st⟩, ?_⟩; walk_at "w"; exact h)
      · rw [come_stop hli hop_cap] at er
        subst er
        cases kp <;> (walk_at "w"; refine ⟨⟨(by show 3 ≤ 15; decide), keys_st⟩, ?_⟩; walk_at "w"; exact h)
      · rw [come_stop hli hop_jump] at er
        subst er
        have h : Q (.tup [stD ns (some ⟨i, kp, c.toNat⟩), .bl b]) n := h
        rw [st_nat (by omega)] at h
        cases kp <;> (walk_at "w"; refine ⟨⟨(by show 3 ≤ 15; decide), keys_st⟩, ?_⟩; walk_at "w"; exact h)
      · obtain ⟨g1, g2⟩ := goes o (some c) false hop_set
        walk_at "w"
        exact ⟨o, some c, b, _, _, _, _, rfl, rfl, g1, g2⟩
      · cases kp with
        | none =>
          rw [come_stop (o := none) hli (by rw [hop_skip])] at er
          subst er
          rw [kD_none]
          walk_at "w"
          exact h
        | some v =>
          rw [kD_some]
          walk_at "w"
          refine .dec (fun l0 => ?_) (fun l0 => ?_)
          · have l0 : v + c < 0 := l0
            rw [come_stop (o := none) hli (by rw [hop_skip]; exact if_pos l0)] at er
            subst er
            walk_at "w"
            exact h
          · have l0 : ¬ v + c < 0 := l0
            walk_at "w"
            refine .dec (fun l1 => ?_) (fun l1 => ?_)
            · have l1 : 0 < v + c := l1
              rw [come_stop (o := some ⟨i, none, (v + c).toNat⟩) hli (by rw [hop_skip]; exact (if_neg l0).trans (if_neg (by omega)))] at er
              subst er
              have h : Q (.tup [stD ns (some ⟨i, none, (v + c).toNat⟩), .bl b]) n := h
              rw [st_nat (by omega)] at h
              walk_at "w"
              refine ⟨⟨(by show 3 ≤ 15; decide), keys_st⟩, ?_⟩
              walk_at "w"
              exact h
            · have l1 : ¬ 0 < v + c := l1
              obtain ⟨g1, g2⟩ := goes o none false (by rw [hop_skip]; exact (if_neg l0).trans (if_pos (by omega)))
              walk_at "w"
              exact ⟨o, none, b, _, _, _, _, rfl, rfl, g1, g2⟩
  · rintro _ _ ⟨i, kp, b, u4, u5, u6, u7, rfl, rfl, hi, er⟩
    have er : ((come ls 0 i kp).1, (come ls 0 i kp).2 || b) = r := er
    subst er
    walk_at "w"
    exact h
theorem i_settle {pn : Option (Addr × Addr)} {n : Nat} {Q : D → Nat → Prop} {X : XD} {ns ws : List Str} {ls : List Li} {i : Nat} {k : Option Int} {c : D} (dr : Drawn ns ws ls) (hi : i < ws.length) (e : c = kD k) (h : Q (.tup [stD ns (come ls 30 i k).1, .bl (come ls 30 i k).2]) n) : dSettle pn (bookD ns ls) (.str (wAt ns i)) c n Q X := by
  unfold dSettle
  exact ⟨ns, ws, ls, i, k, rfl, rfl, e, dr, hi, h⟩
end
end Lw

namespace Lw
open PySem L2
open Evl Da
local macro_rules
  | `(tactic| walk_at "f") => `(tactic| first | exact lookF_put | exact lookF_hit | exact (lookF_skip (by decide +kernel) lookF_hit) | exact (lookF_skip (by decide +kernel) (lookF_skip (by decide +kernel) lookF_hit)) | exact (lookF_skip (by decide +kernel) (lookF_skip (by decide +kernel) (lookF_skip (by decide +kernel) lookF_hit))) | exact (lookF_skip (by decide +kernel) (lookF_skip (by decide +kernel) (lookF_skip (by decide +kernel) (lookF_skip (by decide +kernel) lookF_hit)))) | exact (lookF_skip (by decide +kernel) (lookF_skip (by decide +kernel) (lookF_skip (by decide +kernel) (lookF_skip (by decide +kernel) (lookF_skip (by decide +kernel) lookF_hit))))) | exact (lookF_skip (by decide +kernel) (lookF_skip (by decide +kernel) (lookF_skip (by decide +kernel) (lookF_skip (by decide +kernel) (lookF_skip (by decide +kernel) (lookF_skip (by decide +kernel) lookF_hit)))))) | ((refine lookF_other (by decide +kernel) ?_); walk_at "f") | ((refine lookF_skip (by decide +kernel) ?_); walk_at "f"))
  | `(tactic| walk_at "fl") => `(tactic| first | exact Nat.zero_lt_succ _ | ((refine putFD_lt ?_); walk_at "fl"))
  | `(tactic| walk_at "a") => `(tactic| first | exact le1000 (Nat.le_of_ble_eq_true rfl) | exact rfl | decide +kernel | exact And.intro (by with_reducible assumption) (by with_reducible assumption) | exact And.intro (And.intro (by with_reducible assumption) (by with_reducible assumption)) (by walk_at "fl"))
  | `(tactic| walk_at "w") => `(tactic| ((conv => whnf); repeat ((first | ((with_reducible refine And.intro ?_ ?_); (focus (walk_at "a"))) | ((with_reducible refine Br.yes ?_ ?_); (focus (first | exact rfl | decide +kernel))) | ((with_reducible refine Br.no ?_ ?_); (focus (first | exact rfl | decide +kernel))) | ((with_reducible refine ex_fld ?_); (refine fld_w (by walk_at "f") ?_)) | ((with_reducible refine ex_at ?_); (refine at_w rfl ?_))); (conv => whnf))))
  | `(tactic| walk_at "n") => `(tactic| ((try dsimp only [st0, st1, S.at, S.drop, S.own, S.put, S.frz, Src.n] at *); omega))
  | `(tactic| walk_at "draw") => `(tactic| ((try walk_at "w"); (refine i_draw ⟨by walk_at "n", by walk_at "n", by walk_at "n"⟩ ?_)))
theorem st_at {a b c : D} : lookK [(Sum.inr "at", a), (Sum.inr "kept", b), (Sum.inr "left", c)] (Sum.inr "at") = some a := lookK_hit
theorem st_kept {a b c : D} : lookK [(Sum.inr "at", a), (Sum.inr "kept", b), (Sum.inr "left", c)] (Sum.inr "kept") = some b := lookK_skip (by decide +kernel) lookK_hit
theorem st_left {a b c : D} : lookK [(Sum.inr "at", a), (Sum.inr "kept", b), (Sum.inr "left", c)] (Sum.inr "left") = some c := lookK_skip (by decide +kernel) (lookK_skip (by decide +kernel) lookK_hit)
theorem st_some {ns : List Str} {i l : Nat} {k : Option Int} : stD ns (some ⟨i, k, l⟩) = .dct [(Sum.inr "at", .str (wAt ns i)), (Sum.inr "kept", kD k), (Sum.inr "left", .int (l : Int))] := rfl
theorem li_case {ns : List Str} {wy : List (Int × Nat)} {o : Nat} : liD ns false (.case wy o) = .tup [.str "case", .lst (wy.map (wayD ns)), .str (wAt ns o)] := rfl
theorem way_first {ns : List Str} {wy : List (Int × Nat)} {o : Nat} {z : Int} : atI (((wy.filter fun y => y.1 == z).map fun y => D.str (wAt ns y.2)) ++ [.str (wAt ns o)]) 0 = some (.str (wAt ns (wayOf wy o z))) := by
  unfold wayOf
  refine atI_nat (j := 0) ?_
  cases wy.filter (fun y => y.1 == z) with
  | nil => rfl
  | cons a r => rfl
section
variable {P : Program} {w : World} {K : PySem.W.Frag} {mg : Str → Option Value} {base : Heap}
@[irreducible] def dStep : R3 := fun _ a b c n Q _ => ∃ (ns ws : List Str) (ls : List Li) (s : Sd) (z : Int), a = bookD ns ls ∧ b = stD ns (some s) ∧ c = .int z ∧ Drawn ns ws ls ∧ SdOk ws s ∧ Q (.tup [stD ns (step1 ls s z).1, .bl (step1 ls s z).2]) n
theorem ok_law_step (T : Tx w K mg) : FnOk P w K mg base CX0 2 T.f_law_step T.d_law_step ["_law_book", "_law_state", "_law_cell"] (Da.upSp K (sp3 dStep)) := by
  refine T.F_law_step.ok sc_law_step (fun vs H Q E h => Da.up_len3 h) (fun cdv A outer s H vs Q E hr h => ?_)
  refine ⟨_, (pss_cons (ps_set (i := 3) sc_law_step.nd rfl (Or.inl rfl) (pe_dget (hu_of hr) (pe_dget (hu_of hr) (pv 0) pe_str (fun _ _ => rfl)) (pe_dget (hu_of hr) (pv 1) pe_str (fun _ _ => rfl)) (fun _ _ => rfl)))
      (pss_cons (ps_if (pt_cmpR op_gt (pe_dget (hu_of hr) (pv 1) pe_str (fun _ _ => rfl)) pe_int (nomark _))
        (pss_one (ps_ret (pe_tup (pa_cons (pe_disp (pps_cons pe_str (pe_dget (hu_of hr) (pv 1) pe_str (fun _ _ => rfl)) (pps_cons pe_str (pe_dget (hu_of hr) (pv 1) pe_str (fun _ _ => rfl)) (pps_cons pe_str (pe_op op_sub (pe_dget (hu_of hr) (pv 1) pe_str (fun _ _ => rfl)) pe_int) pps_nil))) (by rfl) (by rfl) (fun z => by cases z) (by decide)) (pa_cons pe_bl pa_nil)))))
        pss_nil)
      (pss_cons (ps_set (i := 4) sc_law_step.nd rfl (Or.inl rfl) (pe_dget (hu_of hr) (pv 1) pe_str (fun _ _ => rfl)))
      (pss_cons (ps_set (i := 5) sc_law_step.nd rfl (Or.inl rfl) (pe_ix (Da.ixK (K := K) rfl) (pv 3) (pe_un un_neg pe_int) (fun _ _ => rfl)))
      (pss_cons (ps_if (pt_cmpR (Da.eqK (K := K) rfl hr.units) (pe_ix (Da.ixK (K := K) rfl) (pv 3) pe_int (fun _ _ => rfl)) pe_str (nomark _))
        (pss_one (ps_set (i := 4) sc_law_step.nd rfl (Or.inl rfl) (pv 2)))
        (pss_one (ps_if (pt_cmpR (Da.eqK (K := K) rfl hr.units) (pe_ix (Da.ixK (K := K) rfl) (pv 3) pe_int (fun _ _ => rfl)) pe_str (nomark _))
          (pss_one (ps_set (i := 4) sc_law_step.nd rfl (Or.inl rfl) (pe_op op_modN (pe_callTy call_int1 (by rfl) T.z_int (by decide +kernel) (pa_cons (pv 2) pa_nil)) (pe_ix (Da.ixK (K := K) rfl) (pv 3) pe_int (fun _ _ => rfl)))))
          (pss_one (ps_if (pt_cmpR (Da.eqK (K := K) rfl hr.units) (pe_ix (Da.ixK (K := K) rfl) (pv 3) pe_int (fun _ _ => rfl)) pe_str (nomark _))
            (pss_one (ps_set (i := 4) sc_law_step.nd rfl (Or.inl rfl) (pe_callB (call_min2 rfl) (by rfl) T.z_min (by decide +kernel) (pa_cons (pv 2) (pa_cons (pe_ix (Da.ixK (K := K) rfl) (pv 3) pe_int (fun _ _ => rfl)) pa_nil)))))
            (pss_one (ps_if (pt_cmpR (Da.eqK (K := K) rfl hr.units) (pe_ix (Da.ixK (K := K) rfl) (pv 3) pe_int (fun _ _ => rfl)) pe_str (nomark _))
              (pss_one (ps_set (i := 5) sc_law_step.nd rfl (Or.inl rfl) (pe_ix (Da.ixK (K := K) rfl) (pe_op (Da.addK (K := K) rfl) (pe_lc (g := gTup K 2 (gCons (gName 6) (gCons (gName 7) gNil))) rfl sc_law_step.nd (Da.seqK (K := K) rfl (pe_ix (Da.ixK (K := K) rfl) (pv 3) pe_int (fun _ _ => rfl))) (blkOk_by (own := [("_law_value", 6), ("_law_name", 7)]) (N := ["_law_book", "_law_state", "_law_cell", "_law_line_here", "_law_kept", "_law_goal_here", "_law_value", "_law_name"]) (sc := defScope s_law_step) (by decide +kernel)) (fun _ _ _ _ _ => (Da.gtupK (n := 2) (K := K) rfl (by rfl) (pgs_cons (pg_name (i := 6) sc_law_step.nd rfl (Or.inl rfl)) (pgs_cons (pg_name (i := 7) sc_law_step.nd rfl (Or.inl rfl)) pgs_nil)))) (fun _ _ _ _ _ => (pts_one (pt_cmpR (Da.eqK (K := K) rfl hr.units) (pv 6) (pv 2) (nomark _)))) (fun _ _ _ _ _ => (pv 7))) (pe_lst (pa_cons (pv 5) pa_nil))) pe_int (fun _ _ => rfl))))
              pss_nil)))))))
      (pss_one (ps_ret (pe_call (ok_law_settle T) (hr.mono (by decide)) rfl T.m_law_settle T.F_law_settle.kp T.b_law_settle .nil pass0 (pa_cons (pv 0) (pa_cons (pv 5) (pa_cons (pv 4) pa_nil))))))))))), Da.go_up3 h ?_⟩
  intro pn a b c n Q _ h
  unfold dStep at h
  obtain ⟨ns, ws, ls, ⟨i, k, l⟩, z, rfl, rfl, rfl, dr, sk, h⟩ := h
  have hi : i < ws.length := sk.lt
  obtain ⟨li, hli⟩ : ∃ li, ls[i]? = some li := ⟨_, List.getElem?_eq_getElem (by rw [dr.lenL]; exact hi)⟩
  have hok := dr.ok i li hli
  have eb : bookD ns ls = .dct [(Sum.inr "first", .str (wAt ns 0)), (Sum.inr "lines", .dct (lawK ns ls))] := rfl
  rw [eb, st_some]
  walk_at "w"
  refine ⟨_, book_lines, ?_⟩
  walk_at "w"
  refine ⟨_, st_at, ?_⟩
  walk_at "w"
  refine ⟨_, lawK_look dr hli, ?_⟩
  walk_at "w"
  refine ⟨_, st_left, ?_⟩
  walk_at "w"
  refine .dec (fun hl => ?_) (fun hl => ?_)
  · have hl : (1 : Int) < (l : Int) := hl
    have e : step1 ls ⟨i, k, l⟩ z = (some ⟨i, k, l - 1⟩, false) := if_pos (show 1 < l by omega)
    rw [e] at h
    have h : Q (.tup [stD ns (some ⟨i, k, l - 1⟩), .bl false]) n := h
    rw [st_some, show ((l - 1 : Nat) : Int) = (l : Int) - 1 by omega] at h
    walk_at "w"
    refine ⟨_, st_at, ?_⟩
    walk_at "w"
    refine ⟨_, st_kept, ?_⟩
    walk_at "w"
    refine ⟨_, st_left, ?_⟩
    cases k <;> (walk_at "w"; refine ⟨⟨(by show 3 ≤ 15; decide), keys_st⟩, ?_⟩; walk_at "w"; exact h)
  · have hl : ¬ (1 : Int) < (l : Int) := hl
    have e : step1 ls ⟨i, k, l⟩ z = behind ls ⟨i, k, l⟩ z := if_neg (show ¬ 1 < l by omega)
    rw [e] at h
    walk_at "w"
    refine ⟨_, st_kept, ?_⟩
    cases li with
    | case wy o =>
      rw [beh_case hli] at h
      rw [li_case]
      walk_at "w"
      have en : (Src.seq (wy.map (wayD ns))).n = wy.length := List.length_map _
      refine lc_inv (fun j acc s => acc = ((wy.take j).filter fun y => y.1 == z).map (fun y => D.str (wAt ns y.2)) ∧ s = st0 n pn) (le1000 (by rw [en]; have := hok.2.2.2.1; omega)) ⟨rfl, rfl⟩ ?_ ?_
      · rintro j d _ _ hj hd hl ⟨rfl, rfl⟩
        have hd := seq_at hd
        rw [List.getElem?_map] at hd
        obtain ⟨y, hy, rfl⟩ := Option.map_eq_some_iff.mp hd
        unfold wayD
        walk_at "w"
        refine .dec (fun h0 => ?_) (fun h0 => ?_)
        · walk_at "w"
          refine ⟨?_, rfl⟩
          rw [take_more hy, List.filter_append, List.map_append, List.filter_cons, if_pos (by rw [beq_iff_eq]; exact h0)]
          rfl
        · refine ⟨?_, rfl⟩
          rw [take_more hy, List.filter_append, List.map_append, List.filter_cons, if_neg (by rw [beq_iff_eq]; exact h0)]
          exact (List.append_nil _).symm
      · rintro _ _ hl ⟨rfl, rfl⟩
        rw [en, List.take_length]
        walk_at "w"
        refine ⟨le1000 (by rw [List.length_map]; have h1 := List.length_filter_le (fun y : Int × Nat => y.1 == z) wy; have := hok.2.2.2.1; show _ + 1 ≤ 1000; omega), ?_⟩
        walk_at "w"
        refine ⟨_, way_first, ?_⟩
        cases k <;> (walk_at "w"; exact i_settle dr (way_lt (fun y hy => (hok.2.2.1 y hy).2.2.1) hok.2.2.2.2.1) rfl h)
    | take o =>
      rw [beh_take hli] at h
      walk_at "w"
      exact i_settle (k := some z) dr hok.2.1 rfl h
    | upto c x y =>
      rcases sk.word with hw | ⟨hw, _⟩
      · exact absurd hw (by show ¬ Lk (wAt ws i); rw [hok.1]; decide +kernel)
      · exact absurd (hok.1.symm.trans hw) (by decide +kernel)
    | fin x =>
      rcases sk.word with hw | ⟨hw, _⟩
      · exact absurd hw (by show ¬ Lk (wAt ws i); rw [hok.1]; rcases hok.2 with rfl | rfl <;> decide +kernel)
      · exact absurd (hok.1.symm.trans hw) (by rcases hok.2 with rfl | rfl <;> decide +kernel)
    | num x c o =>
      rw [beh_num hli] at h
      obtain ⟨hx, hn, ho⟩ := hok
      rcases hn with ⟨rfl, hc, _⟩ | ⟨rfl, _⟩ | ⟨rfl, hc, _⟩ | ⟨rfl, _⟩ | ⟨rfl, _⟩
      · rw [if_pos rfl] at h
        walk_at "w"
        refine ⟨(by show c ≠ 0; omega), ?_⟩
        walk_at "w"
        exact i_settle (k := some (z % c)) dr ho.1 (by rw [Int.fmod_eq_emod_of_nonneg _ (by omega)]; rfl) h
      · rw [if_neg (by decide +kernel), if_pos rfl] at h
        walk_at "w"
        exact i_settle (k := some _) dr ho.1 (by show D.int (min z c) = D.int _; congr 1; omega) h
      · rw [if_neg (by decide +kernel), if_neg (by decide +kernel)] at h
        cases k <;> (walk_at "w"; exact i_settle dr ho.1 rfl h)
      · rcases sk.word with hw | ⟨hw, _⟩
        · exact absurd hw (by show ¬ Lk (wAt ws i); rw [hx]; decide +kernel)
        · exact absurd (hx.symm.trans hw) (by decide +kernel)
      · rw [if_neg (by decide +kernel), if_neg (by decide +kernel)] at h
        cases k <;> (walk_at "w"; exact i_settle dr ho.1 rfl h)
theorem i_step {pn : Option (Addr × Addr)} {n : Nat} {Q : D → Nat → Prop} {X : XD} {ns ws : List Str} {ls : List Li} {s : Sd} {z : Int} (dr : Drawn ns ws ls) (sk : SdOk ws s) (h : Q (.tup [stD ns (step1 ls s z).1, .bl (step1 ls s z).2]) n) : dStep pn (bookD ns ls) (stD ns (some s)) (.int z) n Q X := by
  unfold dStep
  exact ⟨ns, ws, ls, s, z, rfl, rfl, rfl, dr, sk, h⟩
end
end Lw

namespace Lw
open PySem L2
open Evl Da
local macro_rules
  | `(tactic| walk_at "f") => `(tactic| first | exact lookF_put | exact lookF_hit | exact (lookF_skip (by decide +kernel) lookF_hit) | exact (lookF_skip (by decide +kernel) (lookF_skip (by decide +kernel) lookF_hit)) | exact (lookF_skip (by decide +kernel) (lookF_skip (by decide +kernel) (lookF_skip (by decide +kernel) lookF_hit))) | exact (lookF_skip (by decide +kernel) (lookF_skip (by decide +kernel) (lookF_skip (by decide +kernel) (lookF_skip (by decide +kernel) lookF_hit)))) | exact (lookF_skip (by decide +kernel) (lookF_skip (by decide +kernel) (lookF_skip (by decide +kernel) (lookF_skip (by decide +kernel) (lookF_skip (by decide +kernel) lookF_hit))))) | exact (lookF_skip (by decide +kernel) (lookF_skip (by decide +kernel) (lookF_skip (by decide +kernel) (lookF_skip (by decide +kernel) (lookF_skip (by decide +kernel) (lookF_skip (by decide +kernel) lookF_hit)))))) | ((refine lookF_other (by decide +kernel) ?_); walk_at "f") | ((refine lookF_skip (by decide +kernel) ?_); walk_at "f"))
  | `(tactic| walk_at "fl") => `(tactic| first | exact Nat.zero_lt_succ _ | ((refine putFD_lt ?_); walk_at "fl"))
  | `(tactic| walk_at "a") => `(tactic| first | exact le1000 (Nat.le_of_ble_eq_true rfl) | exact rfl | decide +kernel | exact And.intro (by with_reducible assumption) (by with_reducible assumption) | exact And.intro (And.intro (by with_reducible assumption) (by with_reducible assumption)) (by walk_at "fl"))
  | `(tactic| walk_at "w") => `(tactic| ((conv => whnf); repeat ((first | ((with_reducible refine And.intro ?_ ?_); (focus (walk_at "a"))) | ((with_reducible refine Br.yes ?_ ?_); (focus (first | exact rfl | decide +kernel))) | ((with_reducible refine Br.no ?_ ?_); (focus (first | exact rfl | decide +kernel))) | ((with_reducible refine ex_fld ?_); (refine fld_w (by walk_at "f") ?_)) | ((with_reducible refine ex_at ?_); (refine at_w rfl ?_))); (conv => whnf))))
  | `(tactic| walk_at "n") => `(tactic| ((try dsimp only [st0, st1, S.at, S.drop, S.own, S.put, S.frz, Src.n] at *); omega))
  | `(tactic| walk_at "draw") => `(tactic| ((try walk_at "w"); (refine i_draw ⟨by walk_at "n", by walk_at "n", by walk_at "n"⟩ ?_)))
theorem map_skip {r : List (Key × D)} {k : Key} {d : D} (h : k ∉ r.map (·.1)) : (r.map fun kv => if kv.1 = k then (kv.1, d) else kv) = r := by
  induction r with
  | nil => rfl
  | cons p r ih =>
    rw [List.map_cons, List.mem_cons, not_or] at h
    rw [List.map_cons, ih h.2, if_neg (Ne.symm h.1)]
theorem putK_hit {r : List (Key × D)} {k : Key} {x d : D} (h : k ∉ r.map (·.1)) : putKE ((k, x) :: r) k d = (k, d) :: r := by
  unfold putKE
  rw [if_pos (by simp), List.map_cons, map_skip h, if_pos rfl]
theorem putK_skip {r : List (Key × D)} {k k' : Key} {x d : D} (h : k' ≠ k) (hm : k ∈ r.map (·.1)) : putKE ((k', x) :: r) k d = (k', x) :: putKE r k d := by
  obtain ⟨y, hy, e⟩ := List.mem_map.mp hm
  have h1 : (r.any fun kv => decide (kv.1 = k)) = true := List.any_eq_true.mpr ⟨y, hy, decide_eq_true e⟩
  unfold putKE
  rw [if_pos (by rw [List.any_cons, h1, Bool.or_true]), if_pos h1, List.map_cons, if_neg h]
abbrev f3 (a b c : D) : List (Key × D) := [(Sum.inr "cuts", a), (Sum.inr "refused", b), (Sum.inr "read", c)]
theorem new_key {k : Key} {r : List Key} (h : (r ++ [k]).Nodup) : k ∉ r := fun z => (List.nodup_append.mp h).2.2 k z k List.mem_cons_self rfl
theorem put_ref {a b c d : D} : putKE (f3 a b c) (Sum.inr "refused") d = f3 a d c := by
  rw [putK_skip (by decide +kernel) List.mem_cons_self, putK_hit ((List.nodup_cons.mp (show ([Sum.inr "refused", Sum.inr "read"] : List Key).Nodup by decide +kernel)).1)]
theorem put_read {a b c d : D} : putKE (f3 a b c) (Sum.inr "read") d = f3 a b d := by
  rw [putK_skip (by decide +kernel) (List.mem_cons_of_mem _ List.mem_cons_self), putK_skip (by decide +kernel) List.mem_cons_self, putK_hit List.not_mem_nil]
abbrev f6 (a b c x y z : D) : List (Key × D) := [(Sum.inr "cuts", a), (Sum.inr "refused", b), (Sum.inr "read", c), (Sum.inr "at", x), (Sum.inr "kept", y), (Sum.inr "left", z)]
theorem put_end {a b c x y z : D} : putKE (putKE (putKE (f3 a b c) (Sum.inr "at") x) (Sum.inr "kept") y) (Sum.inr "left") z = f6 a b c x y z := by
  have e1 : putKE (f3 a b c) (Sum.inr "at") x = f3 a b c ++ ([(Sum.inr "at", x)] : List (Key × D)) := putKE_new (ds := f3 a b c) (k := Sum.inr "at") (d := x) (by show (Sum.inr "at" : Key) ∉ ([Sum.inr "cuts", Sum.inr "refused", Sum.inr "read"] : List Key); exact new_key (show ([Sum.inr "cuts", Sum.inr "refused", Sum.inr "read", Sum.inr "at"] : List Key).Nodup by decide +kernel))
  have e2 : putKE (f3 a b c ++ ([(Sum.inr "at", x)] : List (Key × D))) (Sum.inr "kept") y = f3 a b c ++ ([(Sum.inr "at", x)] : List (Key × D)) ++ ([(Sum.inr "kept", y)] : List (Key × D)) := putKE_new (ds := f3 a b c ++ ([(Sum.inr "at", x)] : List (Key × D))) (k := Sum.inr "kept") (d := y) (by show (Sum.inr "kept" : Key) ∉ ([Sum.inr "cuts", Sum.inr "refused", Sum.inr "read", Sum.inr "at"] : List Key); exact new_key (show ([Sum.inr "cuts", Sum.inr "refused", Sum.inr "read", Sum.inr "at", Sum.inr "kept"] : List Key).Nodup by decide +kernel))
  have e3 : putKE (f3 a b c ++ ([(Sum.inr "at", x)] : List (Key × D)) ++ ([(Sum.inr "kept", y)] : List (Key × D))) (Sum.inr "left") z = f3 a b c ++ ([(Sum.inr "at", x)] : List (Key × D)) ++ ([(Sum.inr "kept", y)] : List (Key × D)) ++ ([(Sum.inr "left", z)] : List (Key × D)) := putKE_new (ds := f3 a b c ++ ([(Sum.inr "at", x)] : List (Key × D)) ++ ([(Sum.inr "kept", y)] : List (Key × D))) (k := Sum.inr "left") (d := z) (by show (Sum.inr "left" : Key) ∉ ([Sum.inr "cuts", Sum.inr "refused", Sum.inr "read", Sum.inr "at", Sum.inr "kept"] : List Key); exact new_key (show ([Sum.inr "cuts", Sum.inr "refused", Sum.inr "read", Sum.inr "at", Sum.inr "kept", Sum.inr "left"] : List Key).Nodup by decide +kernel))
  rw [e1, e2, e3]
  rfl
theorem f3_cuts {a b c : D} : lookK (f3 a b c) (Sum.inr "cuts") = some a := lookK_hit
theorem keys_book : ([Sum.inr "first", Sum.inr "lines"] : List Key).Nodup := by decide +kernel
theorem keys_f3 : ([Sum.inr "cuts", Sum.inr "refused", Sum.inr "read"] : List Key).Nodup := by decide +kernel
theorem bk_first {a b : D} : lookK [(Sum.inr "first", a), (Sum.inr "lines", b)] (Sum.inr "first") = some a := lookK_hit
theorem bk_lines {a b : D} : lookK [(Sum.inr "first", a), (Sum.inr "lines", b)] (Sum.inr "lines") = some b := lookK_skip (by decide +kernel) lookK_hit
theorem lawK_app {ns : List Str} {ls : List Li} {li : Li} : lawK ns (ls ++ [li]) = lawK ns ls ++ [(Sum.inr (wAt ns ls.length), liD ns false li)] := by unfold lawK; rw [numbered_app, List.map_append]; rfl
theorem lawK_put {ns ws : List Str} {ls : List Li} (dr : Drawn ns ws ls) {i : Nat} {li : Li} (h : ls[i]? = some li) : putKE (lawK ns (ls.take i)) (Sum.inr (wAt ns i)) (liD ns false li) = lawK ns (ls.take (i + 1)) := by
  have hi := (List.getElem?_eq_some_iff.mp h).1
  have hl2 := dr.lenL
  have ht : (ls.take i).length = i := by rw [List.length_take]; omega
  rw [take_more h, lawK_app, ht]
  refine putKE_new fun z => ?_
  unfold lawK at z
  rw [List.map_map] at z
  obtain ⟨y, hy, e⟩ := List.mem_map.mp z
  obtain ⟨j, hj⟩ := List.getElem?_of_mem hy
  have hj1 := (List.getElem?_eq_some_iff.mp hj).1
  rw [numbered_len, ht] at hj1
  have hj2 := numbered_at (ls := ls.take i) (List.getElem?_eq_getElem (by rw [ht]; exact hj1))
  rw [hj] at hj2
  obtain rfl := Option.some.inj hj2
  have e : (Sum.inr (wAt ns j) : Key) = Sum.inr (wAt ns i) := e
  injection e with e
  have := wAt_inj dr.nd (by have := dr.len; omega) (by have := dr.len; omega) e
  omega
section
variable {P : Program} {w : World} {K : PySem.W.Frag} {mg : Str → Option Value} {base : Heap}
/-- what the law's own walk finds -/
def foundD (ns : List Str) (v : Wk) : D := .dct [(Sum.inr "cuts", .lst (intsD v.cuts)), (Sum.inr "refused", kD v.ref), (Sum.inr "read", .int (endT (v.place : Int) v.ref)), (Sum.inr "at", sO (lineW ns v.sd)), (Sum.inr "kept", kD (keptW v.sd)), (Sum.inr "left", .int (leftW v.sd))]
@[irreducible] def dWalk : R2' := fun _ a b n Q _ => ∃ (ns ws : List Str) (ls : List Li) (cs : List Int), a = .lst (linesD ns ls false) ∧ b = .lst (intsD cs) ∧ Drawn ns ws ls ∧ cs.length ≤ 1000 ∧ Q (foundD ns (runW ls (wk0 ls) cs)) n
theorem ok_law_walk (T : Tx w K mg) : FnOk P w K mg base CX0 3 T.f_law_walk T.d_law_walk ["_law_lines_here", "_law_cells"] (Da.upSp K (sp2 dWalk)) := by
  refine T.F_law_walk.ok sc_law_walk (fun vs H Q E h => Da.up_len2 h) (fun cdv A outer s H vs Q E hr h => ?_)
  refine ⟨_, (pss_cons (Da.ps_own 1 (ps_set (i := 2) sc_law_walk.nd rfl (Or.inl rfl) (pe_disp (pps_cons pe_str (pe_ix (Da.ixK (K := K) rfl) (pe_ix (Da.ixK (K := K) rfl) (pv 0) pe_int (fun _ _ => rfl)) pe_int (fun _ _ => rfl)) (pps_cons pe_str (Da.pe_own 2 pe_dnewK) pps_nil)) (by rfl) (by rfl) (fun z => by cases z) (by decide))))
      (pss_cons (ps_for PassesOwn.never rfl (Da.seqK (K := K) rfl (pv 0)) (Da.gtupK (n := 2) (K := K) rfl (by rfl) (pgs_cons (pg_name (i := 3) sc_law_walk.nd rfl (Or.inl rfl)) (pgs_cons (pg_name (i := 4) sc_law_walk.nd rfl (Or.inl rfl)) pgs_nil)))
        (pss_one (ps_dput (hu_of hr) (pe_dget (hu_of hr) (pv 2) pe_str (fun _ _ => rfl)) (pv 3) (pv 4) rfl)))
      (pss_cons (ps_set (i := 5) sc_law_walk.nd rfl (Or.inl rfl) (pe_ix (Da.ixK (K := K) rfl) (pe_call (ok_law_settle T) (hr.mono (by decide)) rfl T.m_law_settle T.F_law_settle.kp T.b_law_settle .nil pass0 (pa_cons (Da.pe_deep (pv 2)) (pa_cons (pe_dget (hu_of hr) (pv 2) pe_str (fun _ _ => rfl)) (pa_cons pe_non pa_nil)))) pe_int (fun _ _ => rfl)))
      (pss_cons (Da.ps_own 3 (ps_set (i := 6) sc_law_walk.nd rfl (Or.inl rfl) (pe_disp (pps_cons pe_str (Da.pe_own 4 (pe_lst pa_nil)) (pps_cons pe_str pe_non (pps_cons pe_str (pe_callB (Da.lenK (K := K) rfl) (by rfl) T.z_len (by decide +kernel) (pa_cons (pv 1) pa_nil)) pps_nil))) (by rfl) (by rfl) (fun z => by cases z) (by decide))))
      (pss_cons (ps_for PassesOwn.never rfl (pi_range1 (by rfl) T.z_range (pa_cons (pe_callB (Da.lenK (K := K) rfl) (by rfl) T.z_len (by decide +kernel) (pa_cons (pv 1) pa_nil)) pa_nil)) (pg_name (i := 7) sc_law_walk.nd rfl (Or.inl rfl))
        (pss_one (ps_if (pt_cmpR op_notN (pe_dget (hu_of hr) (pv 5) pe_str (fun _ _ => rfl)) pe_non (nomark _))
          (pss_cons (ps_asg (pe_call (ok_law_step T) (hr.mono (by decide)) rfl T.m_law_step T.F_law_step.kp T.b_law_step .nil pass0 (pa_cons (Da.pe_deep (pv 2)) (pa_cons (pv 5) (pa_cons (pe_ix (Da.ixK (K := K) rfl) (pv 1) (pv 7) (fun _ _ => rfl)) pa_nil)))) (Da.gtupK (n := 2) (K := K) rfl (by rfl) (pgs_cons (pg_name (i := 5) sc_law_walk.nd rfl (Or.inl rfl)) (pgs_cons (pg_name (i := 8) sc_law_walk.nd rfl (Or.inl rfl)) pgs_nil))))
          (pss_cons (ps_if (pt_val (pv 8))
            (pss_one (ps_expr (Da.bmK (K := K) rfl PySem.F.plainAttrs_list PySem.F.slot_list_append PySem.F.type_list_append mt_append (pe_dget (hu_of hr) (pv 6) pe_str (fun _ _ => rfl)) (pa_cons (pe_op (Da.addK (K := K) rfl) (pv 7) pe_int) pa_nil))))
            pss_nil)
          (pss_one (ps_if (pt_cmpR op_isN (pe_dget (hu_of hr) (pv 5) pe_str (fun _ _ => rfl)) pe_non (nomark _))
            (pss_cons (ps_dput (hu_of hr) (pv 6) pe_str (pe_op (Da.addK (K := K) rfl) (pv 7) pe_int) rfl)
            (pss_one (ps_dput (hu_of hr) (pv 6) pe_str (pe_op (Da.addK (K := K) rfl) (pv 7) pe_int) rfl)))
            pss_nil))))
          pss_nil)))
      (pss_cons (ps_dput (hu_of hr) (pv 6) pe_str (pe_dget (hu_of hr) (pv 5) pe_str (fun _ _ => rfl)) rfl)
      (pss_cons (ps_dput (hu_of hr) (pv 6) pe_str (pe_dget (hu_of hr) (pv 5) pe_str (fun _ _ => rfl)) rfl)
      (pss_cons (ps_dput (hu_of hr) (pv 6) pe_str (pe_dget (hu_of hr) (pv 5) pe_str (fun _ _ => rfl)) rfl)
      (pss_one (ps_ret (Da.pe_deep (pv 6)))))))))))), Da.go_up2 h ?_⟩
  intro pn a b n Q _ h
  unfold dWalk at h
  obtain ⟨ns, ws, ls, cs, rfl, rfl, dr, hl, h⟩ := h
  obtain ⟨l0, d0, g1, g2, g3⟩ := ls_head dr false
  walk_at "w"
  refine ⟨_, atI_nat (j := 0) g3, ?_⟩
  walk_at "w"
  intro l2
  walk_at "w"
  refine ⟨⟨(by show 2 ≤ 15; decide), keys_book⟩, ?_⟩
  walk_at "w"
  intro l1
  walk_at "w"
  have en : (Src.seq (linesD ns ls false)).n = ls.length := linesD_len
  have hl2 := dr.lenL
  have h8 := dr.most
  refine for_inv (fun i Γ s => ∃ (u3 u4 u5 u6 u7 u8 : Option D), Γ = [some (.lst (linesD ns ls false)), some (.lst (intsD cs)), some (.loc l1 1), u3, u4, u5, u6, u7, u8] ∧ s = ⟨[⟨1, l1, .dct [(Sum.inr "first", .str (wAt ns 0)), (Sum.inr "lines", .loc l2 2)], false⟩, ⟨2, l2, .dct (lawK ns (ls.take i)), false⟩], n, pn⟩) ⟨_, _, _, _, _, _, rfl, rfl⟩ ?_ ?_
  · rintro i d _ _ hi hd ⟨u3, u4, u5, u6, u7, u8, rfl, rfl⟩
    obtain ⟨li, ds, hli, eds, rfl⟩ := ls_at (seq_at hd)
    have hi2 := (List.getElem?_eq_some_iff.mp hli).1
    walk_at "w"
    refine ⟨_, bk_lines, ?_⟩
    walk_at "w"
    refine ⟨small1000 (by unfold lawK; rw [List.length_map, numbered_len, List.length_take]; omega), ?_⟩
    walk_at "w"
    rw [← eds, lawK_put dr hli]
    exact ⟨_, _, _, _, _, _, rfl, rfl⟩
  · rintro _ _ ⟨u3, u4, u5, u6, u7, u8, rfl, rfl⟩
    rw [en, List.take_length]
    walk_at "w"
    refine ⟨_, bk_first, ?_⟩
    walk_at "w"
    refine i_settle (k := none) dr dr.pos rfl ?_
    rw [(come_first dr).1]
    walk_at "w"
    intro l4
    walk_at "w"
    refine ⟨⟨(by show 3 ≤ 15; decide), keys_f3⟩, ?_⟩
    walk_at "w"
    intro l3
    walk_at "w"
    have elen : (intsD cs).length = cs.length := intsD_len cs
    refine ⟨by rw [elen]; omega, ?_⟩
    refine for_inv (fun j Γ s => ∃ (v : Wk) (u3 u4 u7 u8 : Option D), Γ = [some (.lst (linesD ns ls false)), some (.lst (intsD cs)), some (.loc l1 1), u3, u4, some (stD ns v.sd), some (.loc l3 3), u7, u8] ∧ s = ⟨[⟨3, l3, .dct (f3 (.loc l4 4) (kD v.ref) (.int (endT ((intsD cs).length : Int) v.ref))), false⟩, ⟨4, l4, .lst (intsD v.cuts), false⟩, ⟨1, l1, .dct [(Sum.inr "first", .str (wAt ns 0)), (Sum.inr "lines", .loc l2 2)], true⟩, ⟨2, l2, .dct (lawK ns ls), true⟩], n, pn⟩ ∧ runW ls (wk0 ls) (cs.take j) = v ∧ WkOk ws v ∧ v.place = j) ⟨wk0 ls, _, _, _, _, rfl, rfl, rfl, wk0_ok dr, rfl⟩ ?_ ?_
    · rintro j d _ _ hj hd ⟨v, u3, u4, u7, u8, rfl, rfl, hv, ok, hp⟩
      obtain ⟨hj, rfl⟩ := rng_at hd
      rw [elen] at hj
      have hj : j < cs.length := by omega
      obtain ⟨z, hz⟩ : ∃ z, cs[j]? = some z := ⟨_, List.getElem?_eq_getElem hj⟩
      have hz2 : (intsD cs)[j]? = some (.int z) := by unfold intsD; rw [List.getElem?_map, hz]; rfl
      have hv2 : runW ls (wk0 ls) (cs.take (j + 1)) = stepW ls v z := by rw [take_more hz, runW_app, hv]; rfl
      have ok2 := ok.step dr z
      obtain ⟨pl, ct, rf, sd⟩ := v
      have hp : pl = j := hp
      subst hp
      cases sd with
      | none =>
        walk_at "w"
        refine ⟨_, st_at, ?_⟩
        walk_at "w"
        exact ⟨⟨pl + 1, ct, rf, none⟩, _, _, _, _, rfl, rfl, hv2, ok2, rfl⟩
      | some s =>
        obtain rfl : rf = none := by
          cases rf with
          | none => rfl
          | some r => exact nomatch ok.ref
        have sk : SdOk ws s := ok.ok s rfl
        have e1 : stepW ls ⟨pl, ct, none, some s⟩ z = aft ⟨pl, ct, none, some s⟩ 1 (step1 ls s z).1 (step1 ls s z).2 := rfl
        obtain ⟨k1, k2, k3⟩ := step1_ok dr sk z
        walk_at "w"
        refine ⟨_, st_at, ?_⟩
        walk_at "w"
        refine ⟨_, (by rw [Int.zero_add]; exact atI_nat hz2), ?_⟩
        walk_at "w"
        refine i_step (s := s) dr sk ?_
        generalize step1 ls s z = x at e1 k1 k2 k3
        obtain ⟨o, c⟩ := x
        have e4 : (0 : Int) + (pl : Int) + 1 = ((pl + 1 : Nat) : Int) := by omega
        rw [e1] at hv2 ok2
        cases o with
        | none =>
          obtain rfl : c = false := k2 rfl
          walk_at "w"
          refine ⟨_, st_at, ?_⟩
          walk_at "w"
          exact ⟨aft ⟨pl, ct, none, some s⟩ 1 none false, _, _, _, _, rfl, (by
            show (⟨[⟨3, l3, .dct (putKE (putKE (f3 (.loc l4 4) .non (.int ((intsD cs).length : Int))) (Sum.inr "refused") (.int ((0 : Int) + (pl : Int) + 1))) (Sum.inr "read") (.int ((0 : Int) + (pl : Int) + 1))), false⟩, ⟨4, l4, .lst (intsD ct), false⟩, ⟨1, l1, .dct [(Sum.inr "first", .str (wAt ns 0)), (Sum.inr "lines", .loc l2 2)], true⟩, ⟨2, l2, .dct (lawK ns ls), true⟩], n, pn⟩ : S) = _
            rw [put_ref, put_read, e4]
            rfl), hv2, ok2, rfl⟩
        | some s' =>
          cases c with
          | false =>
            walk_at "w"
            refine ⟨_, st_at, ?_⟩
            walk_at "w"
            exact ⟨aft ⟨pl, ct, none, some s⟩ 1 (some s') false, _, _, _, _, rfl, rfl, hv2, ok2, rfl⟩
          | true =>
            have hfew : ct.length ≤ pl := ok.few
            walk_at "w"
            refine ⟨_, f3_cuts, ?_⟩
            walk_at "w"
            refine ⟨small1000 (by rw [intsD_len]; show ct.length ≤ 1000; omega), ?_⟩
            walk_at "w"
            refine ⟨_, st_at, ?_⟩
            walk_at "w"
            exact ⟨aft ⟨pl, ct, none, some s⟩ 1 (some s') true, _, _, _, _, rfl, (by
              show (⟨[⟨3, l3, .dct (f3 (.loc l4 4) .non (.int ((intsD cs).length : Int))), false⟩, ⟨4, l4, .lst (intsD ct ++ [.int ((0 : Int) + (pl : Int) + 1)]), false⟩, ⟨1, l1, .dct [(Sum.inr "first", .str (wAt ns 0)), (Sum.inr "lines", .loc l2 2)], true⟩, ⟨2, l2, .dct (lawK ns ls), true⟩], n, pn⟩ : S) = ⟨[⟨3, l3, _, _⟩, ⟨4, l4, .lst (intsD (ct ++ [((pl + 1 : Nat) : Int)])), _⟩, _, _], _, _⟩
              rw [e4]
              unfold intsD
              rw [List.map_append]
              rfl), hv2, ok2, rfl⟩
    · rintro _ _ ⟨v, u3, u4, u7, u8, rfl, rfl, hv, ok, hp⟩
      have er : (Src.rng 0 ((intsD cs).length : Int).toNat).n = cs.length := by show ((intsD cs).length : Int).toNat = _; rw [elen]; omega
      rw [er] at hv hp
      rw [List.take_length] at hv
      rw [hv] at h
      obtain ⟨pl, ct, rf, sd⟩ := v
      have hp : pl = cs.length := hp
      rw [elen, ← hp]
      have fin : Q (.dct (f6 (.lst (intsD ct)) (kD rf) (.int (endT (pl : Int) rf)) (sO (lineW ns sd)) (kD (keptW sd)) (.int (leftW sd)))) n := h
      generalize endT (pl : Int) rf = R at fin ⊢
      cases rf <;> rcases sd with _ | ⟨i, _ | k, l⟩
      all_goals
        walk_at "w"
        refine ⟨_, st_at, ?_⟩
        walk_at "w"
        refine ⟨_, st_kept, ?_⟩
        walk_at "w"
        refine ⟨_, st_left, ?_⟩
        walk_at "w"
        exact fin
theorem i_walk {pn : Option (Addr × Addr)} {n : Nat} {Q : D → Nat → Prop} {X : XD} {ns ws : List Str} {ls : List Li} {cs : List Int} (dr : Drawn ns ws ls) (hl : cs.length ≤ 1000) (h : Q (foundD ns (runW ls (wk0 ls) cs)) n) : dWalk pn (.lst (linesD ns ls false)) (.lst (intsD cs)) n Q X := by
  unfold dWalk
  exact ⟨ns, ws, ls, cs, rfl, rfl, dr, hl, h⟩
end
end Lw

/-! Readings over data: the law itself, from behind its first statement on (own). -/
namespace Da
open PySem PySem.Spec PyProof.Rows L2 Evl Hd
def lawE : DE := ⟨fun _ _ => False, fun d _ => d = .bl true, fun _ _ => False, fun _ _ => False⟩
def lawG (ks : List Int) (p : Addr) (n : Nat) : Ga := some (.lck ks) :: some (.val (.ref p)) :: List.replicate n none
def lawS (a p : Addr) (n : Nat) : L2.St := some (.ref a) :: some (.ref p) :: List.replicate n none
theorem law_rest {K : PySem.W.Frag} {t : TS} {w : WS} [l : LS K t w] {p q a : Addr} {n : Nat} {ks : List Int} {H : Hp} {Q : VK} (hp : Pen H p q 0) (hs : SqL K (hid [p, q] H) a (ks.map V.int))
    (hw : w lawE (lawG ks p n) (st0 0 (some (p, q)))) (k : ∀ H', Q (.bl true) H') : t { nx := fun _ H' => Q .non H', rt := Q } (lawS a p n) H := by
  have ex : Ex (hid [p, q] H) (vis (fun _ => false) (st0 0 (some (p, q))) H) := fun b o e => by
    obtain ⟨h1, h2⟩ := hid_iff.mp e
    refine vis_iff.mpr ⟨?_, h2⟩
    unfold S.hid
    have h3 : b ≠ p := fun z => h1 (by rw [z]; exact List.mem_cons_self)
    have h4 : b ≠ q := fun z => h1 (by rw [z]; exact List.mem_cons_of_mem _ List.mem_cons_self)
    show (false || false || (b == p || b == q)) = false
    rw [beq_eq_false_iff_ne.mpr h3, beq_eq_false_iff_ne.mpr h4]
    rfl
  have ok : OkS K (fun _ => false) (st0 0 (some (p, q))) H := ⟨(fun e he => nomatch he), List.nodup_nil, fun p' q' e => by
    cases e
    exact ⟨⟨0, hp, Int.le_refl _⟩, (fun e he => nomatch he)⟩, (fun a ha => nomatch ha), (fun e he => nomatch he), fun p' q' e => ⟨rfl, rfl⟩⟩
  have g : RepG K (vis (fun _ => false) (st0 0 (some (p, q))) H) (lawS a p n) (lawG ks p n) := by
    refine ⟨by unfold lawS lawG; simp, fun i d h => ?_⟩
    match i, h with
    | 0, h =>
      cases h
      exact ⟨_, rfl, .lck (ex_l ex hs)⟩
    | 1, h =>
      cases h
      exact ⟨_, rfl, .val⟩
    | i + 2, h =>
      have h : look (List.replicate n none) i = some d := h
      rw [look_rep] at h
      cases h
  exact l.go ⟨g, ok⟩ hw ⟨fun _ _ _ _ _ _ q => q.elim, fun v H' d s' _ _ r q => by
    have q : d = .bl true := q
    subst q
    cases r
    exact k H', fun _ _ _ _ _ _ q => q.elim, fun _ _ _ _ _ _ q => q.elim⟩
theorem ex_hidN {S : List Addr} {H H' : Hp} (e : Ex H H') (h : ∀ b ∈ S, H b = none) : Ex H (hid S H') := fun b o he => hid_iff.mpr ⟨fun z => (by rw [h b z] at he; cases he), e _ _ he⟩
/-- the script's own copy, or [0]: the pen -/
theorem pen_nil {H : Hp} {l z p : Addr} (nl : H l = none) (nz : upd H l (.lst []) z = none) (np : upd (upd H l (.lst [])) z (.lst [.int 0]) p = none) {K : PySem.W.Frag} {a : Addr} {xs : List V} (ha : SqL K H a xs) :
    Pen (upd (upd (upd H l (.lst [])) z (.lst [.int 0])) p (.lst [.ref z, .int 0])) p z 0 ∧ SqL K (hid [p, z] (upd (upd (upd H l (.lst [])) z (.lst [.int 0])) p (.lst [.ref z, .int 0]))) a xs := by
  have e1 := (Ex.new (o := .lst []) nl).trans (Ex.new (o := .lst [.int 0]) nz)
  have e2 : Ex (upd (upd H l (.lst [])) z (.lst [.int 0])) (upd (upd (upd H l (.lst [])) z (.lst [.int 0])) p (.lst [.ref z, .int 0])) := Ex.new np
  refine ⟨⟨by omega, [0], upd_same, e2 _ _ upd_same, by decide, by decide⟩, ex_l (ex_hidN (e1.trans e2) fun b hb => ?_) ha⟩
  rcases List.mem_cons.mp hb with rfl | hb
  · cases h : H b with
    | none => rfl
    | some o => rw [e1 _ _ h] at np; cases np
  · rw [List.mem_singleton.mp hb]
    cases h : H z with
    | none => rfl
    | some o => rw [Ex.new (o := .lst []) nl _ _ h] at nz; cases nz
theorem pen_cons {H : Hp} {l p : Addr} {ns : List Int} (hn : ns ≠ []) (hl : ns.length ≤ 100) (nl : H l = none) (np : upd H l (.lst (ns.map V.int)) p = none) {K : PySem.W.Frag} {a : Addr} {xs : List V} (ha : SqL K H a xs) :
    Pen (upd (upd H l (.lst (ns.map V.int))) p (.lst [.ref l, .int 0])) p l 0 ∧ SqL K (hid [p, l] (upd (upd H l (.lst (ns.map V.int))) p (.lst [.ref l, .int 0]))) a xs := by
  have e1 : Ex H (upd H l (.lst (ns.map V.int))) := Ex.new nl
  have e2 : Ex (upd H l (.lst (ns.map V.int))) (upd (upd H l (.lst (ns.map V.int))) p (.lst [.ref l, .int 0])) := Ex.new np
  refine ⟨⟨by omega, ns, upd_same, e2 _ _ upd_same, hn, hl⟩, ex_l (ex_hidN (e1.trans e2) fun b hb => ?_) ha⟩
  rcases List.mem_cons.mp hb with rfl | hb
  · cases h : H b with
    | none => rfl
    | some o => rw [e1 _ _ h] at np; cases np
  · rw [List.mem_singleton.mp hb]
    exact nl
def spLaw (K : PySem.W.Frag) : Sp := fun vs H Q _ => ∃ (a : Addr) (ns : List Int), vs = [.ref a] ∧ SqL K H a (ns.map V.int) ∧ ns.length ≤ 63 ∧ ∀ H', Q (.bl true) H'
end Da

namespace Lw
open PySem L2
open Evl Da
local macro_rules
  | `(tactic| walk_at "f") => `(tactic| first | exact lookF_put | exact lookF_hit | exact (lookF_skip (by decide +kernel) lookF_hit) | exact (lookF_skip (by decide +kernel) (lookF_skip (by decide +kernel) lookF_hit)) | exact (lookF_skip (by decide +kernel) (lookF_skip (by decide +kernel) (lookF_skip (by decide +kernel) lookF_hit))) | exact (lookF_skip (by decide +kernel) (lookF_skip (by decide +kernel) (lookF_skip (by decide +kernel) (lookF_skip (by decide +kernel) lookF_hit)))) | exact (lookF_skip (by decide +kernel) (lookF_skip (by decide +kernel) (lookF_skip (by decide +kernel) (lookF_skip (by decide +kernel) (lookF_skip (by decide +kernel) lookF_hit))))) | exact (lookF_skip (by decide +kernel) (lookF_skip (by decide +kernel) (lookF_skip (by decide +kernel) (lookF_skip (by decide +kernel) (lookF_skip (by decide +kernel) (lookF_skip (by decide +kernel) lookF_hit)))))) | ((refine lookF_other (by decide +kernel) ?_); walk_at "f") | ((refine lookF_skip (by decide +kernel) ?_); walk_at "f"))
  | `(tactic| walk_at "fl") => `(tactic| first | exact Nat.zero_lt_succ _ | ((refine putFD_lt ?_); walk_at "fl"))
  | `(tactic| walk_at "a") => `(tactic| first | exact le1000 (Nat.le_of_ble_eq_true rfl) | exact rfl | decide +kernel | exact And.intro (by with_reducible assumption) (by with_reducible assumption) | exact And.intro (And.intro (by with_reducible assumption) (by with_reducible assumption)) (by walk_at "fl"))
  | `(tactic| walk_at "w") => `(tactic| ((conv => whnf); repeat ((first | ((with_reducible refine And.intro ?_ ?_); (focus (walk_at "a"))) | ((with_reducible refine Br.yes ?_ ?_); (focus (first | exact rfl | decide +kernel))) | ((with_reducible refine Br.no ?_ ?_); (focus (first | exact rfl | decide +kernel))) | ((with_reducible refine ex_fld ?_); (refine fld_w (by walk_at "f") ?_)) | ((with_reducible refine ex_at ?_); (refine at_w rfl ?_))); (conv => whnf))))
  | `(tactic| walk_at "n") => `(tactic| ((try dsimp only [st0, st1, S.at, S.drop, S.own, S.put, S.frz, Src.n] at *); omega))
  | `(tactic| walk_at "draw") => `(tactic| ((try walk_at "w"); (refine i_draw ⟨by walk_at "n", by walk_at "n", by walk_at "n"⟩ ?_)))
theorem f6_1 {a b c x y z : D} : lookK (f6 a b c x y z) (Sum.inr "cuts") = some a := lookK_hit
theorem f6_2 {a b c x y z : D} : lookK (f6 a b c x y z) (Sum.inr "refused") = some b := lookK_skip (by decide +kernel) lookK_hit
theorem f6_3 {a b c x y z : D} : lookK (f6 a b c x y z) (Sum.inr "read") = some c := lookK_skip (by decide +kernel) (lookK_skip (by decide +kernel) lookK_hit)
theorem f6_4 {a b c x y z : D} : lookK (f6 a b c x y z) (Sum.inr "at") = some x := lookK_skip (by decide +kernel) (lookK_skip (by decide +kernel) (lookK_skip (by decide +kernel) lookK_hit))
theorem f6_5 {a b c x y z : D} : lookK (f6 a b c x y z) (Sum.inr "kept") = some y := lookK_skip (by decide +kernel) (lookK_skip (by decide +kernel) (lookK_skip (by decide +kernel) (lookK_skip (by decide +kernel) lookK_hit)))
theorem f6_6 {a b c x y z : D} : lookK (f6 a b c x y z) (Sum.inr "left") = some z := lookK_skip (by decide +kernel) (lookK_skip (by decide +kernel) (lookK_skip (by decide +kernel) (lookK_skip (by decide +kernel) (lookK_skip (by decide +kernel) lookK_hit))))
section
variable {P : Program} {w : World} {K : PySem.W.Frag} {mg : Str → Option Value} {base : Heap}
@[irreducible] def dDue : R1 := fun _ a n Q _ => ∃ (ns : List Str) (v : Wk), a = foundD ns v ∧ v.cuts.length ≤ 1000 ∧ Q (partsD (ttW ns v)) n
theorem ok_law_due (T : Tx w K mg) : FnOk P w K mg base CX0 1 T.f_law_due T.d_law_due ["_law_found"] (Da.upSp K (sp1 dDue)) := by
  refine T.F_law_due.ok sc_law_due (fun vs H Q E h => Da.up_len1 h) (fun cdv A outer s H vs Q E hr h => ?_)
  refine ⟨_, (pss_cons (ps_set (i := 1) sc_law_due.nd rfl (Or.inl rfl) (pe_dget (hu_of hr) (pv 0) pe_str (fun _ _ => rfl)))
      (pss_cons (ps_set (i := 2) sc_law_due.nd rfl (Or.inl rfl) (pe_ifExp (pt_cmpR (Da.neK (K := K) rfl hr.units) (pv 1) (pe_lst pa_nil) (nomark _)) (pe_ix (Da.ixK (K := K) rfl) (pv 1) (pe_un un_neg pe_int) (fun _ _ => rfl)) pe_non))
      (pss_cons (ps_set (i := 3) sc_law_due.nd rfl (Or.inl rfl) (pe_op op_sub (pe_dget (hu_of hr) (pv 0) pe_str (fun _ _ => rfl)) (pe_ifExp (pt_cmpR op_isN (pv 2) pe_non (nomark _)) pe_int (pv 2))))
      (pss_one (ps_ret (pe_tup (pa_cons (pe_callB (Da.lenK (K := K) rfl) (by rfl) T.z_len (by decide +kernel) (pa_cons (pv 1) pa_nil)) (pa_cons (pv 2) (pa_cons (pe_dget (hu_of hr) (pv 0) pe_str (fun _ _ => rfl)) (pa_cons (pv 3) (pa_cons (pe_dget (hu_of hr) (pv 0) pe_str (fun _ _ => rfl)) (pa_cons (pe_dget (hu_of hr) (pv 0) pe_str (fun _ _ => rfl)) (pa_cons (pe_dget (hu_of hr) (pv 0) pe_str (fun _ _ => rfl)) pa_nil))))))))))))), Da.go_up1 h ?_⟩
  intro pn a n Q _ h
  unfold dDue at h
  obtain ⟨ns, ⟨pl, ct, rf, sd⟩, rfl, hl, h⟩ := h
  have e1 : ttW ns ⟨pl, ct, rf, sd⟩ = ⟨(ct.length : Int), ct.getLast?, rf, insT (pl : Int) rf ct.getLast?, lineW ns sd, keptW sd, leftW sd⟩ := rfl
  have e2 : foundD ns ⟨pl, ct, rf, sd⟩ = .dct (f6 (.lst (intsD ct)) (kD rf) (.int (endT (pl : Int) rf)) (sO (lineW ns sd)) (kD (keptW sd)) (.int (leftW sd))) := rfl
  rw [e1] at h
  rw [e2]
  walk_at "w"
  refine ⟨_, f6_1, ?_⟩
  walk_at "w"
  refine ⟨⟨1, 1, by decide, by decide, (fun d hd => int_plain d hd), (fun d hd => nomatch hd)⟩, ?_⟩
  rw [← intsD_len ct] at h
  have fin : ∀ (L I : D) (la : Option Int), ct.getLast? = la → L = kD la → I = .int (insT (pl : Int) rf la) → Q (.tup [.int ((intsD ct).length : Int), L, kD rf, I, sO (lineW ns sd), kD (keptW sd), .int (leftW sd)]) n := fun L I la e1 e2 e3 => by
    subst e2 e3
    rw [e1] at h
    exact h
  clear h e1 e2
  generalize hR : endT (pl : Int) rf = R
  rcases List.eq_nil_or_concat ct with rfl | ⟨bs, b, rfl⟩
  · have fin := fin .non (.int (R - 0)) none rfl rfl (by rw [Int.sub_zero, ← hR]; rfl)
    refine .nn rfl ?_
    walk_at "w"
    refine ⟨_, f6_3, ?_⟩
    walk_at "w"
    refine ⟨_, f6_2, ?_⟩
    cases rf <;> rcases sd with _ | ⟨i, _ | k, l⟩
    all_goals
      walk_at "w"
      refine ⟨_, f6_4, ?_⟩
      walk_at "w"
      refine ⟨_, f6_5, ?_⟩
      walk_at "w"
      refine ⟨_, f6_6, ?_⟩
      walk_at "w"
      exact fin
  · rw [List.concat_eq_append] at fin ⊢
    have fin := fin (.int b) (.int (R - b)) (some b) (by rw [List.getLast?_append]; rfl) rfl (by rw [← hR]; rfl)
    have e3 : intsD (bs ++ [b]) = intsD bs ++ [.int b] := by unfold intsD; rw [List.map_append]; rfl
    rw [e3] at fin ⊢
    refine .ny (fun z => by simp at z) ?_
    walk_at "w"
    refine ⟨_, at_last, ?_⟩
    walk_at "w"
    refine ⟨_, f6_3, ?_⟩
    walk_at "w"
    refine ⟨_, f6_2, ?_⟩
    cases rf <;> rcases sd with _ | ⟨i, _ | k, l⟩
    all_goals
      walk_at "w"
      refine ⟨_, f6_4, ?_⟩
      walk_at "w"
      refine ⟨_, f6_5, ?_⟩
      walk_at "w"
      refine ⟨_, f6_6, ?_⟩
      walk_at "w"
      exact fin
theorem i_due {pn : Option (Addr × Addr)} {n : Nat} {Q : D → Nat → Prop} {X : XD} {ns : List Str} {v : Wk} (hl : v.cuts.length ≤ 1000) (h : Q (partsD (ttW ns v)) n) : dDue pn (foundD ns v) n Q X := by
  unfold dDue
  exact ⟨ns, v, rfl, hl, h⟩
@[irreducible] def dTold (C : Addr) : R1 := fun _ a n Q _ => ∃ t : TT, a = toldD C t ∧ Q (partsD t) n
theorem ok_law_told (T : Tx w K mg) : FnOk P w K mg base CX0 1 T.f_law_told T.d_law_told ["_law_told_here"] (Da.upSp K (sp1 (dTold T.c_Told))) := by
  refine T.F_law_told.ok sc_law_told (fun vs H Q E h => Da.up_len1 h) (fun cdv A outer s H vs Q E hr h => ?_)
  refine ⟨_, (pss_one (ps_ret (pe_tup (pa_cons (Da.fldK (K := K) rfl (pv 0) rfl) (pa_cons (Da.fldK (K := K) rfl (pv 0) rfl) (pa_cons (Da.fldK (K := K) rfl (pv 0) rfl) (pa_cons (Da.fldK (K := K) rfl (pv 0) rfl) (pa_cons (Da.fldK (K := K) rfl (pv 0) rfl) (pa_cons (Da.fldK (K := K) rfl (pv 0) rfl) (pa_cons (Da.fldK (K := K) rfl (pv 0) rfl) pa_nil)))))))))), Da.go_up1 h ?_⟩
  intro pn a n Q _ h
  unfold dTold at h
  obtain ⟨⟨t1, t2, t3, t4, t5, t6, t7⟩, rfl, h⟩ := h
  have c1 := T.cl_Told
  have c2 := T.n_Told_many
  have c3 := T.n_Told_last
  have c4 := T.n_Told_refused
  have c5 := T.n_Told_inside
  have c6 := T.n_Told_line
  have c7 := T.n_Told_kept
  have c8 := T.n_Told_left
  unfold toldD toldF
  cases t2 <;> cases t3 <;> cases t5 <;> cases t6 <;> (walk_at "w"; exact h)
theorem i_law_told {pn : Option (Addr × Addr)} {n : Nat} {Q : D → Nat → Prop} {X : XD} {C : Addr} {t : TT} (h : Q (partsD t) n) : dTold C pn (toldD C t) n Q X := by
  unfold dTold
  exact ⟨t, rfl, h⟩
theorem i_lines {p q : Addr} {m n : Nat} {Q : D → Nat → Prop} {X : XD} (h : n < 549755810000 ∧ 4 ≤ m ∧ m ≤ 8) (k : ∀ (ns ws : List Str) (ls : List Li) n', Drawn ns ws ls → n' ≤ n + 1000 → Q (.lst (linesD ns ls false)) n') : dLines (some (p, q)) (.val (.ref p)) (.int (m : Int)) n Q X := by
  unfold dLines
  exact ⟨⟨p, q, rfl, rfl⟩, m, rfl, h, fun ns ws ls n' d h => k ns ws ls n' d (by omega)⟩
theorem cells_pl {cs : List Int} : Pl 1 (.lst (intsD cs)) := fun d hd => int_plain d hd
theorem i_orT {ta tb : TE} {σ : L2.St} {H : Hp} {Q : VK} (q : ta σ H fun x H1 => ∃ k, TruV K x H1 k ∧ if k = true then Q x H1 else tb σ H1 Q) : tOrT K ta tb σ H Q := q
end
end Lw

/-! Readings over data: an own + of two instances of one class (own). -/
namespace Da
open PySem PySem.Spec PyProof.Rows L2 Evl Hd
def rBinOwn (K : PySem.W.Frag) (C : Addr) (sp : Sp) (E : XK) : R2 := fun x y H Q => ∃ a b dx fs dy gs, x = .ref a ∧ y = .ref b ∧ H a = some (.ins C dx fs) ∧ H b = some (.ins C dy gs) ∧ sp [.ref a, .ref b] H (fun v H' => ∃ c, v = .ref c ∧ Q (.ref c) H') E
theorem binOwn {X : Cx} {CX : CXT} {n : Nat} {C f : Addr} {fd : FuncData} {ps : List Str} {sp : Sp} {E : XK} {K : PySem.W.Frag} {op : Operator} {m0 : Str} (hm : PySem.dunder op.info.2 = m0) (hK : X.K = K) (F : FnOk X.prog X.w X.K X.mg X.base CX n f fd ps sp) (hs : PySem.W.findIn X.K (.ref C) m0 = some (some (.ref f)))
    (hf : PySem.W.isFn X.K (.ref f) = true) (hb : Binds X.K fd ps []) (hx : Passes CX X E) (hr : Room n X.A) (hc : PySem.W.selfFirst X.K C = true) : OpR X (binaryOp op) (rBinOwn K C sp E) := by
  subst hK
  subst hm
  intro pins s σ H x y v u Q I rx ry ⟨a, b, dx, fs, dy, gs, ex, ey, ha, hy, hsp⟩
  subst ex
  subst ey
  cases rx
  cases ry
  obtain ⟨mA, J0, _⟩ := ins_get I.hok ha
  obtain ⟨od, J, _⟩ := J0.look
  obtain ⟨m, hF⟩ := I.fr
  have hu := hr.units0
  show wpAny (model X.prog X.w) X.A (binaryOp op (.ref a) (.ref b)) (EP X pins σ Q) X.xe s
  have body : wpAny (model X.prog X.w) X.A (call (.ref f) [.ref a, .ref b]) (PySem.W.CmpBack (EP X pins σ Q)) X.xe s := by
    have hl := F.len _ _ _ _ hsp
    refine wpAny_call (codeAny_mono (F.run X.A X.stack s H ⟨[.ref a, .ref b], []⟩ [.ref a, .ref b] [.ref a, .ref b] _ E hr I.env0 (by
      have z := hb s [.ref a, .ref b] I.kIn (by simpa using hl)
      simpa using z) (.cons rfl (.cons rfl .nil)) hsp) fun r st hq => ?_)
    cases r with
    | error er => exact hx pins σ H s er st I hq
    | ok fl =>
      cases fl with
      | ret wv =>
        obtain ⟨z, H2, I2, rz, k, ez, q2⟩ := I.after hq
        subst ez
        cases rz
        exact ⟨.ref k, H2, I2, rfl, q2⟩
      | next => exact False.elim hq
      | brk => exact False.elim hq
      | cont => exact False.elim hq
  obtain ⟨mB, J1, _⟩ := ins_get I.hok hy
  obtain ⟨od2, J2, _⟩ := J1.look
  exact PySem.W.binop_K hF I.ok.mod.kin J J2.type hc hs hf body
section
variable {K : PySem.W.Frag} {F : Fr} {s : S} {H H' : Hp}
def objD (d : D) (k : Prop) : Prop := match d with
  | .obj _ _ => k
  | _ => False
theorem objD_of {d : D} {k : Prop} {Hv : Hp} {v : V} (q : objD d k) (r : Rep K Hv v d) : (∃ c, v = .ref c) ∧ k := by
  unfold objD at q
  split at q
  · cases r with
    | obj g1 g2 => exact ⟨⟨_, rfl⟩, q⟩
  · exact q.elim
def binArgs (C : Addr) (ds : List D) (k : D → D → Prop) : Prop := match ds with
  | [.obj C' fs, .obj C2 gs] => (C' = C ∧ C2 = C) ∧ k (.obj C' fs) (.obj C2 gs)
  | _ => False
def wBinOwn (C : Addr) (dsp : DSp) (wa wb : WE) : WE := fun Γ s Q => wa Γ s fun x s1 => wb Γ s1 fun y s2 => escA s2 [x, y] fun ds s3 => binArgs C ds fun d e => dsp s3.pn [d, e] s3.n (fun d n' => objD d (Q d (s3.at n'))) XF
instance {C : Addr} {dsp : DSp} {E : XK} {ta tb : TE} {wa wb : WE} [la : LE K ta wa] [lb : LE K tb wb] : LE K (tOp (rBinOwn K C (upSp K dsp) E) ta tb) (wBinOwn C dsp wa wb) := ⟨fun {F s H σ Γ Q Q0} a h k =>
  la.go a h fun v1 H1 d1 s1 t1 ok1 r1 h1 => lb.go (a.to t1 ok1) h1 fun v2 H2 d2 s2 t2 ok2 r2 h2 => by
    obtain ⟨ds, s3, h3, ok3, t3, r3⟩ := escs ok2 (.cons (r1.mono t2.ex) (.cons r2 .nil)) h2
    have tt := (t1.trans t2).trans t3
    unfold binArgs at h3
    split at h3
    · obtain ⟨⟨rfl, e2⟩, h4⟩ := h3
      subst e2
      cases r3 with
      | cons q1 q2 =>
        cases q2 with
        | cons q2 q3 =>
          cases q3
          cases q1 with
          | @obj a1 c1 dx fv fs g1 g2 =>
            cases q2 with
            | @obj a2 c2 dy gv gs g3 g4 =>
              refine ⟨a1, a2, dx, fv, dy, gv, rfl, rfl, vis_ex _ _ g1, vis_ex _ _ g3, ?_⟩
              refine call_data ok3 (.cons (.obj g1 g2) (.cons (.obj g3 g4) .nil)) h4 (fun v H4 d n' t4 ok4 r4 q => ?_) (fun _ _ _ _ _ _ _ _ q => q.elim)
              obtain ⟨⟨c, rfl⟩, q⟩ := objD_of q r4
              exact ⟨c, rfl, k _ _ _ _ (tt.trans t4) ok4 r4 q⟩
    · exact h3.elim⟩
end
end Da

/-! Readings over data: an own * by a number (own). -/
namespace PySem.W
open PySem PySem.Spec PyProof.Rows
theorem int_not_own {M : Model} {h : Heap} {C : Addr} : Looks M h (isSubtype (.type "int") (.ref C)) false := Looks.of_pure (by rw [isSubtype_type]; rfl)
theorem slot_py {K : Frag} {M : Model} {h : Heap} {C f : Addr} (X : K.In h) (hs : findIn K (.ref C) (PySem.dunder "mul") = some (some (.ref f))) (hr : findIn K (.ref C) (PySem.dunderR "mul") = some none) : Looks M h (numberSlotInPython (.ref C) "mul") true := by
  intro A Q E s k q
  unfold numberSlotInPython
  refine wpAny_bind (looks_findIn X hs A _ E s k ?_)
  refine wpAny_bind ?_
  show wpAny M A (pure true) _ E s
  refine wpAny_pure ?_
  refine wpAny_bind (looks_findIn X hr A _ E s k ?_)
  refine wpAny_bind ?_
  show wpAny M A (pure false) _ E s
  refine wpAny_pure ?_
  show wpAny M A (pure true) _ E s
  exact wpAny_pure q
theorem binop_int {prog : Program} {w : World} {K : Frag} {L : Addr} {m : Str → Option Value} {h₀ : Heap} {s : Shared} {x C f : Addr} {ox : Obj} {od : Option Obj} {A : Around} {E : Value → Shared → Prop} {j : Int} {t : Tok} {Q : Value → Shared → Prop} (F : Fr h₀ L s.heap m) (X₀ : K.In h₀) (I : InstAt s.heap x ox C od) (hc : selfFirst K C = true)
    (hs : findIn K (.ref C) (PySem.dunder "mul") = some (some (.ref f))) (hr : findIn K (.ref C) (PySem.dunderR "mul") = some none) (hf : isFn K (.ref f) = true)
    (h : wpAny (model prog w) A (call (.ref f) [.ref x, .int j t]) (CmpBack Q) E s) : wpAny (model prog w) A (binaryOp .Mult (.ref x) (.int j t)) Q E s := by
  have X := X₀.keeps F.keep
  obtain ⟨cd, hcd, hm⟩ := any_some hc
  obtain ⟨rest, hm⟩ : ∃ rest, cd.mro = .ref C :: rest := by
    cases q : cd.mro with
    | nil => rw [q] at hm; cases hm
    | cons a r => rw [q] at hm; exact ⟨r, by rw [List.head?_cons] at hm; cases (beq_iff_eq.mp hm); rfl⟩
  unfold binaryOp
  refine wpAny_holding (wpAny_bind ?_)
  unfold binaryOp1
  refine wpAny_bind (I.type.here (wpAny_bind ?_))
  refine (show Looks (model prog w) s.heap (typeOf (.int j t)) (.type "int") from Looks.of_pure rfl).here (wpAny_bind ((fills_K (nm := "mul") X hcd hm hs).here ?_))
  refine wpAny_bind ?_
  refine (Looks.of_pure PySem.F.fills_int_mul).here ?_
  simp only [Bool.and_true, if_true, Bool.and_self]
  refine wpAny_bind (int_not_own.here ?_)
  simp only [Bool.false_eq_true, if_false, Bool.not_false, Bool.and_true, if_true, Bool.and_self]
  refine wpAny_bind ((slot_py X hs hr).here ?_)
  simp only [if_true]
  refine wpAny_bind ((show Looks (model prog w) s.heap (numberSlotInPython (.type "int") "mul") false from Looks.of_pure rfl).here ?_)
  simp only [Bool.not_false, if_true]
  refine wpAny_bind ((Looks.of_pure PySem.F.slot_int_rmul.lookup).here ?_)
  refine wpAny_bind (m := tryMethod (.ref x) _ (.int j t)) ?_
  unfold tryMethod
  refine wpAny_bind (special_fn X I hs (beq_iff_eq.mp hf) (wpAny_mono h (fun v s' hv => ?_) fun _ _ e => e))
  cases v <;> first | exact hv.elim | exact wpAny_pure (wpAny_pure (wpAny_pure hv))
end PySem.W
namespace Da
open PySem PySem.Spec PyProof.Rows L2 Evl Hd
def rMulOwn (K : PySem.W.Frag) (C : Addr) (sp : Sp) (E : XK) : R2 := fun x y H Q => ∃ a k dx fs, x = .ref a ∧ y = .int k ∧ H a = some (.ins C dx fs) ∧ sp [.ref a, .int k] H (fun v H' => ∃ c, v = .ref c ∧ Q (.ref c) H') E
theorem mulOwn {X : Cx} {CX : CXT} {n : Nat} {C f : Addr} {fd : FuncData} {ps : List Str} {sp : Sp} {E : XK} {K : PySem.W.Frag} {m0 m1 : Str} (hm : PySem.dunder "mul" = m0) (hm1 : PySem.dunderR "mul" = m1) (hK : X.K = K) (F : FnOk X.prog X.w X.K X.mg X.base CX n f fd ps sp) (hs : PySem.W.findIn X.K (.ref C) m0 = some (some (.ref f)))
    (hrm : PySem.W.findIn X.K (.ref C) m1 = some none) (hf : PySem.W.isFn X.K (.ref f) = true) (hb : Binds X.K fd ps []) (hx : Passes CX X E) (hr : Room n X.A) (hc : PySem.W.selfFirst X.K C = true) : OpR X (binaryOp .Mult) (rMulOwn K C sp E) := by
  subst hK
  subst hm
  subst hm1
  intro pins s σ H x y v u Q I rx ry ⟨a, k, dx, fs, ex, ey, ha, hsp⟩
  subst ex
  subst ey
  cases rx
  obtain ⟨t, rfl⟩ := ry
  obtain ⟨mA, J0, _⟩ := ins_get I.hok ha
  obtain ⟨od, J, _⟩ := J0.look
  obtain ⟨m, hF⟩ := I.fr
  have hu := hr.units0
  show wpAny (model X.prog X.w) X.A (binaryOp .Mult (.ref a) (.int k t)) (EP X pins σ Q) X.xe s
  have body : wpAny (model X.prog X.w) X.A (call (.ref f) [.ref a, .int k t]) (PySem.W.CmpBack (EP X pins σ Q)) X.xe s := by
    have hl := F.len _ _ _ _ hsp
    refine wpAny_call (codeAny_mono (F.run X.A X.stack s H ⟨[.ref a, .int k t], []⟩ [.ref a, .int k t] [.ref a, .int k] _ E hr I.env0 (by
      have z := hb s [.ref a, .int k t] I.kIn (by simpa using hl)
      simpa using z) (.cons rfl (.cons ⟨t, rfl⟩ .nil)) hsp) fun r st hq => ?_)
    cases r with
    | error er => exact hx pins σ H s er st I hq
    | ok fl =>
      cases fl with
      | ret wv =>
        obtain ⟨z, H2, I2, rz, k, ez, q2⟩ := I.after hq
        subst ez
        cases rz
        exact ⟨.ref k, H2, I2, rfl, q2⟩
      | next => exact False.elim hq
      | brk => exact False.elim hq
      | cont => exact False.elim hq
  exact PySem.W.binop_int hF I.ok.mod.kin J hc hs hrm hf body
section
variable {K : PySem.W.Frag} {F : Fr} {s : S} {H H' : Hp}
def mulArgs (C : Addr) (ds : List D) (k : D → D → Prop) : Prop := match ds with
  | [.obj C' fs, .int j] => C' = C ∧ k (.obj C' fs) (.int j)
  | _ => False
def wMulOwn (C : Addr) (dsp : DSp) (wa wb : WE) : WE := fun Γ s Q => wa Γ s fun x s1 => wb Γ s1 fun y s2 => escA s2 [x, y] fun ds s3 => mulArgs C ds fun d e => dsp s3.pn [d, e] s3.n (fun d n' => objD d (Q d (s3.at n'))) XF
instance {C : Addr} {dsp : DSp} {E : XK} {ta tb : TE} {wa wb : WE} [la : LE K ta wa] [lb : LE K tb wb] : LE K (tOp (rMulOwn K C (upSp K dsp) E) ta tb) (wMulOwn C dsp wa wb) := ⟨fun {F s H σ Γ Q Q0} a h k =>
  la.go a h fun v1 H1 d1 s1 t1 ok1 r1 h1 => lb.go (a.to t1 ok1) h1 fun v2 H2 d2 s2 t2 ok2 r2 h2 => by
    obtain ⟨ds, s3, h3, ok3, t3, r3⟩ := escs ok2 (.cons (r1.mono t2.ex) (.cons r2 .nil)) h2
    have tt := (t1.trans t2).trans t3
    unfold mulArgs at h3
    split at h3
    · obtain ⟨rfl, h4⟩ := h3
      cases r3 with
      | cons q1 q2 =>
        cases q2 with
        | cons q2 q3 =>
          cases q3
          cases q1 with
          | @obj a1 c1 dx fv fs g1 g2 =>
            cases q2
            refine ⟨a1, _, dx, fv, rfl, rfl, vis_ex _ _ g1, ?_⟩
            refine call_data ok3 (.cons (.obj g1 g2) (.cons .int .nil)) h4 (fun v H4 d n' t4 ok4 r4 q => ?_) (fun _ _ _ _ _ _ _ _ q => q.elim)
            obtain ⟨⟨c, rfl⟩, q⟩ := objD_of q r4
            exact ⟨c, rfl, k _ _ _ _ (tt.trans t4) ok4 r4 q⟩
    · exact h3.elim⟩
end
end Da

namespace Lw
open PySem L2
open Evl Da
local macro_rules
  | `(tactic| walk_at "f") => `(tactic| first | exact lookF_put | exact lookF_hit | exact (lookF_skip (by decide +kernel) lookF_hit) | exact (lookF_skip (by decide +kernel) (lookF_skip (by decide +kernel) lookF_hit)) | exact (lookF_skip (by decide +kernel) (lookF_skip (by decide +kernel) (lookF_skip (by decide +kernel) lookF_hit))) | exact (lookF_skip (by decide +kernel) (lookF_skip (by decide +kernel) (lookF_skip (by decide +kernel) (lookF_skip (by decide +kernel) lookF_hit)))) | exact (lookF_skip (by decide +kernel) (lookF_skip (by decide +kernel) (lookF_skip (by decide +kernel) (lookF_skip (by decide +kernel) (lookF_skip (by decide +kernel) lookF_hit))))) | exact (lookF_skip (by decide +kernel) (lookF_skip (by decide +kernel) (lookF_skip (by decide +kernel) (lookF_skip (by decide +kernel) (lookF_skip (by decide +kernel) (lookF_skip (by decide +kernel) lookF_hit)))))) | ((refine lookF_other (by decide +kernel) ?_); walk_at "f") | ((refine lookF_skip (by decide +kernel) ?_); walk_at "f"))
  | `(tactic| walk_at "fl") => `(tactic| first | exact Nat.zero_lt_succ _ | ((refine putFD_lt ?_); walk_at "fl"))
  | `(tactic| walk_at "a") => `(tactic| first | exact le1000 (Nat.le_of_ble_eq_true rfl) | exact rfl | decide +kernel | exact And.intro (by with_reducible assumption) (by with_reducible assumption) | exact And.intro (And.intro (by with_reducible assumption) (by with_reducible assumption)) (by walk_at "fl"))
  | `(tactic| walk_at "w") => `(tactic| ((conv => whnf); repeat ((first | ((with_reducible refine And.intro ?_ ?_); (focus (walk_at "a"))) | ((with_reducible refine Br.yes ?_ ?_); (focus (first | exact rfl | decide +kernel))) | ((with_reducible refine Br.no ?_ ?_); (focus (first | exact rfl | decide +kernel))) | ((with_reducible refine ex_fld ?_); (refine fld_w (by walk_at "f") ?_)) | ((with_reducible refine ex_at ?_); (refine at_w rfl ?_))); (conv => whnf))))
  | `(tactic| walk_at "n") => `(tactic| ((try dsimp only [st0, st1, S.at, S.drop, S.own, S.put, S.frz, Src.n] at *); omega))
  | `(tactic| walk_at "draw") => `(tactic| ((try walk_at "w"); (refine i_draw ⟨by walk_at "n", by walk_at "n", by walk_at "n"⟩ ?_)))
open Jn (Rn joinR expand)
theorem exp_cons {r : Rn} {rs : List Rn} : expand (r :: rs) = List.replicate r.1.toNat r.2 ++ expand rs := rfl
theorem exp_mem {r : Rn} : ∀ {rs : List Rn}, r ∈ rs → 1 ≤ r.1 → r.2 ∈ expand rs
  | x :: l, h, h1 => by
    rw [exp_cons, List.mem_append]
    rcases List.mem_cons.mp h with rfl | h
    · exact .inl (List.mem_replicate.mpr ⟨by omega, rfl⟩)
    · exact .inr (exp_mem h h1)
theorem exp_nn : ∀ {rs : List Rn}, (∀ r ∈ rs, 0 ≤ r.2) → ∀ z ∈ expand rs, 0 ≤ z
  | [], _, z, hz => nomatch hz
  | x :: l, h, z, hz => by
    rw [exp_cons, List.mem_append] at hz
    rcases hz with hz | hz
    · rw [(List.mem_replicate.mp hz).2]
      exact h x List.mem_cons_self
    · exact exp_nn (fun y hy => h y (List.mem_cons_of_mem _ hy)) z hz
theorem join_cells {ps : List Rn} (h : ∀ p ∈ ps, 0 ≤ p.1 ∧ 0 ≤ p.2) : ∀ r ∈ joinR ps, 0 ≤ r.2 := fun r hr => by
  obtain ⟨h1, h2⟩ := Jn.join_ok (fun p q => (h p q).1)
  have := exp_mem hr (h1 r hr)
  rw [h2] at this
  exact exp_nn (fun p q => (h p q).2) _ this
section
variable {P : Program} {w : World} {K : PySem.W.Frag} {mg : Str → Option Value} {base : Heap}
theorem mulE {i j : Int} (hi : i.natAbs < 2 ^ 200) (hj : j.natAbs < 2 ^ 200) : CMulW i j := by
  have h1 : i.natAbs.log2 < 200 := log2_small hi (by decide)
  have h2 : j.natAbs.log2 < 200 := log2_small hj (by decide)
  show i.natAbs.log2 + j.natAbs.log2 < 1000000
  omega
theorem rep_exp {t : Nat} : ∀ {rs : List Rn}, expand (List.replicate t rs).flatten = (List.replicate t (expand rs)).flatten := by
  intro rs
  induction t with
  | zero => rfl
  | succ n ih => rw [List.replicate_succ, List.replicate_succ, List.flatten_cons, List.flatten_cons, Jn.expand_app, ih]
theorem one_exp {t : Nat} {r : Rn} (h : 0 ≤ r.1) : expand [(r.1 * (t : Int), r.2)] = (List.replicate t (expand [r])).flatten := by
  have e1 : expand [r] = List.replicate r.1.toNat r.2 := by rw [exp_cons]; exact List.append_nil _
  have e2 : expand [(r.1 * (t : Int), r.2)] = List.replicate (r.1 * (t : Int)).toNat r.2 := by rw [exp_cons]; exact List.append_nil _
  rw [e1, e2]
  obtain ⟨m, hm⟩ : ∃ m : Nat, r.1 = (m : Int) := ⟨r.1.toNat, by omega⟩
  rw [hm, show ((m : Int) * (t : Int)) = ((m * t : Nat) : Int) from (Int.natCast_mul m t).symm]
  show List.replicate (m * t) r.2 = (List.replicate t (List.replicate m r.2)).flatten
  rw [List.flatten_replicate_replicate, Nat.mul_comm]
@[irreducible] def dMul (C : Addr) : R2' := fun _ a b n Q _ => ∃ (rs : List Rn) (t : Nat), a = rowG C rs ∧ b = .int (t : Int) ∧ RunsOk rs ∧ (∀ r ∈ rs, 0 ≤ r.2) ∧ 2 ≤ t ∧ t ≤ 100 ∧ rs.length * t ≤ 1000 ∧ (∀ r ∈ rs, r.1 < 2 ^ 150) ∧ ∀ rs' : List Rn, RunsOk rs' → (∀ r ∈ rs', 0 ≤ r.2) → expand rs' = (List.replicate t (expand rs)).flatten → Q (rowG C rs') n
theorem ok_Row___mul (T : Tx w K mg) : FnOk P w K mg base CX0 6 T.f_Row___mul T.d_Row___mul ["self", "times"] (Da.upSp K (sp2 (dMul T.c_Row))) := by
  refine T.F_Row___mul.ok sc_Row___mul (fun vs H Q E h => Da.up_len2 h) (fun cdv A outer s H vs Q E hr h => ?_)
  refine ⟨_, (pss_cons (ps_if (pt_cmpR op_lt (pv 1) pe_int (nomark _))
        (pss_one ps_never)
        pss_nil)
      (pss_cons (ps_set (i := 2) sc_Row___mul.nd rfl (Or.inl rfl) (pe_callB (Da.lenK (K := K) rfl) (by rfl) T.z_len (by decide +kernel) (pa_cons (Da.fldK (K := K) rfl (pv 0) rfl) pa_nil)))
      (pss_cons (ps_if (pt_cmpR op_lt (pv 2) pe_int (nomark _))
        (pss_one (ps_ret (Sm.pe_smeth (pe_glob (v := .ref T.c_Row) rfl T.m_Row rfl) T.h_Row_of_runs (ok_Row_of_runs T) (hr.mono (by decide)) T.b_Row_of_runs .nil pass0 (pa_cons (pe_lc (g := gTup K 2 (gCons (gName 3) (gCons (gName 4) gNil))) rfl sc_Row___mul.nd (Da.seqK (K := K) rfl (Da.fldK (K := K) rfl (pv 0) rfl)) (blkOk_by (own := [("count", 3), ("cell", 4)]) (N := ["self", "times", "many", "count", "cell"]) (sc := defScope s_Row___mul) (by decide +kernel)) (fun _ _ _ _ _ => (Da.gtupK (n := 2) (K := K) rfl (by rfl) (pgs_cons (pg_name (i := 3) sc_Row___mul.nd rfl (Or.inl rfl)) (pgs_cons (pg_name (i := 4) sc_Row___mul.nd rfl (Or.inl rfl)) pgs_nil)))) (fun _ _ _ _ _ => pts_nil) (fun _ _ _ _ _ => (pe_tup (pa_cons (pe_op (Da.mulK (K := K) rfl) (pv 3) (pv 1)) (pa_cons (pv 4) pa_nil))))) pa_nil))))
        pss_nil)
      (pss_cons (ps_if (pt_cmpR op_ge (pe_op (Da.mulK (K := K) rfl) (pe_op op_sub (pv 2) pe_int) (pv 1)) (pe_glob (v := .int 1000) rfl T.m_MOST_RUNS ⟨_, rfl⟩) (nomark _))
        (pss_one ps_never)
        pss_nil)
      (pss_one (ps_ret (Sm.pe_smeth (pe_glob (v := .ref T.c_Row) rfl T.m_Row rfl) T.h_Row_of_runs (ok_Row_of_runs T) (hr.mono (by decide)) T.b_Row_of_runs .nil pass0 (pa_cons (pe_op (Da.mulK (K := K) rfl) (Da.fldK (K := K) rfl (pv 0) rfl) (pv 1)) pa_nil)))))))), Da.go_up2 h ?_⟩
  intro pn a b n Q _ h
  unfold dMul at h
  obtain ⟨rs, t, rfl, rfl, ho, hc, t2, t100, hl, hr, h⟩ := h
  have c1 := T.cl_Row
  have c2 := T.n_Row_runs
  have hf := ho.few
  have h0 : ∀ r ∈ rs, 0 ≤ r.1 := fun r hr => by have := ho.pos r hr; omega
  unfold rowG
  have em : (rs.map runD).length = rs.length := List.length_map _
  walk_at "w"
  rw [em]
  refine .dec (fun o => ?_) (fun o => ?_)
  · walk_at "w"
    refine lc_inv (fun i acc s => acc = ((rs.take i).map fun r => (r.1 * (t : Int), r.2)).map runD ∧ s = st0 n pn) (le1000 (by rw [runs_n]; omega)) ⟨rfl, rfl⟩ ?_ ?_
    · rintro i d _ _ hi hd _ ⟨rfl, rfl⟩
      obtain ⟨r, hr1, rfl⟩ := runs_at (seq_at hd)
      have hm := List.mem_of_getElem? hr1
      have k0 := h0 r hm
      have k1 := hr r hm
      have k2 : r.1 < 1427247692705959881058285969449495136382746624 := k1
      walk_at "w"
      refine ⟨mulE (by omega) (by omega), ?_⟩
      walk_at "w"
      refine ⟨?_, rfl⟩
      rw [take_more hr1, List.map_append, List.map_append]
      rfl
    · rintro _ _ _ ⟨rfl, rfl⟩
      rw [runs_n, List.take_length]
      walk_at "w"
      have hp : ∀ p ∈ rs.map (fun r => (r.1 * (t : Int), r.2)), 0 ≤ p.1 ∧ 0 ≤ p.2 := fun p hp => by
        obtain ⟨r, hr, rfl⟩ := List.mem_map.mp hp
        exact ⟨Int.mul_nonneg (h0 r hr) (by omega), hc r hr⟩
      have hln : (rs.map (fun r => (r.1 * (t : Int), r.2))).length = rs.length := List.length_map _
      refine i_of_runs (ps := rs.map (fun r => (r.1 * (t : Int), r.2))) rfl hp (Nat.le_trans (Jn.join_len _) (by rw [hln]; exact hf)) (by rw [hln]; omega) ?_
      walk_at "w"
      refine h _ (join_runs (fun p q => (hp p q).1) (Nat.le_trans (Jn.join_len _) (by rw [hln]; exact hf))) (join_cells hp) ?_
      rw [join_expand (fun p q => (hp p q).1)]
      rcases rs with _ | ⟨r, _ | ⟨r', l⟩⟩
      · rw [show expand [] = [] from rfl, List.flatten_replicate_nil]
        rfl
      · exact one_exp (h0 r List.mem_cons_self)
      · exfalso
        rw [List.length_cons, List.length_cons] at o
        omega
  · have hq : (rs.length : Int) * (t : Int) ≤ 1000 := by rw [← Int.natCast_mul]; omega
    have hq2 : ((rs.length : Int) - 1) * (t : Int) = (rs.length : Int) * (t : Int) - (t : Int) := by rw [Int.sub_mul, Int.one_mul]
    walk_at "w"
    refine ⟨mulE (by omega) (by omega), ?_⟩
    walk_at "w"
    refine .n (by rw [hq2]; omega) ?_
    walk_at "w"
    refine ⟨⟨fun e => ?_, by omega, by omega, by rw [em]; exact hf⟩, ?_⟩
    · rw [List.map_eq_nil_iff] at e
      rw [e] at o
      exact o (by decide)
    walk_at "w"
    have hp : ∀ p ∈ (List.replicate t rs).flatten, 0 ≤ p.1 ∧ 0 ≤ p.2 := fun p hp => by
      obtain ⟨l, hl, hpl⟩ := List.mem_flatten.mp hp
      rw [(List.mem_replicate.mp hl).2] at hpl
      exact ⟨h0 p hpl, hc p hpl⟩
    have hln : (List.replicate t rs).flatten.length ≤ 1000 := by rw [List.length_flatten, List.map_replicate, List.sum_replicate_nat, Nat.mul_comm]; exact hl
    refine i_of_runsT (ps := (List.replicate t rs).flatten) (by rw [List.map_flatten, List.map_replicate]; rfl) hp (Nat.le_trans (Jn.join_len _) hln) (by omega) ?_
    walk_at "w"
    refine h _ (join_runs (fun p q => (hp p q).1) (Nat.le_trans (Jn.join_len _) hln)) (join_cells hp) ?_
    rw [join_expand (fun p q => (hp p q).1), rep_exp]
theorem i_mul {pn : Option (Addr × Addr)} {n : Nat} {Q : D → Nat → Prop} {X : XD} {C : Addr} {rs : List Rn} {t : Nat} {b : D} (eb : b = .int (t : Int)) (ho : RunsOk rs) (hc : ∀ r ∈ rs, 0 ≤ r.2) (t2 : 2 ≤ t) (t100 : t ≤ 100) (hl : rs.length * t ≤ 1000) (hr : ∀ r ∈ rs, r.1 < 2 ^ 150) (h : ∀ rs' : List Rn, RunsOk rs' → (∀ r ∈ rs', 0 ≤ r.2) → expand rs' = (List.replicate t (expand rs)).flatten → Q (rowG C rs') n) : dMul C pn (rowG C rs) b n Q X := by
  unfold dMul
  exact ⟨rs, t, rfl, eb, ho, hc, t2, t100, hl, hr, h⟩
end
end Lw

namespace Lw
open PySem L2
open Evl Da Hd
local macro_rules
  | `(tactic| walk_at "f") => `(tactic| first | exact lookF_put | exact lookF_hit | exact (lookF_skip (by decide +kernel) lookF_hit) | exact (lookF_skip (by decide +kernel) (lookF_skip (by decide +kernel) lookF_hit)) | exact (lookF_skip (by decide +kernel) (lookF_skip (by decide +kernel) (lookF_skip (by decide +kernel) lookF_hit))) | exact (lookF_skip (by decide +kernel) (lookF_skip (by decide +kernel) (lookF_skip (by decide +kernel) (lookF_skip (by decide +kernel) lookF_hit)))) | exact (lookF_skip (by decide +kernel) (lookF_skip (by decide +kernel) (lookF_skip (by decide +kernel) (lookF_skip (by decide +kernel) (lookF_skip (by decide +kernel) lookF_hit))))) | exact (lookF_skip (by decide +kernel) (lookF_skip (by decide +kernel) (lookF_skip (by decide +kernel) (lookF_skip (by decide +kernel) (lookF_skip (by decide +kernel) (lookF_skip (by decide +kernel) lookF_hit)))))) | ((refine lookF_other (by decide +kernel) ?_); walk_at "f") | ((refine lookF_skip (by decide +kernel) ?_); walk_at "f"))
  | `(tactic| walk_at "fl") => `(tactic| first | exact Nat.zero_lt_succ _ | ((refine putFD_lt ?_); walk_at "fl"))
  | `(tactic| walk_at "a") => `(tactic| first | exact le1000 (Nat.le_of_ble_eq_true rfl) | exact rfl | decide +kernel | exact And.intro (by with_reducible assumption) (by with_reducible assumption) | exact And.intro (And.intro (by with_reducible assumption) (by with_reducible assumption)) (by walk_at "fl"))
  | `(tactic| walk_at "w") => `(tactic| ((conv => whnf); repeat ((first | ((with_reducible refine And.intro ?_ ?_); (focus (walk_at "a"))) | ((with_reducible refine Br.yes ?_ ?_); (focus (first | exact rfl | decide +kernel))) | ((with_reducible refine Br.no ?_ ?_); (focus (first | exact rfl | decide +kernel))) | ((with_reducible refine ex_fld ?_); (refine fld_w (by walk_at "f") ?_)) | ((with_reducible refine ex_at ?_); (refine at_w rfl ?_))); (conv => whnf))))
  | `(tactic| walk_at "n") => `(tactic| ((try dsimp only [st0, st1, S.at, S.drop, S.own, S.put, S.frz, Src.n] at *); omega))
  | `(tactic| walk_at "draw") => `(tactic| ((try walk_at "w"); (refine i_draw ⟨by walk_at "n", by walk_at "n", by walk_at "n"⟩ ?_)))
open Jn (Rn expand joinR)
section
variable {P : Program} {w : World} {K : PySem.W.Frag} {mg : Str → Option Value} {base : Heap}
@[irreducible] def dLed : R3 := fun pn a b c n Q _ => IsPen pn a ∧ ∃ (ns ws : List Str) (ls : List Li) (m : Int), b = .lst (linesD ns ls false) ∧ c = .int m ∧ Drawn ns ws ls ∧ 0 ≤ m ∧ m ≤ 60 ∧ n < 549755800000 ∧ ∀ (cs : List Int) n', (∀ z ∈ cs, 0 ≤ z) → cs.length ≤ 60 → n' ≤ n + 300 → Q (.lst (intsD cs)) n'
theorem ok_law_led (T : Tx w K mg) : FnOk P w K mg base CX0 3 T.f_law_led T.d_law_led ["_law_pen", "_law_lines_here", "_law_many"] (Da.upSp K (sp3 dLed)) := by
  refine T.F_law_led.ok sc_law_led (fun vs H Q E h => Da.up_len3 h) (fun cdv A outer s H vs Q E hr h => ?_)
  refine ⟨_, (pss_cons (Da.ps_own 1 (ps_set (i := 3) sc_law_led.nd rfl (Or.inr rfl) (pe_disp (pps_cons pe_str (pe_ix (Da.ixK (K := K) rfl) (pe_ix (Da.ixK (K := K) rfl) (pv 1) pe_int (fun _ _ => rfl)) pe_int (fun _ _ => rfl)) (pps_cons pe_str (Da.pe_own 2 pe_dnewK) pps_nil)) (by rfl) (by rfl) (fun z => by cases z) (by decide))))
      (pss_cons (ps_for PassesOwn.never rfl (Da.seqK (K := K) rfl (pv 1)) (Da.gtupK (n := 2) (K := K) rfl (by rfl) (pgs_cons (pg_name (i := 4) sc_law_led.nd rfl (Or.inl rfl)) (pgs_cons (pg_name (i := 5) sc_law_led.nd rfl (Or.inl rfl)) pgs_nil)))
        (pss_one (ps_dput (hu_of hr) (pe_dget (hu_of hr) (pv 3) pe_str (fun _ _ => rfl)) (pv 4) (pv 5) rfl)))
      (pss_cons (ps_set (i := 6) sc_law_led.nd rfl (Or.inr rfl) (pe_ix (Da.ixK (K := K) rfl) (pe_call (ok_law_settle T) (hr.mono (by decide)) rfl T.m_law_settle T.F_law_settle.kp T.b_law_settle .nil pass0 (pa_cons (Da.pe_deep (pv 3)) (pa_cons (pe_dget (hu_of hr) (pv 3) pe_str (fun _ _ => rfl)) (pa_cons pe_non pa_nil)))) pe_int (fun _ _ => rfl)))
      (pss_cons (Da.ps_own 3 (ps_set (i := 7) sc_law_led.nd rfl (Or.inl rfl) (pe_lst pa_nil)))
      (pss_cons (ps_for PassesOwn.never rfl (pi_range1 (by rfl) T.z_range (pa_cons (pv 2) pa_nil)) (pg_name (i := 8) sc_law_led.nd rfl (Or.inl rfl))
        (pss_cons (ps_setLc (i := 9) rfl sc_law_led.nd rfl rfl (sw_true rfl rfl rfl (by decide +kernel)) (pi_range1 (by rfl) T.z_range (pa_cons pe_int pa_nil)) (blkOk_by (own := [("_law_spot", 10)]) (N := ["_law_pen", "_law_lines_here", "_law_many", "_law_book", "_law_name", "_law_line_here", "_law_state", "_law_cells", "_law_k", "_law_some", "_law_spot", "_law_ways_here", "_law_cell", "_law_good", "_law_at"]) (sc := defScope s_law_led) (by decide +kernel)) (fun _ _ _ _ _ => (pg_name (i := 10) sc_law_led.nd rfl (Or.inl rfl))) (fun _ _ _ _ _ => pts_nil) (fun _ _ _ _ _ => (pe_call (ok_law_draw T) (hr.mono (by decide)) rfl T.m_law_draw T.F_law_draw.kp T.b_law_draw .nil pass0 (pa_cons (pv 0) (pa_cons pe_int pa_nil)))))
        (pss_cons (ps_set (i := 10) sc_law_led.nd rfl (Or.inl rfl) pe_int)
        (pss_cons (ps_if (pt_cmpR op_notN (pe_dget (hu_of hr) (pv 6) pe_str (fun _ _ => rfl)) pe_non (nomark _))
          (pss_cons (ps_set (i := 11) sc_law_led.nd rfl (Or.inr rfl) (pe_lc rfl sc_law_led.nd (Da.seqK (K := K) rfl (pv 9)) (blkOk_by (own := [("_law_cell", 12)]) (N := ["_law_pen", "_law_lines_here", "_law_many", "_law_book", "_law_name", "_law_line_here", "_law_state", "_law_cells", "_law_k", "_law_some", "_law_spot", "_law_ways_here", "_law_cell", "_law_good", "_law_at"]) (sc := defScope s_law_led) (by decide +kernel)) (fun _ _ _ _ _ => (pg_name (i := 12) sc_law_led.nd rfl (Or.inl rfl))) (fun _ _ _ _ _ => pts_nil) (fun _ _ _ _ _ => (pe_call (ok_law_step T) (hr.mono (by decide)) rfl T.m_law_step T.F_law_step.kp T.b_law_step .nil pass0 (pa_cons (Da.pe_deep (pv 3)) (pa_cons (pv 6) (pa_cons (pv 12) pa_nil)))))))
          (pss_cons (ps_setLc (i := 13) rfl sc_law_led.nd rfl rfl (sw_true rfl rfl rfl (by decide +kernel)) (pi_range1 (by rfl) T.z_range (pa_cons pe_int pa_nil)) (blkOk_by (own := [("_law_at", 14)]) (N := ["_law_pen", "_law_lines_here", "_law_many", "_law_book", "_law_name", "_law_line_here", "_law_state", "_law_cells", "_law_k", "_law_some", "_law_spot", "_law_ways_here", "_law_cell", "_law_good", "_law_at"]) (sc := defScope s_law_led) (by decide +kernel)) (fun _ _ _ _ _ => (pg_name (i := 14) sc_law_led.nd rfl (Or.inl rfl))) (fun _ _ _ _ _ => (pts_one (pt_val (pe_ix (Da.ixK (K := K) rfl) (pe_ix (Da.ixK (K := K) rfl) (pv 11) (pv 14) (fun _ _ => rfl)) pe_int (fun _ _ => rfl))))) (fun _ _ _ _ _ => (pv 14)))
          (pss_cons (ps_set (i := 13) sc_law_led.nd rfl (Or.inl rfl) (pe_op (Da.addK (K := K) rfl) (pe_op (Da.addK (K := K) rfl) (pv 13) (pe_lc rfl sc_law_led.nd (pi_range1 (by rfl) T.z_range (pa_cons pe_int pa_nil)) (blkOk_by (own := [("_law_at", 14)]) (N := ["_law_pen", "_law_lines_here", "_law_many", "_law_book", "_law_name", "_law_line_here", "_law_state", "_law_cells", "_law_k", "_law_some", "_law_spot", "_law_ways_here", "_law_cell", "_law_good", "_law_at"]) (sc := defScope s_law_led) (by decide +kernel)) (fun _ _ _ _ _ => (pg_name (i := 14) sc_law_led.nd rfl (Or.inl rfl))) (fun _ _ _ _ _ => (pts_one (pt_cmpR op_notN (pe_dget (hu_of hr) (pe_ix (Da.ixK (K := K) rfl) (pe_ix (Da.ixK (K := K) rfl) (pv 11) (pv 14) (fun _ _ => rfl)) pe_int (fun _ _ => rfl)) pe_str (fun _ _ => rfl)) pe_non (nomark _)))) (fun _ _ _ _ _ => (pv 14)))) (pe_lst (pa_cons pe_int pa_nil))))
          (pss_cons (ps_set (i := 10) sc_law_led.nd rfl (Or.inl rfl) (pe_ifExp (pt_cmpR op_gt (pe_call (ok_law_draw T) (hr.mono (by decide)) rfl T.m_law_draw T.F_law_draw.kp T.b_law_draw .nil pass0 (pa_cons (pv 0) (pa_cons pe_int pa_nil))) pe_int (nomark _)) (pe_ix (Da.ixK (K := K) rfl) (pv 13) pe_int (fun _ _ => rfl)) pe_int))
          (pss_one (ps_set (i := 6) sc_law_led.nd rfl (Or.inr rfl) (pe_ix (Da.ixK (K := K) rfl) (pe_ix (Da.ixK (K := K) rfl) (pv 11) (pv 10) (fun _ _ => rfl)) pe_int (fun _ _ => rfl))))))))
          pss_nil)
        (pss_one (ps_expr (Da.bmK (K := K) rfl PySem.F.plainAttrs_list PySem.F.slot_list_append PySem.F.type_list_append mt_append (pv 7) (pa_cons (pe_ix (Da.ixK (K := K) rfl) (pv 9) (pv 10) (fun _ _ => rfl)) pa_nil))))))))
      (pss_one (ps_ret (pv 7)))))))), Da.go_up3 h ?_⟩
  intro pn a b c n Q _ h
  unfold dLed at h
  obtain ⟨⟨p, q, rfl, rfl⟩, ns, ws, ls, m, rfl, rfl, dr, m0, m60, n1, h⟩ := h
  obtain ⟨l0, d0, g1, g2, g3⟩ := ls_head dr false
  walk_at "w"
  refine ⟨_, atI_nat (j := 0) g3, ?_⟩
  walk_at "w"
  intro l2
  walk_at "w"
  refine ⟨⟨(by show 2 ≤ 15; decide), keys_book⟩, ?_⟩
  walk_at "w"
  intro l1
  walk_at "w"
  have en : (Src.seq (linesD ns ls false)).n = ls.length := linesD_len
  have hl2 := dr.lenL
  have h8 := dr.most
  refine for_inv (fun i Γ s => ∃ (u4 u5 u6 u7 u8 u9 u10 u11 u12 u13 u14 : Option D), Γ = [some (.val (.ref p)), some (.lst (linesD ns ls false)), some (.int m), some (.loc l1 1), u4, u5, u6, u7, u8, u9, u10, u11, u12, u13, u14] ∧ s = ⟨[⟨1, l1, .dct [(Sum.inr "first", .str (wAt ns 0)), (Sum.inr "lines", .loc l2 2)], false⟩, ⟨2, l2, .dct (lawK ns (ls.take i)), false⟩], n, some (p, q)⟩) ⟨_, _, _, _, _, _, _, _, _, _, _, rfl, rfl⟩ ?_ ?_
  · rintro i d _ _ hi hd ⟨u4, u5, u6, u7, u8, u9, u10, u11, u12, u13, u14, rfl, rfl⟩
    obtain ⟨li, ds, hli, eds, rfl⟩ := ls_at (seq_at hd)
    have hi2 := (List.getElem?_eq_some_iff.mp hli).1
    walk_at "w"
    refine ⟨_, bk_lines, ?_⟩
    walk_at "w"
    refine ⟨small1000 (by unfold lawK; rw [List.length_map, numbered_len, List.length_take]; omega), ?_⟩
    walk_at "w"
    rw [← eds, lawK_put dr hli]
    exact ⟨_, _, _, _, _, _, _, _, _, _, _, rfl, rfl⟩
  · rintro _ _ ⟨u4, u5, u6, u7, u8, u9, u10, u11, u12, u13, u14, rfl, rfl⟩
    rw [en, List.take_length]
    walk_at "w"
    refine ⟨_, bk_first, ?_⟩
    walk_at "w"
    refine i_settle (k := none) dr dr.pos rfl ?_
    rw [(come_first dr).1]
    walk_at "w"
    intro l3
    walk_at "w"
    refine ⟨by omega, ?_⟩
    refine for_inv (fun j Γ s => ∃ (o : Option Sd) (cs : List Int) (u4 u5 u8 u9 u10 u11 u12 u13 u14 : Option D) (n2 : Nat), Γ = [some (.val (.ref p)), some (.lst (linesD ns ls false)), some (.int m), some (.loc l1 1), u4, u5, some (stD ns o), some (.loc l3 3), u8, u9, u10, u11, u12, u13, u14] ∧ s = ⟨[⟨3, l3, .lst (intsD cs), false⟩, ⟨1, l1, .dct [(Sum.inr "first", .str (wAt ns 0)), (Sum.inr "lines", .loc l2 2)], true⟩, ⟨2, l2, .dct (lawK ns ls), true⟩], n2, some (p, q)⟩ ∧ (∀ s, o = some s → SdOk ws s) ∧ (∀ z ∈ cs, 0 ≤ z) ∧ cs.length = j ∧ n2 ≤ n + 4 * j) ⟨some (begS ls), [], _, _, _, _, _, _, _, _, _, n, rfl, rfl, (fun s e => by cases e; exact (come_first dr).2), (fun _ z => nomatch z), rfl, Nat.le_refl _⟩ ?_ ?_
    · rintro j d _ _ hj hd ⟨o, cs, u4, u5, u8, u9, u10, u11, u12, u13, u14, n2, rfl, rfl, ho, hz, hcl, h2⟩
      obtain ⟨hj, rfl⟩ := rng_at hd
      have hj6 : j < 60 := by omega
      walk_at "w"
      refine lc_inv (fun i acc s => ∃ (zs : List Int) (n3 : Nat), acc = zs.map D.int ∧ s = ⟨[⟨3, l3, .lst (intsD cs), false⟩, ⟨1, l1, .dct [(Sum.inr "first", .str (wAt ns 0)), (Sum.inr "lines", .loc l2 2)], true⟩, ⟨2, l2, .dct (lawK ns ls), true⟩], n3, some (p, q)⟩ ∧ zs.length = i ∧ (∀ z ∈ zs, 0 ≤ z) ∧ n3 ≤ n2 + i) (le1000 (by decide)) ⟨[], n2, rfl, rfl, rfl, (fun _ z => nomatch z), Nat.le_refl _⟩ ?_ ?_
      · rintro i d _ _ hi hd hl ⟨zs, n3, rfl, rfl, g1, g2, g3⟩
        have hi : i < 3 := hi
        walk_at "draw"
        intro z z0 z1
        walk_at "w"
        exact ⟨zs ++ [z], n3 + 1, by rw [List.map_append]; rfl, rfl, by rw [List.length_append, g1]; rfl, all_snoc g2 z0, by omega⟩
      rintro _ _ hl ⟨zs, n3, rfl, rfl, g1, g2, g3⟩
      have g1 : zs.length = 3 := g1
      have g3 : n3 ≤ n2 + 3 := g3
      obtain ⟨z0, z1, z2, rfl⟩ : ∃ a b c, zs = [a, b, c] := by
        match zs, g1 with
        | [a, b, c], _ => exact ⟨a, b, c, rfl⟩
      have p0 : 0 ≤ z0 := g2 _ List.mem_cons_self
      have p1 : 0 ≤ z1 := g2 _ (List.mem_cons_of_mem _ List.mem_cons_self)
      have p2 : 0 ≤ z2 := g2 _ (List.mem_cons_of_mem _ (List.mem_cons_of_mem _ List.mem_cons_self))
      cases o with
      | none =>
        walk_at "w"
        refine ⟨_, st_at, ?_⟩
        walk_at "w"
        refine ⟨small1000 (by rw [intsD_len]; omega), ?_⟩
        exact ⟨none, cs ++ [z0], _, _, _, _, _, _, _, _, _, n3, rfl, by unfold intsD; rw [List.map_append]; rfl, (fun s e => nomatch e), all_snoc hz p0, by rw [List.length_append, hcl]; rfl, by omega⟩
      | some sd =>
        have sk := ho sd rfl
        walk_at "w"
        refine ⟨_, st_at, ?_⟩
        walk_at "w"
        refine lc_inv (fun i acc s => acc = (([z0, z1, z2] : List Int).take i).map (fun z => D.tup [stD ns (step1 ls sd z).1, .bl (step1 ls sd z).2]) ∧ s = ⟨[⟨3, l3, .lst (intsD cs), false⟩, ⟨1, l1, .dct [(Sum.inr "first", .str (wAt ns 0)), (Sum.inr "lines", .loc l2 2)], true⟩, ⟨2, l2, .dct (lawK ns ls), true⟩], n3, some (p, q)⟩) (le1000 (by show 3 ≤ 1000; decide)) ⟨rfl, rfl⟩ ?_ ?_
        · rintro i d _ _ hi hd hl ⟨rfl, rfl⟩
          have hd := seq_at hd
          match i, hd with
          | 0, hd =>
            cases hd
            walk_at "w"
            refine i_step (s := sd) dr sk ?_
            exact ⟨rfl, rfl⟩
          | 1, hd =>
            cases hd
            walk_at "w"
            refine i_step (s := sd) dr sk ?_
            exact ⟨rfl, rfl⟩
          | 2, hd =>
            cases hd
            walk_at "w"
            refine i_step (s := sd) dr sk ?_
            exact ⟨rfl, rfl⟩
          | i + 3, hd => cases hd
        rintro _ _ _ ⟨rfl, rfl⟩
        have e3 : (([z0, z1, z2] : List Int).take (Src.seq (List.map D.int [z0, z1, z2])).n).map (fun z => D.tup [stD ns (step1 ls sd z).1, .bl (step1 ls sd z).2]) = [D.tup [stD ns (step1 ls sd z0).1, .bl (step1 ls sd z0).2], D.tup [stD ns (step1 ls sd z1).1, .bl (step1 ls sd z1).2], D.tup [stD ns (step1 ls sd z2).1, .bl (step1 ls sd z2).2]] := rfl
        have k0 := (step1_ok dr sk z0).1
        have k1 := (step1_ok dr sk z1).1
        have k2 := (step1_ok dr sk z2).1
        rw [e3]
        clear e3
        generalize step1 ls sd z0 = x0 at k0 ⊢
        generalize step1 ls sd z1 = x1 at k1 ⊢
        generalize step1 ls sd z2 = x2 at k2 ⊢
        obtain ⟨o0, c0⟩ := x0
        obtain ⟨o1, c1⟩ := x1
        obtain ⟨o2, c2⟩ := x2
        have k0 : OutOk ws o0 := k0
        have k1 : OutOk ws o1 := k1
        have k2 : OutOk ws o2 := k2
        walk_at "w"
        refine lc_inv (fun i acc s => ∃ gs : List Int, acc = gs.map D.int ∧ s = ⟨[⟨3, l3, .lst (intsD cs), false⟩, ⟨1, l1, .dct [(Sum.inr "first", .str (wAt ns 0)), (Sum.inr "lines", .loc l2 2)], true⟩, ⟨2, l2, .dct (lawK ns ls), true⟩], n3, some (p, q)⟩ ∧ (∀ g ∈ gs, 0 ≤ g ∧ g < 3) ∧ gs.length ≤ i) (le1000 (by decide)) ⟨[], rfl, rfl, (fun _ z => nomatch z), Nat.le_refl _⟩ ?_ ?_
        · rintro i d _ _ hi hd hl ⟨gs, rfl, rfl, a1, a2⟩
          obtain ⟨_, rfl⟩ := rng_at hd
          have hi : i < 3 := hi
          have add : ∀ g : Int, 0 ≤ g → g < 3 → ∃ gs' : List Int, gs.map D.int ++ [D.int g] = gs'.map D.int ∧ (∀ g ∈ gs', 0 ≤ g ∧ g < 3) ∧ gs'.length ≤ i + 1 := fun g h0 h1 => ⟨gs ++ [g], by rw [List.map_append]; rfl, fun x hx => (List.mem_append.mp hx).elim (a1 x) (fun hx => by rw [List.mem_singleton.mp hx]; exact ⟨h0, h1⟩), by rw [List.length_append]; exact Nat.succ_le_succ a2⟩
          obtain ⟨gs', b1, b2, b3⟩ := add (0 + (i : Int)) (by omega) (by omega)
          match i, hi with
          | 0, _ =>
            cases c0 with
            | true =>
              walk_at "w"
              exact ⟨gs', b1, rfl, b2, b3⟩
            | false =>
              walk_at "w"
              exact ⟨gs, rfl, rfl, a1, by omega⟩
          | 1, _ =>
            cases c1 with
            | true =>
              walk_at "w"
              exact ⟨gs', b1, rfl, b2, b3⟩
            | false =>
              walk_at "w"
              exact ⟨gs, rfl, rfl, a1, by omega⟩
          | 2, _ =>
            cases c2 with
            | true =>
              walk_at "w"
              exact ⟨gs', b1, rfl, b2, b3⟩
            | false =>
              walk_at "w"
              exact ⟨gs, rfl, rfl, a1, by omega⟩
          | i + 3, hi => omega
        rintro _ _ _ ⟨gs1, rfl, rfl, a1, a2⟩
        walk_at "w"
        refine lc_inv (fun i acc s => ∃ gs : List Int, acc = gs.map D.int ∧ s = ⟨[⟨3, l3, .lst (intsD cs), false⟩, ⟨1, l1, .dct [(Sum.inr "first", .str (wAt ns 0)), (Sum.inr "lines", .loc l2 2)], true⟩, ⟨2, l2, .dct (lawK ns ls), true⟩], n3, some (p, q)⟩ ∧ (∀ g ∈ gs, 0 ≤ g ∧ g < 3) ∧ gs.length ≤ i) (le1000 (by decide)) ⟨[], rfl, rfl, (fun _ z => nomatch z), Nat.le_refl _⟩ ?_ ?_
        · rintro i d _ _ hi hd hl ⟨gs, rfl, rfl, a1, a2⟩
          obtain ⟨_, rfl⟩ := rng_at hd
          have hi : i < 3 := hi
          have add : ∀ g : Int, 0 ≤ g → g < 3 → ∃ gs' : List Int, gs.map D.int ++ [D.int g] = gs'.map D.int ∧ (∀ g ∈ gs', 0 ≤ g ∧ g < 3) ∧ gs'.length ≤ i + 1 := fun g h0 h1 => ⟨gs ++ [g], by rw [List.map_append]; rfl, fun x hx => (List.mem_append.mp hx).elim (a1 x) (fun hx => by rw [List.mem_singleton.mp hx]; exact ⟨h0, h1⟩), by rw [List.length_append]; exact Nat.succ_le_succ a2⟩
          obtain ⟨gs', b1, b2, b3⟩ := add (0 + (i : Int)) (by omega) (by omega)
          match i, hi with
          | 0, _ =>
            walk_at "w"
            refine ⟨_, st_at, ?_⟩
            cases o0 with
            | none =>
              walk_at "w"
              exact ⟨gs, rfl, rfl, a1, by omega⟩
            | some so =>
              walk_at "w"
              exact ⟨gs', b1, rfl, b2, b3⟩
          | 1, _ =>
            walk_at "w"
            refine ⟨_, st_at, ?_⟩
            cases o1 with
            | none =>
              walk_at "w"
              exact ⟨gs, rfl, rfl, a1, by omega⟩
            | some so =>
              walk_at "w"
              exact ⟨gs', b1, rfl, b2, b3⟩
          | 2, _ =>
            walk_at "w"
            refine ⟨_, st_at, ?_⟩
            cases o2 with
            | none =>
              walk_at "w"
              exact ⟨gs, rfl, rfl, a1, by omega⟩
            | some so =>
              walk_at "w"
              exact ⟨gs', b1, rfl, b2, b3⟩
          | i + 3, hi => omega
        rintro _ _ _ ⟨gs2, rfl, rfl, a3, a4⟩
        have a2 : gs1.length ≤ 3 := a2
        have a4 : gs2.length ≤ 3 := a4
        obtain ⟨x, r, ex, x0, x1⟩ : ∃ (x : Int) (r : List D), gs1.map D.int ++ gs2.map D.int ++ [D.int 0] = D.int x :: r ∧ 0 ≤ x ∧ x < 3 := by
          cases gs1 with
          | cons g l => exact ⟨g, _, rfl, a1 g List.mem_cons_self⟩
          | nil =>
            cases gs2 with
            | cons g l => exact ⟨g, _, rfl, a3 g List.mem_cons_self⟩
            | nil => exact ⟨0, _, rfl, by decide, by decide⟩
        walk_at "w"
        refine ⟨le1000 (by rw [List.length_map, List.length_map]; omega), ?_⟩
        walk_at "w"
        refine ⟨le1000 (by rw [List.length_append, List.length_map, List.length_map]; show gs1.length + gs2.length + 1 ≤ 1000; omega), ?_⟩
        walk_at "draw"
        intro y y0 y1
        walk_at "w"
        refine .dec (fun _ => ?_) (fun _ => ?_)
        · walk_at "w"
          refine ⟨_, atI_nat (j := 0) (by rw [ex]; rfl), ?_⟩
          have hx3 : x = 0 ∨ x = 1 ∨ x = 2 := by omega
          rcases hx3 with rfl | rfl | rfl
          · walk_at "w"
            refine ⟨small1000 (by rw [intsD_len]; omega), ?_⟩
            exact ⟨o0, cs ++ [z0], _, _, _, _, _, _, _, _, _, n3 + 1, rfl, by unfold intsD; rw [List.map_append]; rfl, (fun s e => k0 s e), all_snoc hz p0, by rw [List.length_append, hcl]; rfl, by omega⟩
          · walk_at "w"
            refine ⟨small1000 (by rw [intsD_len]; omega), ?_⟩
            exact ⟨o1, cs ++ [z1], _, _, _, _, _, _, _, _, _, n3 + 1, rfl, by unfold intsD; rw [List.map_append]; rfl, (fun s e => k1 s e), all_snoc hz p1, by rw [List.length_append, hcl]; rfl, by omega⟩
          · walk_at "w"
            refine ⟨small1000 (by rw [intsD_len]; omega), ?_⟩
            exact ⟨o2, cs ++ [z2], _, _, _, _, _, _, _, _, _, n3 + 1, rfl, by unfold intsD; rw [List.map_append]; rfl, (fun s e => k2 s e), all_snoc hz p2, by rw [List.length_append, hcl]; rfl, by omega⟩
        · walk_at "w"
          walk_at "w"
          refine ⟨small1000 (by rw [intsD_len]; omega), ?_⟩
          exact ⟨o0, cs ++ [z0], _, _, _, _, _, _, _, _, _, n3 + 1, rfl, by unfold intsD; rw [List.map_append]; rfl, (fun s e => k0 s e), all_snoc hz p0, by rw [List.length_append, hcl]; rfl, by omega⟩
    · rintro _ _ ⟨o, cs, u4, u5, u8, u9, u10, u11, u12, u13, u14, n2, rfl, rfl, ho, hz, hcl, h2⟩
      have er : (Src.rng 0 m.toNat).n ≤ 60 := by show m.toNat ≤ 60; omega
      walk_at "w"
      exact h cs n2 hz (by omega) (by omega)
theorem i_led {p q : Addr} {ns ws : List Str} {ls : List Li} {m : Int} {n : Nat} {Q : D → Nat → Prop} {X : XD} (dr : Drawn ns ws ls) (m0 : 0 ≤ m) (m60 : m ≤ 60) (h : n < 549755800000) (k : ∀ (cs : List Int) n', (∀ z ∈ cs, 0 ≤ z) → cs.length ≤ 60 → n' ≤ n + 300 → Q (.lst (intsD cs)) n') : dLed (some (p, q)) (.val (.ref p)) (.lst (linesD ns ls false)) (.int m) n Q X := by
  unfold dLed
  exact ⟨⟨p, q, rfl, rfl⟩, ns, ws, ls, m, rfl, rfl, dr, m0, m60, h, k⟩
end
end Lw

namespace Lw
open PySem L2
open Evl Da Hd
open Jn (Rn expand joinR)
local macro_rules | `(tactic| walk_at "rd1") => `(tactic| first
  | (with_reducible refine Wh.i_seqM ?_) | (with_reducible refine Rd.i_seq ?_) | (with_reducible refine Rd.i_asg ?_) | (with_reducible refine Wh.i_nameS ?_) | (with_reducible refine Rd.i_name ?_) | (with_reducible refine Rd.i_nx ?_) | (with_reducible refine Rd.i_rt ?_) | (with_reducible refine Rd.i_next ?_) | (with_reducible refine Rd.i_ct ?_) | (with_reducible refine Rd.i_bk ?_)
  | (with_reducible refine Rd.i_ret ?_) | (with_reducible refine Rd.i_drop ?_) | (with_reducible refine Rd.i_ifS ?_) | (with_reducible refine Rd.i_sub ?_)
  | ((with_reducible refine Wh.g_var ?_); (with_reducible refine Rd.i_var (by with_unfolding_all exact rfl) ?_)) | (with_reducible refine Rd.i_c ?_) | (with_reducible refine Rd.i_op ?_) | (with_reducible refine Rd.i_un ?_)
  | (with_reducible refine Rd.i_rI0 ?_) | ((with_reducible refine Wh.g_rI ?_); (with_reducible refine Rd.i_rI (by with_unfolding_all first | omega | exact Rd.mulL (by omega) (by omega) | exact Rd.mulR (by omega) (by omega) | decide | (refine ⟨?_, ?_⟩ <;> omega) | (refine ⟨?_, ?_, ?_⟩ <;> omega)) ?_))
  | ((with_reducible refine Wh.g_rEq ?_); (with_reducible refine Rd.i_rEq (by with_unfolding_all exact rfl) ?_)) | ((with_reducible refine Wh.g_rNe ?_); (with_reducible refine Rd.i_rNe (by with_unfolding_all exact rfl) ?_))
  | (with_reducible refine Rd.i_test ?_) | (with_reducible refine Rd.i_tB ?_) | (with_reducible refine Rd.i_bl ?_) | (with_reducible refine Rd.i_and ?_) | (with_reducible refine Rd.i_or ?_) | (with_reducible refine Rd.i_not ?_) | (with_reducible refine Rd.i_notV ?_) | (with_reducible refine Rd.i_andV ?_) | (with_reducible refine Rd.i_orV ?_) | (with_reducible refine Rd.i_if ?_) | (with_reducible refine Rd.i_chain ?_)
  | (with_reducible refine Rd.i_call ?_) | (with_reducible refine Rd.i_nil ?_) | (with_reducible refine Rd.i_cons ?_) | (with_reducible refine Rd.i_cb ?_) | (with_reducible refine Rd.i_bm ?_) | (with_reducible refine Rd.i_bm0 ?_) | (with_reducible refine Rd.i_tup ?_) | (with_reducible refine Rd.i_lst ?_)
  | (with_reducible refine Rd.i_int1 ?_) | (with_reducible refine Rd.i_intb ?_) | (with_reducible refine Rd.i_max ?_)
  | ((with_reducible refine Wh.g_ixL ?_); (with_reducible refine Rd.i_ixL (SqL.of (by first | assumption | exact upd_same)) (by with_unfolding_all first | exact rfl | exact atI_nat rfl) ?_)) | ((with_reducible refine Wh.g_ixT ?_); (with_reducible refine Rd.i_ixT (SqT.of (by first | assumption | exact upd_same)) (by with_unfolding_all exact rfl) ?_))
  | ((with_reducible refine Wh.g_setL ?_); (with_reducible refine Rd.i_setL (by first | assumption | exact upd_same) (by with_unfolding_all exact rfl) ?_))
  | (with_reducible refine Xv.i_mkV ?_) | (with_reducible refine Xv.i_xat ?_)
  | (with_reducible refine Rd.i_yes ?_) | (with_reducible refine Rd.i_m1 ?_) | (with_reducible refine Rd.i_m0 ?_) | (with_reducible refine Rd.ite_T ?_) | (with_reducible refine Rd.ite_F ?_) | (with_reducible refine Rd.i_forR ?_) | (with_reducible refine Rd.i_forL ?_) | (with_reducible refine Rd.i_forT ?_)
  | (with_reducible refine Hd.i_rU ?_) | (with_reducible refine Hd.i_pcons ?_) | (with_reducible refine Hd.i_pnil ?_) | (with_reducible refine Hd.i_disp ?_) | (with_reducible refine Hd.i_dget ?_)
  | (with_reducible refine Hd.i_lstRg ?_) | (with_reducible refine Hd.i_rg1 ?_) | (with_reducible refine Hd.i_rg2 ?_) | (with_reducible refine Hd.i_ex1 ?_) | (with_reducible refine Hd.i_ex2 ?_)
  | ((with_reducible refine Wh.g_gtup ?_); (with_reducible refine Rd.i_gtup (SqT.of (by first | assumption | exact upd_same)) (by with_unfolding_all exact rfl) ?_)) | (with_reducible refine Rd.i_gcons ?_) | (with_reducible refine Rd.i_gnil ?_)
  | ((with_reducible refine Wh.g_len ?_); (with_reducible refine Rd.i_lenT (SqT.of (by first | assumption | exact upd_same)) ?_)) | ((with_reducible refine Wh.g_len ?_); (with_reducible refine Rd.i_len (SqL.of (by first | assumption | exact upd_same)) ?_))
  | ((with_reducible refine Wh.g_ite ?_); (with_reducible refine Nr.ite_eF (by first | decide +kernel | with_unfolding_all exact rfl) ?_)) | ((with_reducible refine Wh.g_ite ?_); (with_reducible refine Nr.ite_eT (by first | decide +kernel | with_unfolding_all exact rfl) ?_))
  | ((with_reducible refine Wh.g_tyL ?_); (with_reducible refine Nr.i_tyL (by first | assumption | exact upd_same) ?_))
  | ((with_reducible refine Wh.g_tup ?_); (with_reducible refine Nr.i_tupT (SqT.of (by first | assumption | exact upd_same)) ?_))
  | (with_reducible refine Nr.i_sl ?_) | (with_reducible refine Nr.i_part ?_) | (with_reducible refine Nr.i_nop ?_) | (with_reducible refine Nr.i_star ?_)
  | fail "stop")
local macro_rules | `(tactic| walk_at "rd") => `(tactic| repeat walk_at "rd1")
local macro_rules
  | `(tactic| walk_at "f") => `(tactic| first | exact lookF_put | exact lookF_hit | exact (lookF_skip (by decide +kernel) lookF_hit) | exact (lookF_skip (by decide +kernel) (lookF_skip (by decide +kernel) lookF_hit)) | exact (lookF_skip (by decide +kernel) (lookF_skip (by decide +kernel) (lookF_skip (by decide +kernel) lookF_hit))) | exact (lookF_skip (by decide +kernel) (lookF_skip (by decide +kernel) (lookF_skip (by decide +kernel) (lookF_skip (by decide +kernel) lookF_hit)))) | exact (lookF_skip (by decide +kernel) (lookF_skip (by decide +kernel) (lookF_skip (by decide +kernel) (lookF_skip (by decide +kernel) (lookF_skip (by decide +kernel) lookF_hit))))) | exact (lookF_skip (by decide +kernel) (lookF_skip (by decide +kernel) (lookF_skip (by decide +kernel) (lookF_skip (by decide +kernel) (lookF_skip (by decide +kernel) (lookF_skip (by decide +kernel) lookF_hit)))))) | ((refine lookF_other (by decide +kernel) ?_); walk_at "f") | ((refine lookF_skip (by decide +kernel) ?_); walk_at "f"))
  | `(tactic| walk_at "fl") => `(tactic| first | exact Nat.zero_lt_succ _ | ((refine putFD_lt ?_); walk_at "fl"))
  | `(tactic| walk_at "a") => `(tactic| first | exact le1000 (Nat.le_of_ble_eq_true rfl) | exact rfl | decide +kernel | exact And.intro (by with_reducible assumption) (by with_reducible assumption) | exact And.intro (And.intro (by with_reducible assumption) (by with_reducible assumption)) (by walk_at "fl"))
  | `(tactic| walk_at "w") => `(tactic| ((conv => whnf); repeat ((first | ((with_reducible refine And.intro ?_ ?_); (focus (walk_at "a"))) | ((with_reducible refine Br.yes ?_ ?_); (focus (first | exact rfl | decide +kernel))) | ((with_reducible refine Br.no ?_ ?_); (focus (first | exact rfl | decide +kernel))) | ((with_reducible refine ex_fld ?_); (refine fld_w (by walk_at "f") ?_)) | ((with_reducible refine ex_at ?_); (refine at_w rfl ?_))); (conv => whnf))))
  | `(tactic| walk_at "n") => `(tactic| ((try dsimp only [st0, st1, S.at, S.drop, S.own, S.put, S.frz, Src.n] at *); omega))
  | `(tactic| walk_at "draw") => `(tactic| ((try walk_at "w"); (refine i_draw ⟨by walk_at "n", by walk_at "n", by walk_at "n"⟩ ?_)))
theorem intsD_app {a b : List Int} : intsD a ++ intsD b = intsD (a ++ b) := by unfold intsD; rw [List.map_append]
theorem exp_cnt {r : Rn} : ∀ {rs : List Rn}, r ∈ rs → r.1.toNat ≤ (expand rs).length
  | x :: l, h => by
    rw [exp_cons, List.length_append, List.length_replicate]
    rcases List.mem_cons.mp h with rfl | h
    · omega
    · have := exp_cnt h
      omega
section
variable {P : Program} {w : World} {K : PySem.W.Frag} {mg : Str → Option Value} {base : Heap}
theorem ok_law (T : Tx w K mg) {f : Addr} {fd : FuncData} (F : Fun K "law" "law" s_law f fd) : FnOk P w K mg base CX0 11 f fd ["_law_script"] (Da.spLaw K) := by
  refine F.ok sc_law (fun vs H Q E h => ?_) (fun cdv A outer s H vs Q E hr h => ?_)
  · obtain ⟨a, ns, rfl, _⟩ := h
    rfl
  · obtain ⟨a, ks, rfl, ha, hn, k⟩ := h
    refine ⟨_, (Evl.pss_cut (ps_set (i := 1) sc_law.nd rfl (Or.inl rfl) (pe_lst (pa_cons (pe_orT (pe_callTy (Da.listK (K := K) rfl) (by rfl) T.z_list (by decide +kernel) (pa_cons (pv 0) pa_nil)) (pe_one (pe_lst (pa_cons pe_int pa_nil)))) (pa_cons pe_int pa_nil))))
      (pss_cons (ps_for PassesOwn.never rfl (pi_range1 (by rfl) T.z_range (pa_cons (pe_callB (call_max2 rfl) (by rfl) T.z_max (by decide +kernel) (pa_cons pe_int (pa_cons (pe_callB (call_min2 rfl) (by rfl) T.z_min (by decide +kernel) (pa_cons pe_int (pa_cons (pe_callB (Da.lenK (K := K) rfl) (by rfl) T.z_len (by decide +kernel) (pa_cons (pv 0) pa_nil)) pa_nil))) pa_nil))) pa_nil)) (pg_name (i := 2) sc_law.nd rfl (Or.inl rfl))
        (pss_cons (ps_set (i := 3) sc_law.nd rfl (Or.inl rfl) (pe_call (ok_law_lines T) (hr.mono (by decide)) rfl T.m_law_lines T.F_law_lines.kp T.b_law_lines .nil pass0 (pa_cons (pv 1) (pa_cons pe_int pa_nil))))
        (pss_cons (ps_set (i := 4) sc_law.nd rfl (Or.inl rfl) (pe_make T.mk_Reader (ok_Reader___init T) (hr.mono (by decide)) rfl T.m_Reader T.b_Reader___init .nil pass0 (pa_cons (pv 3) pa_nil)))
        (pss_cons (ps_set (i := 5) sc_law.nd rfl (Or.inl rfl) (pe_call (ok_law_led T) (hr.mono (by decide)) rfl T.m_law_led T.F_law_led.kp T.b_law_led .nil pass0 (pa_cons (pv 1) (pa_cons (pv 3) (pa_cons (pe_call (ok_law_draw T) (hr.mono (by decide)) rfl T.m_law_draw T.F_law_draw.kp T.b_law_draw .nil pass0 (pa_cons (pv 1) (pa_cons pe_int pa_nil))) pa_nil)))))
        (pss_cons (ps_for PassesOwn.never rfl (Da.seqK (K := K) rfl (pe_lst (pa_cons (pv 5) (pa_cons (pe_op (Da.addK (K := K) rfl) (pv 5) (pv 5)) pa_nil)))) (pg_name (i := 6) sc_law.nd rfl (Or.inl rfl))
          (pss_cons (ps_set (i := 7) sc_law.nd rfl (Or.inl rfl) (pe_call (ok_law_walk T) (hr.mono (by decide)) rfl T.m_law_walk T.F_law_walk.kp T.b_law_walk .nil pass0 (pa_cons (pv 3) (pa_cons (pv 6) pa_nil))))
          (pss_one (ps_if (PW.pt (pw_or (pt_cmpR (Da.neK (K := K) rfl hr.units) (pe_call (ok_cuts T) (hr.mono (by decide)) rfl T.m_cuts T.F_cuts.kp T.b_cuts .nil pass0 (pa_cons (pv 4) (pa_cons (pv 6) pa_nil))) (pe_dget (hu_of hr) (pv 7) pe_str (fun _ _ => rfl)) (nomark _)) (pw_or1 (pt_cmpR (Da.neK (K := K) rfl hr.units) (pe_call (ok_law_told T) (hr.mono (by decide)) rfl T.m_law_told T.F_law_told.kp T.b_law_told .nil pass0 (pa_cons (pe_call (ok_run T) (hr.mono (by decide)) rfl T.m_run T.F_run.kp T.b_run .nil pass0 (pa_cons (pv 4) (pa_cons (pv 6) pa_nil))) pa_nil)) (pe_call (ok_law_due T) (hr.mono (by decide)) rfl T.m_law_due T.F_law_due.kp T.b_law_due .nil pass0 (pa_cons (pv 7) pa_nil)) (nomark _)))))
            (pss_one (ps_ret pe_bl))
            pss_nil))))
        (pss_cons (ps_set (i := 8) sc_law.nd rfl (Or.inl rfl) (pe_op (Da.mulOwn (by decide +kernel) (by decide +kernel) (K := K) rfl (ok_Row___mul T) T.hs_Row___mul T.rm_Row T.hf_Row___mul T.b_Row___mul pass0 (hr.mono (by decide)) T.sf_Row) (pe_make T.mk_Row (ok_Row___init T) (hr.mono (by decide)) rfl T.m_Row T.b_Row___init .nil pass0 (pa_cons (pv 5) pa_nil)) pe_int))
        (pss_one (ps_if (pt_cmpR (Da.neK (K := K) rfl hr.units) (pe_call (ok_law_told T) (hr.mono (by decide)) rfl T.m_law_told T.F_law_told.kp T.b_law_told .nil pass0 (pa_cons (pe_call (ok_run T) (hr.mono (by decide)) rfl T.m_run T.F_run.kp T.b_run .nil pass0 (pa_cons (pv 4) (pa_cons (pv 8) pa_nil))) pa_nil)) (pe_call (ok_law_due T) (hr.mono (by decide)) rfl T.m_law_due T.F_law_due.kp T.b_law_due .nil pass0 (pa_cons (pe_call (ok_law_walk T) (hr.mono (by decide)) rfl T.m_law_walk T.F_law_walk.kp T.b_law_walk .nil pass0 (pa_cons (pv 3) (pa_cons (pe_op (Da.addK (K := K) rfl) (pv 5) (pv 5)) pa_nil))) pa_nil)) (nomark _))
          (pss_one (ps_ret pe_bl))
          pss_nil))))))))
      (pss_one (ps_ret pe_bl)))), ?_⟩
    refine Evl.q_cut (M := fun σ H' => ∃ p q, σ = Da.lawS a p 7 ∧ Pen H' p q 0 ∧ SqL K (hid [p, q] H') a (ks.map V.int)) ?_ (fun σ H1 hM => ?_)
    · walk_at "rd"
      refine i_orT ?_
      walk_at "rd"
      refine ⟨a, _, rfl, .inl ha, fun l nl => ?_⟩
      refine ⟨!((ks.map V.int)).isEmpty, .inl ⟨_, SqL.of upd_same, rfl⟩, ?_⟩
      cases ks with
      | nil =>
        refine Rd.ite_F ?_
        walk_at "rd"
        refine ⟨by show 1 ≤ sizeLine; decide, fun z nz => ?_⟩
        walk_at "rd"
        refine ⟨by show 2 ≤ sizeLine; decide, fun p np => ?_⟩
        walk_at "rd"
        obtain ⟨h1, h2⟩ := pen_nil nl nz np ha
        exact ⟨p, z, rfl, h1, h2⟩
      | cons x r =>
        refine Rd.ite_T ?_
        walk_at "rd"
        refine ⟨by show 2 ≤ sizeLine; decide, fun p np => ?_⟩
        walk_at "rd"
        obtain ⟨h1, h2⟩ := pen_cons (ns := x :: r) (fun z => nomatch z) (by omega) nl np ha
        exact ⟨p, l, rfl, h1, h2⟩
    · obtain ⟨p, q, rfl, hpen, hSq⟩ := hM
      refine law_rest hpen hSq ?_ k
      clear k hpen hSq ha
      walk_at "w"
      have hb : max (1 : Int) (min 3 (ks.length : Int)) ≤ 3 ∧ 1 ≤ max (1 : Int) (min 3 (ks.length : Int)) := by omega
      generalize max (1 : Int) (min 3 (ks.length : Int)) = tu at hb ⊢
      refine ⟨by omega, ?_⟩
      refine for_inv (fun i Γ s => ∃ (u2 u3 u4 u5 u6 u7 u8 : Option D) (n : Nat), Γ = [some (.lck ks), some (.val (.ref p)), u2, u3, u4, u5, u6, u7, u8] ∧ s = st0 n (some (p, q)) ∧ n ≤ 2000 * i) ⟨_, _, _, _, _, _, _, 0, rfl, rfl, Nat.zero_le _⟩ ?_ ?_
      · rintro i d _ _ hi hd ⟨u2, u3, u4, u5, u6, u7, u8, n, rfl, rfl, hn⟩
        obtain ⟨hi, rfl⟩ := rng_at hd
        have hi4 : i < 3 := by omega
        walk_at "w"
        refine i_lines ⟨by walk_at "n", by decide, by decide⟩ (fun ns ws ls n1 dr h1 => ?_)
        have h1 : n1 ≤ n + 1000 := h1
        walk_at "w"
        refine i_readerI dr ?_
        walk_at "draw"
        intro r r0 r1
        walk_at "w"
        refine i_led dr r0 (by omega) (by walk_at "n") (fun cs n2 hz hl h2 => ?_)
        have h2 : n2 ≤ n1 + 1 + 300 := h2
        have el : (intsD cs).length = cs.length := intsD_len cs
        walk_at "w"
        refine ⟨le1000 (by rw [el]; omega), ?_⟩
        rw [intsD_app]
        have hz2 : ∀ z ∈ cs ++ cs, 0 ≤ z := fun z hz1 => (List.mem_append.mp hz1).elim (hz z) (hz z)
        have hl2 : (cs ++ cs).length ≤ 120 := by rw [List.length_append]; omega
        walk_at "w"
        refine for_inv (fun j Γ s => ∃ (u2 u6 u7 u8 : Option D), Γ = [some (.lck ks), some (.val (.ref p)), u2, some (.lst (linesD ns ls false)), some (rdD T.c_Reader ns ls), some (.lst (intsD cs)), u6, u7, u8] ∧ s = st0 n2 (some (p, q))) ⟨_, _, _, _, rfl, rfl⟩ ?_ ?_
        · rintro j d _ _ hj hd ⟨u2, u6, u7, u8, rfl, rfl⟩
          have hd := seq_at hd
          obtain ⟨zs, rfl, hzs, hls⟩ : ∃ zs, d = .lst (intsD zs) ∧ (∀ z ∈ zs, 0 ≤ z) ∧ zs.length ≤ 120 := by
            match j, hd with
            | 0, hd => cases hd; exact ⟨cs, rfl, hz, by omega⟩
            | 1, hd => cases hd; exact ⟨cs ++ cs, rfl, hz2, hl2⟩
            | j + 2, hd => cases hd
          have okv := WkOk.run dr (zs := zs) (wk0_ok dr)
          have okt := ttW_ok dr okv
          have hfew : (runW ls (wk0 ls) zs).cuts.length ≤ 1000 := by have := okv.few; rw [run_place] at this; have e : (wk0 ls).place = 0 := rfl; omega
          walk_at "w"
          refine i_walk dr (by omega) ?_
          walk_at "w"
          refine i_cuts dr (.inl rfl) hzs (by omega) ?_
          walk_at "w"
          refine ⟨_, f6_1, ?_⟩
          walk_at "w"
          refine ⟨⟨1, 1, by decide, by decide, cells_pl, cells_pl⟩, ?_⟩
          refine .nn rfl ?_
          walk_at "w"
          refine i_run dr (.inl rfl) hzs (by omega) ?_
          walk_at "w"
          refine i_law_told (t := ttW ns (runW ls (wk0 ls) zs)) ?_
          walk_at "w"
          refine i_due (ns := ns) (v := runW ls (wk0 ls) zs) hfew ?_
          walk_at "w"
          refine ⟨⟨1, 1, by decide, by decide, parts_pl okt, parts_pl okt⟩, ?_⟩
          refine .nn rfl ?_
          walk_at "w"
          exact ⟨_, _, _, _, rfl, rfl⟩
        · rintro _ _ ⟨u2, u6, u7, u8, rfl, rfl⟩
          have okv := WkOk.run dr (zs := cs ++ cs) (wk0_ok dr)
          have okt := ttW_ok dr okv
          have hfew : (runW ls (wk0 ls) (cs ++ cs)).cuts.length ≤ 1000 := by have := okv.few; rw [run_place] at this; have e : (wk0 ls).place = 0 := rfl; omega
          have hrl : (rowR cs).length ≤ 60 := Nat.le_trans (rowR_len cs) hl
          walk_at "w"
          refine i_rowI (.inl rfl) hz (by omega) ?_
          walk_at "w"
          have er : expand (rowR cs) = cs := (rowR_ok cs).2
          have hcl : ∀ r ∈ rowR cs, 0 ≤ r.2 := fun r hr => by
            have := exp_mem hr ((rowR_ok cs).1 r hr)
            rw [er] at this
            exact hz _ this
          have hct : ∀ r ∈ rowR cs, r.1 < 2 ^ 150 := fun r hr => by
            have := exp_cnt hr
            rw [er] at this
            exact Int.lt_of_le_of_lt (show r.1 ≤ 60 by omega) (by decide)
          refine i_mul (rs := rowR cs) (t := 2) rfl (rowR_runs (by omega)) hcl (by decide) (by decide) (by omega) hct (fun rs' f1 f2 f3 => ?_)
          have f3 : expand rs' = cs ++ cs := by
            rw [f3, er]
            show cs ++ (cs ++ []) = _
            rw [List.append_nil]
          walk_at "w"
          refine i_runG dr (.row (rs := rs')) f1 (by rw [f3]; exact Nat.lt_of_le_of_lt hl2 (by decide)) ?_
          rw [f3]
          walk_at "w"
          refine i_law_told (t := ttW ns (runW ls (wk0 ls) (cs ++ cs))) ?_
          walk_at "w"
          refine ⟨le1000 (by rw [el]; omega), ?_⟩
          rw [intsD_app]
          walk_at "w"
          refine i_walk dr (by omega) ?_
          walk_at "w"
          refine i_due (ns := ns) (v := runW ls (wk0 ls) (cs ++ cs)) hfew ?_
          walk_at "w"
          refine ⟨⟨1, 1, by decide, by decide, parts_pl okt, parts_pl okt⟩, ?_⟩
          refine .nn rfl ?_
          walk_at "w"
          exact ⟨_, _, _, _, _, _, _, n2, rfl, rfl, by omega⟩
      · rintro _ _ ⟨u2, u3, u4, u5, u6, u7, u8, n, rfl, rfl, hn⟩
        walk_at "w"
end
end Lw

namespace Lw
open PySem L2 Da
theorem all_mk {l : PySem.W.OpenLaw} {w : World} {K : PySem.W.Frag} {h : Heap} {mg : Str → Option Value} {fa : Addr} (X : K.In h) (G : h.Ns mainGlobals mg) (hfa : mg "law" = some (.ref fa)) {C_Reader f_Reader___init C_Machine f_Machine___init f_Machine_come f_Machine_behind f_Machine_ahead C_Row A_dRow___init A_eRow___init f_Row___init A_Row_of_runs f_Row_of_runs A_Row_size f_Row_size f_Row___mul C_Told f_Told___init f_is_name f_within f_are_ways f_has_form f_frozen f_goals f_check_forms f_check_goals f_silent_ways f_reached f_check_rings f_check_begin f_length f_is_at_most f_way f_row_of f_short_row_of f_joined f_run f_cuts f_shown f_course_begun f_course_over f_told_of f_over_run f_law_draw f_law_pick f_law_word f_law_names f_law_words f_law_goal f_law_ways f_law_line f_law_lines f_law_settle f_law_step f_law_walk f_law_due f_law_told f_law_led f_law A_ENTRIES A_BOUNDS A_BOUNDS_rest A_BOUNDS_cap A_BOUNDS_jump A_BOUNDS_set A_BOUNDS_upto A_BOUNDS_skip A_VALUES A_READING A_NEVER_FIRST : Addr} {od_Reader___init an_Reader___init od_Machine___init an_Machine___init od_Machine_come an_Machine_come od_Machine_behind an_Machine_behind od_Machine_ahead an_Machine_ahead od_Row___init an_Row___init od_Row_of_runs an_Row_of_runs od_Row_size an_Row_size od_Row___mul an_Row___mul od_Told___init an_Told___init od_is_name an_is_name od_within an_within od_are_ways an_are_ways od_has_form an_has_form od_frozen an_frozen od_goals an_goals od_check_forms an_check_forms od_check_goals an_check_goals od_silent_ways an_silent_ways od_reached an_reached od_check_rings an_check_rings od_check_begin an_check_begin od_length an_length od_is_at_most an_is_at_most od_way an_way od_row_of an_row_of od_short_row_of an_short_row_of od_joined an_joined od_run an_run od_cuts an_cuts od_shown an_shown od_course_begun an_course_begun od_course_over an_course_over od_told_of an_told_of od_over_run an_over_run od_law_draw an_law_draw od_law_pick an_law_pick od_law_word an_law_word od_law_names an_law_names od_law_words an_law_words od_law_goal an_law_goal od_law_ways an_law_ways od_law_line an_law_line od_law_lines an_law_lines od_law_settle an_law_settle od_law_step an_law_step od_law_walk an_law_walk od_law_due an_law_due od_law_told an_law_told od_law_led an_law_led od_law an_law : Option Addr} {oc_Reader___init kV_Reader___init dc_Reader___init pm_Reader___init cd_Reader___init ct_Reader___init oc_Machine___init kV_Machine___init dc_Machine___init pm_Machine___init cd_Machine___init ct_Machine___init oc_Machine_come kV_Machine_come dc_Machine_come pm_Machine_come cd_Machine_come ct_Machine_come oc_Machine_behind kV_Machine_behind dc_Machine_behind pm_Machine_behind cd_Machine_behind ct_Machine_behind oc_Machine_ahead kV_Machine_ahead dc_Machine_ahead pm_Machine_ahead cd_Machine_ahead ct_Machine_ahead oc_Row___init kV_Row___init dc_Row___init pm_Row___init cd_Row___init ct_Row___init oc_Row_of_runs kV_Row_of_runs dc_Row_of_runs pm_Row_of_runs cd_Row_of_runs ct_Row_of_runs oc_Row_size kV_Row_size dc_Row_size pm_Row_size cd_Row_size ct_Row_size oc_Row___mul kV_Row___mul dc_Row___mul pm_Row___mul cd_Row___mul ct_Row___mul oc_Told___init kV_Told___init dc_Told___init pm_Told___init cd_Told___init ct_Told___init oc_is_name kV_is_name dc_is_name pm_is_name cd_is_name ct_is_name oc_within kV_within dc_within pm_within cd_within ct_within oc_are_ways kV_are_ways dc_are_ways pm_are_ways cd_are_ways ct_are_ways oc_has_form kV_has_form dc_has_form pm_has_form cd_has_form ct_has_form oc_frozen kV_frozen dc_frozen pm_frozen cd_frozen ct_frozen oc_goals kV_goals dc_goals pm_goals cd_goals ct_goals oc_check_forms kV_check_forms dc_check_forms pm_check_forms cd_check_forms ct_check_forms oc_check_goals kV_check_goals dc_check_goals pm_check_goals cd_check_goals ct_check_goals oc_silent_ways kV_silent_ways dc_silent_ways pm_silent_ways cd_silent_ways ct_silent_ways oc_reached kV_reached dc_reached pm_reached cd_reached ct_reached oc_check_rings kV_check_rings dc_check_rings pm_check_rings cd_check_rings ct_check_rings oc_check_begin kV_check_begin dc_check_begin pm_check_begin cd_check_begin ct_check_begin oc_length kV_length dc_length pm_length cd_length ct_length oc_is_at_most kV_is_at_most dc_is_at_most pm_is_at_most cd_is_at_most ct_is_at_most oc_way kV_way dc_way pm_way cd_way ct_way oc_row_of kV_row_of dc_row_of pm_row_of cd_row_of ct_row_of oc_short_row_of kV_short_row_of dc_short_row_of pm_short_row_of cd_short_row_of ct_short_row_of oc_joined kV_joined dc_joined pm_joined cd_joined ct_joined oc_run kV_run dc_run pm_run cd_run ct_run oc_cuts kV_cuts dc_cuts pm_cuts cd_cuts ct_cuts oc_shown kV_shown dc_shown pm_shown cd_shown ct_shown oc_course_begun kV_course_begun dc_course_begun pm_course_begun cd_course_begun ct_course_begun oc_course_over kV_course_over dc_course_over pm_course_over cd_course_over ct_course_over oc_told_of kV_told_of dc_told_of pm_told_of cd_told_of ct_told_of oc_over_run kV_over_run dc_over_run pm_over_run cd_over_run ct_over_run oc_law_draw kV_law_draw dc_law_draw pm_law_draw cd_law_draw ct_law_draw oc_law_pick kV_law_pick dc_law_pick pm_law_pick cd_law_pick ct_law_pick oc_law_word kV_law_word dc_law_word pm_law_word cd_law_word ct_law_word oc_law_names kV_law_names dc_law_names pm_law_names cd_law_names ct_law_names oc_law_words kV_law_words dc_law_words pm_law_words cd_law_words ct_law_words oc_law_goal kV_law_goal dc_law_goal pm_law_goal cd_law_goal ct_law_goal oc_law_ways kV_law_ways dc_law_ways pm_law_ways cd_law_ways ct_law_ways oc_law_line kV_law_line dc_law_line pm_law_line cd_law_line ct_law_line oc_law_lines kV_law_lines dc_law_lines pm_law_lines cd_law_lines ct_law_lines oc_law_settle kV_law_settle dc_law_settle pm_law_settle cd_law_settle ct_law_settle oc_law_step kV_law_step dc_law_step pm_law_step cd_law_step ct_law_step oc_law_walk kV_law_walk dc_law_walk pm_law_walk cd_law_walk ct_law_walk oc_law_due kV_law_due dc_law_due pm_law_due cd_law_due ct_law_due oc_law_told kV_law_told dc_law_told pm_law_told cd_law_told ct_law_told oc_law_led kV_law_led dc_law_led pm_law_led cd_law_led ct_law_led oc_law kV_law dc_law pm_law cd_law ct_law : Value} {sl_Reader___init sl_Machine___init sl_Machine_come sl_Machine_behind sl_Machine_ahead sl_Row___init sl_Row_of_runs sl_Row_size sl_Row___mul sl_Told___init sl_is_name sl_within sl_are_ways sl_has_form sl_frozen sl_goals sl_check_forms sl_check_goals sl_silent_ways sl_reached sl_check_rings sl_check_begin sl_length sl_is_at_most sl_way sl_row_of sl_short_row_of sl_joined sl_run sl_cuts sl_shown sl_course_begun sl_course_over sl_told_of sl_over_run sl_law_draw sl_law_pick sl_law_word sl_law_names sl_law_words sl_law_goal sl_law_ways sl_law_line sl_law_lines sl_law_settle sl_law_step sl_law_walk sl_law_due sl_law_told sl_law_led sl_law : Array (Option Value)} {t_MOST_LINES t_MOST_LETTERS t_LETTERS te_ENTRIES_case te_ENTRIES_take te_ENTRIES_rest te_ENTRIES_cap te_ENTRIES_jump te_ENTRIES_set te_ENTRIES_upto te_ENTRIES_skip te_ENTRIES_cut te_ENTRIES_refuse tt_BOUNDS_rest_0 tt_BOUNDS_rest_1 tt_BOUNDS_cap_0 tt_BOUNDS_cap_1 tt_BOUNDS_jump_0 tt_BOUNDS_jump_1 tt_BOUNDS_set_0 tt_BOUNDS_set_1 tt_BOUNDS_upto_0 tt_BOUNDS_upto_1 tt_BOUNDS_skip_0 tt_BOUNDS_skip_1 tt_VALUES_0 tt_VALUES_1 tt_READING_0 tt_READING_1 tt_READING_2 tt_READING_3 tt_READING_4 tt_NEVER_FIRST_0 tt_NEVER_FIRST_1 tt_NEVER_FIRST_2 t_CUT t_REFUSE t_MOST_RUNS t_MOST_CELLS : Tok} {nt_dRow___init nu_dRow___init : Nat} {ot_dRow___init ou_dRow___init : Option Addr} {st_dRow___init su_dRow___init : Array (Option Value)} {ct_dRow___init : Value} {rest_Row_of_runs : List Value} {rest_Row_size : List Value} {es_ENTRIES : Array DictEntry} {n_ENTRIES : Nat} {es_BOUNDS : Array DictEntry} {n_BOUNDS : Nat} {nt_BOUNDS_rest : Nat} {ot_BOUNDS_rest : Option Addr} {st_BOUNDS_rest : Array (Option Value)} {nt_BOUNDS_cap : Nat} {ot_BOUNDS_cap : Option Addr} {st_BOUNDS_cap : Array (Option Value)} {nt_BOUNDS_jump : Nat} {ot_BOUNDS_jump : Option Addr} {st_BOUNDS_jump : Array (Option Value)} {nt_BOUNDS_set : Nat} {ot_BOUNDS_set : Option Addr} {st_BOUNDS_set : Array (Option Value)} {nt_BOUNDS_upto : Nat} {ot_BOUNDS_upto : Option Addr} {st_BOUNDS_upto : Array (Option Value)} {nt_BOUNDS_skip : Nat} {ot_BOUNDS_skip : Option Addr} {st_BOUNDS_skip : Array (Option Value)} {nt_VALUES : Nat} {ot_VALUES : Option Addr} {st_VALUES : Array (Option Value)} {nt_READING : Nat} {ot_READING : Option Addr} {st_READING : Array (Option Value)} {nt_NEVER_FIRST : Nat} {ot_NEVER_FIRST : Option Addr} {st_NEVER_FIRST : Array (Option Value)}
    (sp : PySem.W.specialIn K (.builtin "object.__class__") "__get__" = some (some (.builtin "getset_descriptor.__get__")))
    (tk : PySem.W.takesIn K (.builtin "object.__class__") = some true)
    (g_Reader : PySem.W.nsIn K mainGlobals "Reader" = some (some (.ref C_Reader)))
    (pg_Reader : PySem.W.plainGet K C_Reader Str.empty = true)
    (hd_Reader : PySem.W.hasDictIn K C_Reader = true)
    (po_Reader : PySem.W.plainOver K C_Reader = true)
    (sa_Reader : PySem.W.findIn K (.ref C_Reader) "__setattr__" = some (some (.builtin "object.__setattr__")))
    (mk_Reader : PySem.W.makesIn K C_Reader = true)
    (kc_Reader : PySem.W.keepIn K (.ref C_Reader) = true)
    (ca_Reader : PySem.W.findIn K (.ref C_Reader) "__class__" = some (some (.builtin "object.__class__")))
    (mo_Reader : PySem.W.mroIn K C_Reader (.type "object") = some true)
    (n_Reader_lines : PySem.W.findIn K (.ref C_Reader) "lines" = some none)
    (a_Reader___init : PySem.W.findIn K (.ref C_Reader) "__init__" = some (some (.ref f_Reader___init)))
    (l_Reader___init : K.lookup f_Reader___init = some ⟨oc_Reader___init, od_Reader___init, .func (PySem.W.fnOf "__init__" "Reader.__init__" (defArgs s_Reader___init) (defBody s_Reader___init) (defScope s_Reader___init) .none kV_Reader___init dc_Reader___init pm_Reader___init an_Reader___init cd_Reader___init ct_Reader___init), sl_Reader___init⟩)
    (c_Reader___init : PySem.W.codeIn K cd_Reader___init "Reader.__init__" = true)
    (k_Reader___init : PySem.W.keepIn K (.ref f_Reader___init) = true)
    (i_Reader___init : PySem.W.isFn K (.ref f_Reader___init) = true)
    (g_Machine : PySem.W.nsIn K mainGlobals "Machine" = some (some (.ref C_Machine)))
    (pg_Machine : PySem.W.plainGet K C_Machine Str.empty = true)
    (hd_Machine : PySem.W.hasDictIn K C_Machine = true)
    (po_Machine : PySem.W.plainOver K C_Machine = true)
    (sa_Machine : PySem.W.findIn K (.ref C_Machine) "__setattr__" = some (some (.builtin "object.__setattr__")))
    (mk_Machine : PySem.W.makesIn K C_Machine = true)
    (kc_Machine : PySem.W.keepIn K (.ref C_Machine) = true)
    (ca_Machine : PySem.W.findIn K (.ref C_Machine) "__class__" = some (some (.builtin "object.__class__")))
    (mo_Machine : PySem.W.mroIn K C_Machine (.type "object") = some true)
    (n_Machine_lines : PySem.W.findIn K (.ref C_Machine) "lines" = some none)
    (n_Machine_first : PySem.W.findIn K (.ref C_Machine) "first" = some none)
    (n_Machine_begin : PySem.W.findIn K (.ref C_Machine) "begin" = some none)
    (a_Machine___init : PySem.W.findIn K (.ref C_Machine) "__init__" = some (some (.ref f_Machine___init)))
    (l_Machine___init : K.lookup f_Machine___init = some ⟨oc_Machine___init, od_Machine___init, .func (PySem.W.fnOf "__init__" "Machine.__init__" (defArgs s_Machine___init) (defBody s_Machine___init) (defScope s_Machine___init) .none kV_Machine___init dc_Machine___init pm_Machine___init an_Machine___init cd_Machine___init ct_Machine___init), sl_Machine___init⟩)
    (c_Machine___init : PySem.W.codeIn K cd_Machine___init "Machine.__init__" = true)
    (k_Machine___init : PySem.W.keepIn K (.ref f_Machine___init) = true)
    (i_Machine___init : PySem.W.isFn K (.ref f_Machine___init) = true)
    (a_Machine_come : PySem.W.findIn K (.ref C_Machine) "come" = some (some (.ref f_Machine_come)))
    (l_Machine_come : K.lookup f_Machine_come = some ⟨oc_Machine_come, od_Machine_come, .func (PySem.W.fnOf "come" "Machine.come" (defArgs s_Machine_come) (defBody s_Machine_come) (defScope s_Machine_come) .none kV_Machine_come dc_Machine_come pm_Machine_come an_Machine_come cd_Machine_come ct_Machine_come), sl_Machine_come⟩)
    (c_Machine_come : PySem.W.codeIn K cd_Machine_come "Machine.come" = true)
    (k_Machine_come : PySem.W.keepIn K (.ref f_Machine_come) = true)
    (i_Machine_come : PySem.W.isFn K (.ref f_Machine_come) = true)
    (a_Machine_behind : PySem.W.findIn K (.ref C_Machine) "behind" = some (some (.ref f_Machine_behind)))
    (l_Machine_behind : K.lookup f_Machine_behind = some ⟨oc_Machine_behind, od_Machine_behind, .func (PySem.W.fnOf "behind" "Machine.behind" (defArgs s_Machine_behind) (defBody s_Machine_behind) (defScope s_Machine_behind) .none kV_Machine_behind dc_Machine_behind pm_Machine_behind an_Machine_behind cd_Machine_behind ct_Machine_behind), sl_Machine_behind⟩)
    (c_Machine_behind : PySem.W.codeIn K cd_Machine_behind "Machine.behind" = true)
    (k_Machine_behind : PySem.W.keepIn K (.ref f_Machine_behind) = true)
    (i_Machine_behind : PySem.W.isFn K (.ref f_Machine_behind) = true)
    (a_Machine_ahead : PySem.W.findIn K (.ref C_Machine) "ahead" = some (some (.ref f_Machine_ahead)))
    (l_Machine_ahead : K.lookup f_Machine_ahead = some ⟨oc_Machine_ahead, od_Machine_ahead, .func (PySem.W.fnOf "ahead" "Machine.ahead" (defArgs s_Machine_ahead) (defBody s_Machine_ahead) (defScope s_Machine_ahead) .none kV_Machine_ahead dc_Machine_ahead pm_Machine_ahead an_Machine_ahead cd_Machine_ahead ct_Machine_ahead), sl_Machine_ahead⟩)
    (c_Machine_ahead : PySem.W.codeIn K cd_Machine_ahead "Machine.ahead" = true)
    (k_Machine_ahead : PySem.W.keepIn K (.ref f_Machine_ahead) = true)
    (i_Machine_ahead : PySem.W.isFn K (.ref f_Machine_ahead) = true)
    (g_Row : PySem.W.nsIn K mainGlobals "Row" = some (some (.ref C_Row)))
    (pg_Row : PySem.W.plainGet K C_Row Str.empty = true)
    (hd_Row : PySem.W.hasDictIn K C_Row = true)
    (po_Row : PySem.W.plainOver K C_Row = true)
    (sa_Row : PySem.W.findIn K (.ref C_Row) "__setattr__" = some (some (.builtin "object.__setattr__")))
    (mk_Row : PySem.W.makesIn K C_Row = true)
    (kc_Row : PySem.W.keepIn K (.ref C_Row) = true)
    (ca_Row : PySem.W.findIn K (.ref C_Row) "__class__" = some (some (.builtin "object.__class__")))
    (mo_Row : PySem.W.mroIn K C_Row (.type "object") = some true)
    (n_Row_runs : PySem.W.findIn K (.ref C_Row) "runs" = some none)
    (a_Row___init : PySem.W.findIn K (.ref C_Row) "__init__" = some (some (.ref f_Row___init)))
    (l_Row___init : K.lookup f_Row___init = some ⟨oc_Row___init, od_Row___init, .func (PySem.W.fnOf "__init__" "Row.__init__" (defArgs s_Row___init) (defBody s_Row___init) (defScope s_Row___init) (.ref A_dRow___init) kV_Row___init dc_Row___init pm_Row___init an_Row___init cd_Row___init ct_Row___init), sl_Row___init⟩)
    (c_Row___init : PySem.W.codeIn K cd_Row___init "Row.__init__" = true)
    (k_Row___init : PySem.W.keepIn K (.ref f_Row___init) = true)
    (i_Row___init : PySem.W.isFn K (.ref f_Row___init) = true)
    (u_dRow___init : K.lookup A_dRow___init = some ⟨ct_dRow___init, ot_dRow___init, .seq #[.ref A_eRow___init] nt_dRow___init, st_dRow___init⟩)
    (u_eRow___init : K.lookup A_eRow___init = some ⟨.type "tuple", ou_dRow___init, .seq #[] nu_dRow___init, su_dRow___init⟩)
    (sr_Row_of_runs : PySem.W.readsIn K C_Row (.type "type") = true)
    (sg_Row_of_runs : PySem.W.specialIn K (.ref C_Row) "__getattribute__" = some (some (.builtin "type.__getattribute__")))
    (sb_Row_of_runs : PySem.W.findCls K (.ref C_Row) (.type "type") "of_runs" = some (.get (.builtin "staticmethod.__get__") (.ref A_Row_of_runs) .none (.ref C_Row)))
    (sc_Row_of_runs : PySem.W.recIn K A_Row_of_runs "staticmethod" = some (.ref f_Row_of_runs :: rest_Row_of_runs))
    (l_Row_of_runs : K.lookup f_Row_of_runs = some ⟨oc_Row_of_runs, od_Row_of_runs, .func (PySem.W.fnOf "of_runs" "Row.of_runs" (defArgs s_Row_of_runs) (defBody s_Row_of_runs) (defScope s_Row_of_runs) .none kV_Row_of_runs dc_Row_of_runs pm_Row_of_runs an_Row_of_runs cd_Row_of_runs ct_Row_of_runs), sl_Row_of_runs⟩)
    (c_Row_of_runs : PySem.W.codeIn K cd_Row_of_runs "Row.of_runs" = true)
    (k_Row_of_runs : PySem.W.keepIn K (.ref f_Row_of_runs) = true)
    (pa_Row_size : PySem.W.findIn K (.ref C_Row) "size" = some (some (.ref A_Row_size)))
    (pg_Row_size : PySem.W.specialIn K (.ref A_Row_size) "__get__" = some (some (.builtin "property.__get__")))
    (pt_Row_size : PySem.W.takesIn K (.ref A_Row_size) = some true)
    (pr_Row_size : PySem.W.recIn K A_Row_size "property" = some (.ref f_Row_size :: rest_Row_size))
    (l_Row_size : K.lookup f_Row_size = some ⟨oc_Row_size, od_Row_size, .func (PySem.W.fnOf "size" "Row.size" (defArgs s_Row_size) (defBody s_Row_size) (defScope s_Row_size) .none kV_Row_size dc_Row_size pm_Row_size an_Row_size cd_Row_size ct_Row_size), sl_Row_size⟩)
    (c_Row_size : PySem.W.codeIn K cd_Row_size "Row.size" = true)
    (k_Row_size : PySem.W.keepIn K (.ref f_Row_size) = true)
    (a_Row___mul : PySem.W.findIn K (.ref C_Row) "__mul__" = some (some (.ref f_Row___mul)))
    (l_Row___mul : K.lookup f_Row___mul = some ⟨oc_Row___mul, od_Row___mul, .func (PySem.W.fnOf "__mul__" "Row.__mul__" (defArgs s_Row___mul) (defBody s_Row___mul) (defScope s_Row___mul) .none kV_Row___mul dc_Row___mul pm_Row___mul an_Row___mul cd_Row___mul ct_Row___mul), sl_Row___mul⟩)
    (c_Row___mul : PySem.W.codeIn K cd_Row___mul "Row.__mul__" = true)
    (k_Row___mul : PySem.W.keepIn K (.ref f_Row___mul) = true)
    (i_Row___mul : PySem.W.isFn K (.ref f_Row___mul) = true)
    (g_Told : PySem.W.nsIn K mainGlobals "Told" = some (some (.ref C_Told)))
    (pg_Told : PySem.W.plainGet K C_Told Str.empty = true)
    (hd_Told : PySem.W.hasDictIn K C_Told = true)
    (po_Told : PySem.W.plainOver K C_Told = true)
    (sa_Told : PySem.W.findIn K (.ref C_Told) "__setattr__" = some (some (.builtin "object.__setattr__")))
    (mk_Told : PySem.W.makesIn K C_Told = true)
    (kc_Told : PySem.W.keepIn K (.ref C_Told) = true)
    (ca_Told : PySem.W.findIn K (.ref C_Told) "__class__" = some (some (.builtin "object.__class__")))
    (mo_Told : PySem.W.mroIn K C_Told (.type "object") = some true)
    (n_Told_many : PySem.W.findIn K (.ref C_Told) "many" = some none)
    (n_Told_last : PySem.W.findIn K (.ref C_Told) "last" = some none)
    (n_Told_refused : PySem.W.findIn K (.ref C_Told) "refused" = some none)
    (n_Told_inside : PySem.W.findIn K (.ref C_Told) "inside" = some none)
    (n_Told_line : PySem.W.findIn K (.ref C_Told) "line" = some none)
    (n_Told_kept : PySem.W.findIn K (.ref C_Told) "kept" = some none)
    (n_Told_left : PySem.W.findIn K (.ref C_Told) "left" = some none)
    (a_Told___init : PySem.W.findIn K (.ref C_Told) "__init__" = some (some (.ref f_Told___init)))
    (l_Told___init : K.lookup f_Told___init = some ⟨oc_Told___init, od_Told___init, .func (PySem.W.fnOf "__init__" "Told.__init__" (defArgs s_Told___init) (defBody s_Told___init) (defScope s_Told___init) .none kV_Told___init dc_Told___init pm_Told___init an_Told___init cd_Told___init ct_Told___init), sl_Told___init⟩)
    (c_Told___init : PySem.W.codeIn K cd_Told___init "Told.__init__" = true)
    (k_Told___init : PySem.W.keepIn K (.ref f_Told___init) = true)
    (i_Told___init : PySem.W.isFn K (.ref f_Told___init) = true)
    (a_is_name : PySem.W.nsIn K mainGlobals "is_name" = some (some (.ref f_is_name)))
    (l_is_name : K.lookup f_is_name = some ⟨oc_is_name, od_is_name, .func (PySem.W.fnOf "is_name" "is_name" (defArgs s_is_name) (defBody s_is_name) (defScope s_is_name) .none kV_is_name dc_is_name pm_is_name an_is_name cd_is_name ct_is_name), sl_is_name⟩)
    (c_is_name : PySem.W.codeIn K cd_is_name "is_name" = true)
    (k_is_name : PySem.W.keepIn K (.ref f_is_name) = true)
    (a_within : PySem.W.nsIn K mainGlobals "_within" = some (some (.ref f_within)))
    (l_within : K.lookup f_within = some ⟨oc_within, od_within, .func (PySem.W.fnOf "_within" "_within" (defArgs s_within) (defBody s_within) (defScope s_within) .none kV_within dc_within pm_within an_within cd_within ct_within), sl_within⟩)
    (c_within : PySem.W.codeIn K cd_within "_within" = true)
    (k_within : PySem.W.keepIn K (.ref f_within) = true)
    (a_are_ways : PySem.W.nsIn K mainGlobals "_are_ways" = some (some (.ref f_are_ways)))
    (l_are_ways : K.lookup f_are_ways = some ⟨oc_are_ways, od_are_ways, .func (PySem.W.fnOf "_are_ways" "_are_ways" (defArgs s_are_ways) (defBody s_are_ways) (defScope s_are_ways) .none kV_are_ways dc_are_ways pm_are_ways an_are_ways cd_are_ways ct_are_ways), sl_are_ways⟩)
    (c_are_ways : PySem.W.codeIn K cd_are_ways "_are_ways" = true)
    (k_are_ways : PySem.W.keepIn K (.ref f_are_ways) = true)
    (a_has_form : PySem.W.nsIn K mainGlobals "_has_form" = some (some (.ref f_has_form)))
    (l_has_form : K.lookup f_has_form = some ⟨oc_has_form, od_has_form, .func (PySem.W.fnOf "_has_form" "_has_form" (defArgs s_has_form) (defBody s_has_form) (defScope s_has_form) .none kV_has_form dc_has_form pm_has_form an_has_form cd_has_form ct_has_form), sl_has_form⟩)
    (c_has_form : PySem.W.codeIn K cd_has_form "_has_form" = true)
    (k_has_form : PySem.W.keepIn K (.ref f_has_form) = true)
    (a_frozen : PySem.W.nsIn K mainGlobals "_frozen" = some (some (.ref f_frozen)))
    (l_frozen : K.lookup f_frozen = some ⟨oc_frozen, od_frozen, .func (PySem.W.fnOf "_frozen" "_frozen" (defArgs s_frozen) (defBody s_frozen) (defScope s_frozen) .none kV_frozen dc_frozen pm_frozen an_frozen cd_frozen ct_frozen), sl_frozen⟩)
    (c_frozen : PySem.W.codeIn K cd_frozen "_frozen" = true)
    (k_frozen : PySem.W.keepIn K (.ref f_frozen) = true)
    (a_goals : PySem.W.nsIn K mainGlobals "_goals" = some (some (.ref f_goals)))
    (l_goals : K.lookup f_goals = some ⟨oc_goals, od_goals, .func (PySem.W.fnOf "_goals" "_goals" (defArgs s_goals) (defBody s_goals) (defScope s_goals) .none kV_goals dc_goals pm_goals an_goals cd_goals ct_goals), sl_goals⟩)
    (c_goals : PySem.W.codeIn K cd_goals "_goals" = true)
    (k_goals : PySem.W.keepIn K (.ref f_goals) = true)
    (a_check_forms : PySem.W.nsIn K mainGlobals "_check_forms" = some (some (.ref f_check_forms)))
    (l_check_forms : K.lookup f_check_forms = some ⟨oc_check_forms, od_check_forms, .func (PySem.W.fnOf "_check_forms" "_check_forms" (defArgs s_check_forms) (defBody s_check_forms) (defScope s_check_forms) .none kV_check_forms dc_check_forms pm_check_forms an_check_forms cd_check_forms ct_check_forms), sl_check_forms⟩)
    (c_check_forms : PySem.W.codeIn K cd_check_forms "_check_forms" = true)
    (k_check_forms : PySem.W.keepIn K (.ref f_check_forms) = true)
    (a_check_goals : PySem.W.nsIn K mainGlobals "_check_goals" = some (some (.ref f_check_goals)))
    (l_check_goals : K.lookup f_check_goals = some ⟨oc_check_goals, od_check_goals, .func (PySem.W.fnOf "_check_goals" "_check_goals" (defArgs s_check_goals) (defBody s_check_goals) (defScope s_check_goals) .none kV_check_goals dc_check_goals pm_check_goals an_check_goals cd_check_goals ct_check_goals), sl_check_goals⟩)
    (c_check_goals : PySem.W.codeIn K cd_check_goals "_check_goals" = true)
    (k_check_goals : PySem.W.keepIn K (.ref f_check_goals) = true)
    (a_silent_ways : PySem.W.nsIn K mainGlobals "_silent_ways" = some (some (.ref f_silent_ways)))
    (l_silent_ways : K.lookup f_silent_ways = some ⟨oc_silent_ways, od_silent_ways, .func (PySem.W.fnOf "_silent_ways" "_silent_ways" (defArgs s_silent_ways) (defBody s_silent_ways) (defScope s_silent_ways) .none kV_silent_ways dc_silent_ways pm_silent_ways an_silent_ways cd_silent_ways ct_silent_ways), sl_silent_ways⟩)
    (c_silent_ways : PySem.W.codeIn K cd_silent_ways "_silent_ways" = true)
    (k_silent_ways : PySem.W.keepIn K (.ref f_silent_ways) = true)
    (a_reached : PySem.W.nsIn K mainGlobals "_reached" = some (some (.ref f_reached)))
    (l_reached : K.lookup f_reached = some ⟨oc_reached, od_reached, .func (PySem.W.fnOf "_reached" "_reached" (defArgs s_reached) (defBody s_reached) (defScope s_reached) .none kV_reached dc_reached pm_reached an_reached cd_reached ct_reached), sl_reached⟩)
    (c_reached : PySem.W.codeIn K cd_reached "_reached" = true)
    (k_reached : PySem.W.keepIn K (.ref f_reached) = true)
    (a_check_rings : PySem.W.nsIn K mainGlobals "_check_rings" = some (some (.ref f_check_rings)))
    (l_check_rings : K.lookup f_check_rings = some ⟨oc_check_rings, od_check_rings, .func (PySem.W.fnOf "_check_rings" "_check_rings" (defArgs s_check_rings) (defBody s_check_rings) (defScope s_check_rings) .none kV_check_rings dc_check_rings pm_check_rings an_check_rings cd_check_rings ct_check_rings), sl_check_rings⟩)
    (c_check_rings : PySem.W.codeIn K cd_check_rings "_check_rings" = true)
    (k_check_rings : PySem.W.keepIn K (.ref f_check_rings) = true)
    (a_check_begin : PySem.W.nsIn K mainGlobals "_check_begin" = some (some (.ref f_check_begin)))
    (l_check_begin : K.lookup f_check_begin = some ⟨oc_check_begin, od_check_begin, .func (PySem.W.fnOf "_check_begin" "_check_begin" (defArgs s_check_begin) (defBody s_check_begin) (defScope s_check_begin) .none kV_check_begin dc_check_begin pm_check_begin an_check_begin cd_check_begin ct_check_begin), sl_check_begin⟩)
    (c_check_begin : PySem.W.codeIn K cd_check_begin "_check_begin" = true)
    (k_check_begin : PySem.W.keepIn K (.ref f_check_begin) = true)
    (a_length : PySem.W.nsIn K mainGlobals "_length" = some (some (.ref f_length)))
    (l_length : K.lookup f_length = some ⟨oc_length, od_length, .func (PySem.W.fnOf "_length" "_length" (defArgs s_length) (defBody s_length) (defScope s_length) .none kV_length dc_length pm_length an_length cd_length ct_length), sl_length⟩)
    (c_length : PySem.W.codeIn K cd_length "_length" = true)
    (k_length : PySem.W.keepIn K (.ref f_length) = true)
    (a_is_at_most : PySem.W.nsIn K mainGlobals "_is_at_most" = some (some (.ref f_is_at_most)))
    (l_is_at_most : K.lookup f_is_at_most = some ⟨oc_is_at_most, od_is_at_most, .func (PySem.W.fnOf "_is_at_most" "_is_at_most" (defArgs s_is_at_most) (defBody s_is_at_most) (defScope s_is_at_most) .none kV_is_at_most dc_is_at_most pm_is_at_most an_is_at_most cd_is_at_most ct_is_at_most), sl_is_at_most⟩)
    (c_is_at_most : PySem.W.codeIn K cd_is_at_most "_is_at_most" = true)
    (k_is_at_most : PySem.W.keepIn K (.ref f_is_at_most) = true)
    (a_way : PySem.W.nsIn K mainGlobals "_way" = some (some (.ref f_way)))
    (l_way : K.lookup f_way = some ⟨oc_way, od_way, .func (PySem.W.fnOf "_way" "_way" (defArgs s_way) (defBody s_way) (defScope s_way) .none kV_way dc_way pm_way an_way cd_way ct_way), sl_way⟩)
    (c_way : PySem.W.codeIn K cd_way "_way" = true)
    (k_way : PySem.W.keepIn K (.ref f_way) = true)
    (a_row_of : PySem.W.nsIn K mainGlobals "row_of" = some (some (.ref f_row_of)))
    (l_row_of : K.lookup f_row_of = some ⟨oc_row_of, od_row_of, .func (PySem.W.fnOf "row_of" "row_of" (defArgs s_row_of) (defBody s_row_of) (defScope s_row_of) .none kV_row_of dc_row_of pm_row_of an_row_of cd_row_of ct_row_of), sl_row_of⟩)
    (c_row_of : PySem.W.codeIn K cd_row_of "row_of" = true)
    (k_row_of : PySem.W.keepIn K (.ref f_row_of) = true)
    (a_short_row_of : PySem.W.nsIn K mainGlobals "short_row_of" = some (some (.ref f_short_row_of)))
    (l_short_row_of : K.lookup f_short_row_of = some ⟨oc_short_row_of, od_short_row_of, .func (PySem.W.fnOf "short_row_of" "short_row_of" (defArgs s_short_row_of) (defBody s_short_row_of) (defScope s_short_row_of) .none kV_short_row_of dc_short_row_of pm_short_row_of an_short_row_of cd_short_row_of ct_short_row_of), sl_short_row_of⟩)
    (c_short_row_of : PySem.W.codeIn K cd_short_row_of "short_row_of" = true)
    (k_short_row_of : PySem.W.keepIn K (.ref f_short_row_of) = true)
    (a_joined : PySem.W.nsIn K mainGlobals "_joined" = some (some (.ref f_joined)))
    (l_joined : K.lookup f_joined = some ⟨oc_joined, od_joined, .func (PySem.W.fnOf "_joined" "_joined" (defArgs s_joined) (defBody s_joined) (defScope s_joined) .none kV_joined dc_joined pm_joined an_joined cd_joined ct_joined), sl_joined⟩)
    (c_joined : PySem.W.codeIn K cd_joined "_joined" = true)
    (k_joined : PySem.W.keepIn K (.ref f_joined) = true)
    (a_run : PySem.W.nsIn K mainGlobals "run" = some (some (.ref f_run)))
    (l_run : K.lookup f_run = some ⟨oc_run, od_run, .func (PySem.W.fnOf "run" "run" (defArgs s_run) (defBody s_run) (defScope s_run) .none kV_run dc_run pm_run an_run cd_run ct_run), sl_run⟩)
    (c_run : PySem.W.codeIn K cd_run "run" = true)
    (k_run : PySem.W.keepIn K (.ref f_run) = true)
    (a_cuts : PySem.W.nsIn K mainGlobals "cuts" = some (some (.ref f_cuts)))
    (l_cuts : K.lookup f_cuts = some ⟨oc_cuts, od_cuts, .func (PySem.W.fnOf "cuts" "cuts" (defArgs s_cuts) (defBody s_cuts) (defScope s_cuts) .none kV_cuts dc_cuts pm_cuts an_cuts cd_cuts ct_cuts), sl_cuts⟩)
    (c_cuts : PySem.W.codeIn K cd_cuts "cuts" = true)
    (k_cuts : PySem.W.keepIn K (.ref f_cuts) = true)
    (a_shown : PySem.W.nsIn K mainGlobals "shown" = some (some (.ref f_shown)))
    (l_shown : K.lookup f_shown = some ⟨oc_shown, od_shown, .func (PySem.W.fnOf "shown" "shown" (defArgs s_shown) (defBody s_shown) (defScope s_shown) .none kV_shown dc_shown pm_shown an_shown cd_shown ct_shown), sl_shown⟩)
    (c_shown : PySem.W.codeIn K cd_shown "shown" = true)
    (k_shown : PySem.W.keepIn K (.ref f_shown) = true)
    (a_course_begun : PySem.W.nsIn K mainGlobals "course_begun" = some (some (.ref f_course_begun)))
    (l_course_begun : K.lookup f_course_begun = some ⟨oc_course_begun, od_course_begun, .func (PySem.W.fnOf "course_begun" "course_begun" (defArgs s_course_begun) (defBody s_course_begun) (defScope s_course_begun) .none kV_course_begun dc_course_begun pm_course_begun an_course_begun cd_course_begun ct_course_begun), sl_course_begun⟩)
    (c_course_begun : PySem.W.codeIn K cd_course_begun "course_begun" = true)
    (k_course_begun : PySem.W.keepIn K (.ref f_course_begun) = true)
    (a_course_over : PySem.W.nsIn K mainGlobals "course_over" = some (some (.ref f_course_over)))
    (l_course_over : K.lookup f_course_over = some ⟨oc_course_over, od_course_over, .func (PySem.W.fnOf "course_over" "course_over" (defArgs s_course_over) (defBody s_course_over) (defScope s_course_over) .none kV_course_over dc_course_over pm_course_over an_course_over cd_course_over ct_course_over), sl_course_over⟩)
    (c_course_over : PySem.W.codeIn K cd_course_over "course_over" = true)
    (k_course_over : PySem.W.keepIn K (.ref f_course_over) = true)
    (a_told_of : PySem.W.nsIn K mainGlobals "told_of" = some (some (.ref f_told_of)))
    (l_told_of : K.lookup f_told_of = some ⟨oc_told_of, od_told_of, .func (PySem.W.fnOf "told_of" "told_of" (defArgs s_told_of) (defBody s_told_of) (defScope s_told_of) .none kV_told_of dc_told_of pm_told_of an_told_of cd_told_of ct_told_of), sl_told_of⟩)
    (c_told_of : PySem.W.codeIn K cd_told_of "told_of" = true)
    (k_told_of : PySem.W.keepIn K (.ref f_told_of) = true)
    (a_over_run : PySem.W.nsIn K mainGlobals "_over_run" = some (some (.ref f_over_run)))
    (l_over_run : K.lookup f_over_run = some ⟨oc_over_run, od_over_run, .func (PySem.W.fnOf "_over_run" "_over_run" (defArgs s_over_run) (defBody s_over_run) (defScope s_over_run) .none kV_over_run dc_over_run pm_over_run an_over_run cd_over_run ct_over_run), sl_over_run⟩)
    (c_over_run : PySem.W.codeIn K cd_over_run "_over_run" = true)
    (k_over_run : PySem.W.keepIn K (.ref f_over_run) = true)
    (a_law_draw : PySem.W.nsIn K mainGlobals "_law_draw" = some (some (.ref f_law_draw)))
    (l_law_draw : K.lookup f_law_draw = some ⟨oc_law_draw, od_law_draw, .func (PySem.W.fnOf "_law_draw" "_law_draw" (defArgs s_law_draw) (defBody s_law_draw) (defScope s_law_draw) .none kV_law_draw dc_law_draw pm_law_draw an_law_draw cd_law_draw ct_law_draw), sl_law_draw⟩)
    (c_law_draw : PySem.W.codeIn K cd_law_draw "_law_draw" = true)
    (k_law_draw : PySem.W.keepIn K (.ref f_law_draw) = true)
    (a_law_pick : PySem.W.nsIn K mainGlobals "_law_pick" = some (some (.ref f_law_pick)))
    (l_law_pick : K.lookup f_law_pick = some ⟨oc_law_pick, od_law_pick, .func (PySem.W.fnOf "_law_pick" "_law_pick" (defArgs s_law_pick) (defBody s_law_pick) (defScope s_law_pick) .none kV_law_pick dc_law_pick pm_law_pick an_law_pick cd_law_pick ct_law_pick), sl_law_pick⟩)
    (c_law_pick : PySem.W.codeIn K cd_law_pick "_law_pick" = true)
    (k_law_pick : PySem.W.keepIn K (.ref f_law_pick) = true)
    (a_law_word : PySem.W.nsIn K mainGlobals "_law_word" = some (some (.ref f_law_word)))
    (l_law_word : K.lookup f_law_word = some ⟨oc_law_word, od_law_word, .func (PySem.W.fnOf "_law_word" "_law_word" (defArgs s_law_word) (defBody s_law_word) (defScope s_law_word) .none kV_law_word dc_law_word pm_law_word an_law_word cd_law_word ct_law_word), sl_law_word⟩)
    (c_law_word : PySem.W.codeIn K cd_law_word "_law_word" = true)
    (k_law_word : PySem.W.keepIn K (.ref f_law_word) = true)
    (a_law_names : PySem.W.nsIn K mainGlobals "_law_names" = some (some (.ref f_law_names)))
    (l_law_names : K.lookup f_law_names = some ⟨oc_law_names, od_law_names, .func (PySem.W.fnOf "_law_names" "_law_names" (defArgs s_law_names) (defBody s_law_names) (defScope s_law_names) .none kV_law_names dc_law_names pm_law_names an_law_names cd_law_names ct_law_names), sl_law_names⟩)
    (c_law_names : PySem.W.codeIn K cd_law_names "_law_names" = true)
    (k_law_names : PySem.W.keepIn K (.ref f_law_names) = true)
    (a_law_words : PySem.W.nsIn K mainGlobals "_law_words" = some (some (.ref f_law_words)))
    (l_law_words : K.lookup f_law_words = some ⟨oc_law_words, od_law_words, .func (PySem.W.fnOf "_law_words" "_law_words" (defArgs s_law_words) (defBody s_law_words) (defScope s_law_words) .none kV_law_words dc_law_words pm_law_words an_law_words cd_law_words ct_law_words), sl_law_words⟩)
    (c_law_words : PySem.W.codeIn K cd_law_words "_law_words" = true)
    (k_law_words : PySem.W.keepIn K (.ref f_law_words) = true)
    (a_law_goal : PySem.W.nsIn K mainGlobals "_law_goal" = some (some (.ref f_law_goal)))
    (l_law_goal : K.lookup f_law_goal = some ⟨oc_law_goal, od_law_goal, .func (PySem.W.fnOf "_law_goal" "_law_goal" (defArgs s_law_goal) (defBody s_law_goal) (defScope s_law_goal) .none kV_law_goal dc_law_goal pm_law_goal an_law_goal cd_law_goal ct_law_goal), sl_law_goal⟩)
    (c_law_goal : PySem.W.codeIn K cd_law_goal "_law_goal" = true)
    (k_law_goal : PySem.W.keepIn K (.ref f_law_goal) = true)
    (a_law_ways : PySem.W.nsIn K mainGlobals "_law_ways" = some (some (.ref f_law_ways)))
    (l_law_ways : K.lookup f_law_ways = some ⟨oc_law_ways, od_law_ways, .func (PySem.W.fnOf "_law_ways" "_law_ways" (defArgs s_law_ways) (defBody s_law_ways) (defScope s_law_ways) .none kV_law_ways dc_law_ways pm_law_ways an_law_ways cd_law_ways ct_law_ways), sl_law_ways⟩)
    (c_law_ways : PySem.W.codeIn K cd_law_ways "_law_ways" = true)
    (k_law_ways : PySem.W.keepIn K (.ref f_law_ways) = true)
    (a_law_line : PySem.W.nsIn K mainGlobals "_law_line" = some (some (.ref f_law_line)))
    (l_law_line : K.lookup f_law_line = some ⟨oc_law_line, od_law_line, .func (PySem.W.fnOf "_law_line" "_law_line" (defArgs s_law_line) (defBody s_law_line) (defScope s_law_line) .none kV_law_line dc_law_line pm_law_line an_law_line cd_law_line ct_law_line), sl_law_line⟩)
    (c_law_line : PySem.W.codeIn K cd_law_line "_law_line" = true)
    (k_law_line : PySem.W.keepIn K (.ref f_law_line) = true)
    (a_law_lines : PySem.W.nsIn K mainGlobals "_law_lines" = some (some (.ref f_law_lines)))
    (l_law_lines : K.lookup f_law_lines = some ⟨oc_law_lines, od_law_lines, .func (PySem.W.fnOf "_law_lines" "_law_lines" (defArgs s_law_lines) (defBody s_law_lines) (defScope s_law_lines) .none kV_law_lines dc_law_lines pm_law_lines an_law_lines cd_law_lines ct_law_lines), sl_law_lines⟩)
    (c_law_lines : PySem.W.codeIn K cd_law_lines "_law_lines" = true)
    (k_law_lines : PySem.W.keepIn K (.ref f_law_lines) = true)
    (a_law_settle : PySem.W.nsIn K mainGlobals "_law_settle" = some (some (.ref f_law_settle)))
    (l_law_settle : K.lookup f_law_settle = some ⟨oc_law_settle, od_law_settle, .func (PySem.W.fnOf "_law_settle" "_law_settle" (defArgs s_law_settle) (defBody s_law_settle) (defScope s_law_settle) .none kV_law_settle dc_law_settle pm_law_settle an_law_settle cd_law_settle ct_law_settle), sl_law_settle⟩)
    (c_law_settle : PySem.W.codeIn K cd_law_settle "_law_settle" = true)
    (k_law_settle : PySem.W.keepIn K (.ref f_law_settle) = true)
    (a_law_step : PySem.W.nsIn K mainGlobals "_law_step" = some (some (.ref f_law_step)))
    (l_law_step : K.lookup f_law_step = some ⟨oc_law_step, od_law_step, .func (PySem.W.fnOf "_law_step" "_law_step" (defArgs s_law_step) (defBody s_law_step) (defScope s_law_step) .none kV_law_step dc_law_step pm_law_step an_law_step cd_law_step ct_law_step), sl_law_step⟩)
    (c_law_step : PySem.W.codeIn K cd_law_step "_law_step" = true)
    (k_law_step : PySem.W.keepIn K (.ref f_law_step) = true)
    (a_law_walk : PySem.W.nsIn K mainGlobals "_law_walk" = some (some (.ref f_law_walk)))
    (l_law_walk : K.lookup f_law_walk = some ⟨oc_law_walk, od_law_walk, .func (PySem.W.fnOf "_law_walk" "_law_walk" (defArgs s_law_walk) (defBody s_law_walk) (defScope s_law_walk) .none kV_law_walk dc_law_walk pm_law_walk an_law_walk cd_law_walk ct_law_walk), sl_law_walk⟩)
    (c_law_walk : PySem.W.codeIn K cd_law_walk "_law_walk" = true)
    (k_law_walk : PySem.W.keepIn K (.ref f_law_walk) = true)
    (a_law_due : PySem.W.nsIn K mainGlobals "_law_due" = some (some (.ref f_law_due)))
    (l_law_due : K.lookup f_law_due = some ⟨oc_law_due, od_law_due, .func (PySem.W.fnOf "_law_due" "_law_due" (defArgs s_law_due) (defBody s_law_due) (defScope s_law_due) .none kV_law_due dc_law_due pm_law_due an_law_due cd_law_due ct_law_due), sl_law_due⟩)
    (c_law_due : PySem.W.codeIn K cd_law_due "_law_due" = true)
    (k_law_due : PySem.W.keepIn K (.ref f_law_due) = true)
    (a_law_told : PySem.W.nsIn K mainGlobals "_law_told" = some (some (.ref f_law_told)))
    (l_law_told : K.lookup f_law_told = some ⟨oc_law_told, od_law_told, .func (PySem.W.fnOf "_law_told" "_law_told" (defArgs s_law_told) (defBody s_law_told) (defScope s_law_told) .none kV_law_told dc_law_told pm_law_told an_law_told cd_law_told ct_law_told), sl_law_told⟩)
    (c_law_told : PySem.W.codeIn K cd_law_told "_law_told" = true)
    (k_law_told : PySem.W.keepIn K (.ref f_law_told) = true)
    (a_law_led : PySem.W.nsIn K mainGlobals "_law_led" = some (some (.ref f_law_led)))
    (l_law_led : K.lookup f_law_led = some ⟨oc_law_led, od_law_led, .func (PySem.W.fnOf "_law_led" "_law_led" (defArgs s_law_led) (defBody s_law_led) (defScope s_law_led) .none kV_law_led dc_law_led pm_law_led an_law_led cd_law_led ct_law_led), sl_law_led⟩)
    (c_law_led : PySem.W.codeIn K cd_law_led "_law_led" = true)
    (k_law_led : PySem.W.keepIn K (.ref f_law_led) = true)
    (a_law : PySem.W.nsIn K mainGlobals "law" = some (some (.ref f_law)))
    (l_law : K.lookup f_law = some ⟨oc_law, od_law, .func (PySem.W.fnOf "law" "law" (defArgs s_law) (defBody s_law) (defScope s_law) .none kV_law dc_law pm_law an_law cd_law ct_law), sl_law⟩)
    (c_law : PySem.W.codeIn K cd_law "law" = true)
    (k_law : PySem.W.keepIn K (.ref f_law) = true)
    (z_int : PySem.W.nsIn K mainGlobals "int" = some none)
    (z_len : PySem.W.nsIn K mainGlobals "len" = some none)
    (z_max : PySem.W.nsIn K mainGlobals "max" = some none)
    (z_min : PySem.W.nsIn K mainGlobals "min" = some none)
    (z_range : PySem.W.nsIn K mainGlobals "range" = some none)
    (z_list : PySem.W.nsIn K mainGlobals "list" = some none)
    (z_all : PySem.W.nsIn K mainGlobals "all" = some none)
    (z_tuple : PySem.W.nsIn K mainGlobals "tuple" = some none)
    (z_enumerate : PySem.W.nsIn K mainGlobals "enumerate" = some none)
    (z_isinstance : PySem.W.nsIn K mainGlobals "isinstance" = some none)
    (z_sum : PySem.W.nsIn K mainGlobals "sum" = some none)
    (z_str : PySem.W.nsIn K mainGlobals "str" = some none)
    (m_MOST_LINES : PySem.W.nsIn K mainGlobals "MOST_LINES" = some (some (.int 8 t_MOST_LINES)))
    (m_MOST_LETTERS : PySem.W.nsIn K mainGlobals "MOST_LETTERS" = some (some (.int 12 t_MOST_LETTERS)))
    (m_LETTERS : PySem.W.nsIn K mainGlobals "LETTERS" = some (some (.str "abcdefghijklmnopqrstuvwxyz" t_LETTERS)))
    (g_ENTRIES : PySem.W.nsIn K mainGlobals "ENTRIES" = some (some (.ref A_ENTRIES)))
    (l_ENTRIES : K.lookup A_ENTRIES = some ⟨.type "dict", none, .dict es_ENTRIES n_ENTRIES, #[]⟩)
    (y_ENTRIES : es_ENTRIES.toList.map He.keyOf = He.keysIn w.params ["case", "take", "rest", "cap", "jump", "set", "upto", "skip", "cut", "refuse"])
    (w_ENTRIES : (A_ENTRIES == sysModules) = false)
    (e_ENTRIES_case : PySem.W.nsIn K A_ENTRIES "case" = some (some (.int 3 te_ENTRIES_case)))
    (e_ENTRIES_take : PySem.W.nsIn K A_ENTRIES "take" = some (some (.int 2 te_ENTRIES_take)))
    (e_ENTRIES_rest : PySem.W.nsIn K A_ENTRIES "rest" = some (some (.int 3 te_ENTRIES_rest)))
    (e_ENTRIES_cap : PySem.W.nsIn K A_ENTRIES "cap" = some (some (.int 3 te_ENTRIES_cap)))
    (e_ENTRIES_jump : PySem.W.nsIn K A_ENTRIES "jump" = some (some (.int 3 te_ENTRIES_jump)))
    (e_ENTRIES_set : PySem.W.nsIn K A_ENTRIES "set" = some (some (.int 3 te_ENTRIES_set)))
    (e_ENTRIES_upto : PySem.W.nsIn K A_ENTRIES "upto" = some (some (.int 4 te_ENTRIES_upto)))
    (e_ENTRIES_skip : PySem.W.nsIn K A_ENTRIES "skip" = some (some (.int 3 te_ENTRIES_skip)))
    (e_ENTRIES_cut : PySem.W.nsIn K A_ENTRIES "cut" = some (some (.int 1 te_ENTRIES_cut)))
    (e_ENTRIES_refuse : PySem.W.nsIn K A_ENTRIES "refuse" = some (some (.int 1 te_ENTRIES_refuse)))
    (g_BOUNDS : PySem.W.nsIn K mainGlobals "BOUNDS" = some (some (.ref A_BOUNDS)))
    (l_BOUNDS : K.lookup A_BOUNDS = some ⟨.type "dict", none, .dict es_BOUNDS n_BOUNDS, #[]⟩)
    (y_BOUNDS : es_BOUNDS.toList.map He.keyOf = He.keysIn w.params ["rest", "cap", "jump", "set", "upto", "skip"])
    (w_BOUNDS : (A_BOUNDS == sysModules) = false)
    (e_BOUNDS_rest : PySem.W.nsIn K A_BOUNDS "rest" = some (some (.ref A_BOUNDS_rest)))
    (u_BOUNDS_rest : K.lookup A_BOUNDS_rest = some ⟨.type "tuple", ot_BOUNDS_rest, .seq #[.int 2 tt_BOUNDS_rest_0, .int 4 tt_BOUNDS_rest_1] nt_BOUNDS_rest, st_BOUNDS_rest⟩)
    (e_BOUNDS_cap : PySem.W.nsIn K A_BOUNDS "cap" = some (some (.ref A_BOUNDS_cap)))
    (u_BOUNDS_cap : K.lookup A_BOUNDS_cap = some ⟨.type "tuple", ot_BOUNDS_cap, .seq #[.int 0 tt_BOUNDS_cap_0, .int 5 tt_BOUNDS_cap_1] nt_BOUNDS_cap, st_BOUNDS_cap⟩)
    (e_BOUNDS_jump : PySem.W.nsIn K A_BOUNDS "jump" = some (some (.ref A_BOUNDS_jump)))
    (u_BOUNDS_jump : K.lookup A_BOUNDS_jump = some ⟨.type "tuple", ot_BOUNDS_jump, .seq #[.int 1 tt_BOUNDS_jump_0, .int 4 tt_BOUNDS_jump_1] nt_BOUNDS_jump, st_BOUNDS_jump⟩)
    (e_BOUNDS_set : PySem.W.nsIn K A_BOUNDS "set" = some (some (.ref A_BOUNDS_set)))
    (u_BOUNDS_set : K.lookup A_BOUNDS_set = some ⟨.type "tuple", ot_BOUNDS_set, .seq #[.int 0 tt_BOUNDS_set_0, .int 5 tt_BOUNDS_set_1] nt_BOUNDS_set, st_BOUNDS_set⟩)
    (e_BOUNDS_upto : PySem.W.nsIn K A_BOUNDS "upto" = some (some (.ref A_BOUNDS_upto)))
    (u_BOUNDS_upto : K.lookup A_BOUNDS_upto = some ⟨.type "tuple", ot_BOUNDS_upto, .seq #[.int 0 tt_BOUNDS_upto_0, .int 5 tt_BOUNDS_upto_1] nt_BOUNDS_upto, st_BOUNDS_upto⟩)
    (e_BOUNDS_skip : PySem.W.nsIn K A_BOUNDS "skip" = some (some (.ref A_BOUNDS_skip)))
    (u_BOUNDS_skip : K.lookup A_BOUNDS_skip = some ⟨.type "tuple", ot_BOUNDS_skip, .seq #[.int (-3) tt_BOUNDS_skip_0, .int 4 tt_BOUNDS_skip_1] nt_BOUNDS_skip, st_BOUNDS_skip⟩)
    (o_BOUNDS_case : PySem.W.nsIn K A_BOUNDS "case" = some none)
    (o_BOUNDS_take : PySem.W.nsIn K A_BOUNDS "take" = some none)
    (o_BOUNDS_cut : PySem.W.nsIn K A_BOUNDS "cut" = some none)
    (o_BOUNDS_refuse : PySem.W.nsIn K A_BOUNDS "refuse" = some none)
    (g_VALUES : PySem.W.nsIn K mainGlobals "VALUES" = some (some (.ref A_VALUES)))
    (u_VALUES : K.lookup A_VALUES = some ⟨.type "tuple", ot_VALUES, .seq #[.int 0 tt_VALUES_0, .int 5 tt_VALUES_1] nt_VALUES, st_VALUES⟩)
    (g_READING : PySem.W.nsIn K mainGlobals "READING" = some (some (.ref A_READING)))
    (u_READING : K.lookup A_READING = some ⟨.type "tuple", ot_READING, .seq #[.str "case" tt_READING_0, .str "take" tt_READING_1, .str "rest" tt_READING_2, .str "cap" tt_READING_3, .str "jump" tt_READING_4] nt_READING, st_READING⟩)
    (g_NEVER_FIRST : PySem.W.nsIn K mainGlobals "NEVER_FIRST" = some (some (.ref A_NEVER_FIRST)))
    (u_NEVER_FIRST : K.lookup A_NEVER_FIRST = some ⟨.type "tuple", ot_NEVER_FIRST, .seq #[.str "cut" tt_NEVER_FIRST_0, .str "skip" tt_NEVER_FIRST_1, .str "refuse" tt_NEVER_FIRST_2] nt_NEVER_FIRST, st_NEVER_FIRST⟩)
    (m_CUT : PySem.W.nsIn K mainGlobals "CUT" = some (some (.str "cut" t_CUT)))
    (m_REFUSE : PySem.W.nsIn K mainGlobals "REFUSE" = some (some (.str "refuse" t_REFUSE)))
    (m_MOST_RUNS : PySem.W.nsIn K mainGlobals "MOST_RUNS" = some (some (.int 1000 t_MOST_RUNS)))
    (m_MOST_CELLS : PySem.W.nsIn K mainGlobals "MOST_CELLS" = some (some (.int 1000 t_MOST_CELLS)))
    (kit_int_int : PySem.W.kitOne K (.type "int") (.type "int") = some true)
    (kit_int_str : PySem.W.kitOne K (.type "int") (.type "str") = some false)
    (kit_NoneType_int : PySem.W.kitOne K (.type "NoneType") (.type "int") = some false)
    (kit_list_list : PySem.W.kitOne K (.type "list") (.type "list") = some true)
    (kit_Row_Row : PySem.W.kitOne K (.ref C_Row) (.ref C_Row) = some true)
    (kit_list_Row : PySem.W.kitOne K (.type "list") (.ref C_Row) = some false)
    (kit_tuple_Row : PySem.W.kitOne K (.type "tuple") (.ref C_Row) = some false)
    (kit_Told_Told : PySem.W.kitOne K (.ref C_Told) (.ref C_Told) = some true)
    (kit_tuple_Told : PySem.W.kitOne K (.type "tuple") (.ref C_Told) = some false)
    (rm_Row : PySem.W.findIn K (.ref C_Row) "__rmul__" = some none)
    (sf_Row : PySem.W.selfFirst K C_Row = true)
    (nt_Told : PySem.W.notFirst K C_Told (.type "tuple") = true)
    : ∃ fd : FuncData, (∀ (s : Shared) (v : Value), BindsTo s fd ⟨[v], []⟩ [("_law_script", v)]) ∧ ∀ base : Heap, K.In base → base.Ns mainGlobals mg → FnOk l.prog w K mg base CX0 11 fa fd ["_law_script"] (spLaw K) := by
  have e := hfa.symm.trans (PySem.W.mg_of X G a_law)
  cases e
  have kl_ENTRIES := He.keysLit_of y_ENTRIES
  have vv_ENTRIES : ∀ x d, (x, d) ∈ tab_ENTRIES → ∃ v, KDct K w A_ENTRIES x v ∧ ∀ H, Da.Rep K H v d := by
    intro x d hx
    simp only [tab_ENTRIES, List.mem_cons, List.not_mem_nil, or_false, Prod.mk.injEq] at hx
    rcases hx with ⟨rfl, rfl⟩ | ⟨rfl, rfl⟩ | ⟨rfl, rfl⟩ | ⟨rfl, rfl⟩ | ⟨rfl, rfl⟩ | ⟨rfl, rfl⟩ | ⟨rfl, rfl⟩ | ⟨rfl, rfl⟩ | ⟨rfl, rfl⟩ | ⟨rfl, rfl⟩
    · exact ⟨V.int 3, ⟨_, _, _, l_ENTRIES, kl_ENTRIES, e_ENTRIES_case, ⟨_, rfl⟩⟩, fun H => .int⟩
    · exact ⟨V.int 2, ⟨_, _, _, l_ENTRIES, kl_ENTRIES, e_ENTRIES_take, ⟨_, rfl⟩⟩, fun H => .int⟩
    · exact ⟨V.int 3, ⟨_, _, _, l_ENTRIES, kl_ENTRIES, e_ENTRIES_rest, ⟨_, rfl⟩⟩, fun H => .int⟩
    · exact ⟨V.int 3, ⟨_, _, _, l_ENTRIES, kl_ENTRIES, e_ENTRIES_cap, ⟨_, rfl⟩⟩, fun H => .int⟩
    · exact ⟨V.int 3, ⟨_, _, _, l_ENTRIES, kl_ENTRIES, e_ENTRIES_jump, ⟨_, rfl⟩⟩, fun H => .int⟩
    · exact ⟨V.int 3, ⟨_, _, _, l_ENTRIES, kl_ENTRIES, e_ENTRIES_set, ⟨_, rfl⟩⟩, fun H => .int⟩
    · exact ⟨V.int 4, ⟨_, _, _, l_ENTRIES, kl_ENTRIES, e_ENTRIES_upto, ⟨_, rfl⟩⟩, fun H => .int⟩
    · exact ⟨V.int 3, ⟨_, _, _, l_ENTRIES, kl_ENTRIES, e_ENTRIES_skip, ⟨_, rfl⟩⟩, fun H => .int⟩
    · exact ⟨V.int 1, ⟨_, _, _, l_ENTRIES, kl_ENTRIES, e_ENTRIES_cut, ⟨_, rfl⟩⟩, fun H => .int⟩
    · exact ⟨V.int 1, ⟨_, _, _, l_ENTRIES, kl_ENTRIES, e_ENTRIES_refuse, ⟨_, rfl⟩⟩, fun H => .int⟩
  have kl_BOUNDS := He.keysLit_of y_BOUNDS
  have vv_BOUNDS : ∀ x d, (x, d) ∈ tab_BOUNDS → ∃ v, KDct K w A_BOUNDS x v ∧ ∀ H, Da.Rep K H v d := by
    intro x d hx
    simp only [tab_BOUNDS, List.mem_cons, List.not_mem_nil, or_false, Prod.mk.injEq] at hx
    rcases hx with ⟨rfl, rfl⟩ | ⟨rfl, rfl⟩ | ⟨rfl, rfl⟩ | ⟨rfl, rfl⟩ | ⟨rfl, rfl⟩ | ⟨rfl, rfl⟩
    · exact ⟨.ref A_BOUNDS_rest, ⟨_, _, _, l_BOUNDS, kl_BOUNDS, e_BOUNDS_rest, rfl⟩, fun H => Da.Rep.tup (xs := [V.int 2, V.int 4]) (.inr ⟨_, _, _, u_BOUNDS_rest, rfl, rfl, (by show 2 ≤ sizeLine; decide), (.cons ⟨_, rfl⟩ (.cons ⟨_, rfl⟩ .nil))⟩) (.cons .int (.cons .int .nil)) (by show 2 ≤ sizeLine; decide)⟩
    · exact ⟨.ref A_BOUNDS_cap, ⟨_, _, _, l_BOUNDS, kl_BOUNDS, e_BOUNDS_cap, rfl⟩, fun H => Da.Rep.tup (xs := [V.int 0, V.int 5]) (.inr ⟨_, _, _, u_BOUNDS_cap, rfl, rfl, (by show 2 ≤ sizeLine; decide), (.cons ⟨_, rfl⟩ (.cons ⟨_, rfl⟩ .nil))⟩) (.cons .int (.cons .int .nil)) (by show 2 ≤ sizeLine; decide)⟩
    · exact ⟨.ref A_BOUNDS_jump, ⟨_, _, _, l_BOUNDS, kl_BOUNDS, e_BOUNDS_jump, rfl⟩, fun H => Da.Rep.tup (xs := [V.int 1, V.int 4]) (.inr ⟨_, _, _, u_BOUNDS_jump, rfl, rfl, (by show 2 ≤ sizeLine; decide), (.cons ⟨_, rfl⟩ (.cons ⟨_, rfl⟩ .nil))⟩) (.cons .int (.cons .int .nil)) (by show 2 ≤ sizeLine; decide)⟩
    · exact ⟨.ref A_BOUNDS_set, ⟨_, _, _, l_BOUNDS, kl_BOUNDS, e_BOUNDS_set, rfl⟩, fun H => Da.Rep.tup (xs := [V.int 0, V.int 5]) (.inr ⟨_, _, _, u_BOUNDS_set, rfl, rfl, (by show 2 ≤ sizeLine; decide), (.cons ⟨_, rfl⟩ (.cons ⟨_, rfl⟩ .nil))⟩) (.cons .int (.cons .int .nil)) (by show 2 ≤ sizeLine; decide)⟩
    · exact ⟨.ref A_BOUNDS_upto, ⟨_, _, _, l_BOUNDS, kl_BOUNDS, e_BOUNDS_upto, rfl⟩, fun H => Da.Rep.tup (xs := [V.int 0, V.int 5]) (.inr ⟨_, _, _, u_BOUNDS_upto, rfl, rfl, (by show 2 ≤ sizeLine; decide), (.cons ⟨_, rfl⟩ (.cons ⟨_, rfl⟩ .nil))⟩) (.cons .int (.cons .int .nil)) (by show 2 ≤ sizeLine; decide)⟩
    · exact ⟨.ref A_BOUNDS_skip, ⟨_, _, _, l_BOUNDS, kl_BOUNDS, e_BOUNDS_skip, rfl⟩, fun H => Da.Rep.tup (xs := [V.int (-3), V.int 4]) (.inr ⟨_, _, _, u_BOUNDS_skip, rfl, rfl, (by show 2 ≤ sizeLine; decide), (.cons ⟨_, rfl⟩ (.cons ⟨_, rfl⟩ .nil))⟩) (.cons .int (.cons .int .nil)) (by show 2 ≤ sizeLine; decide)⟩
  have oo_BOUNDS : ∀ x, x ∈ (["case", "take", "cut", "refuse"] : List Str) → PySem.W.nsIn K A_BOUNDS x = some none := by
    intro x hx
    simp only [List.mem_cons, List.not_mem_nil, or_false] at hx
    rcases hx with rfl | rfl | rfl | rfl
    · exact o_BOUNDS_case
    · exact o_BOUNDS_take
    · exact o_BOUNDS_cut
    · exact o_BOUNDS_refuse
  have FR_Row___init : FunD K "__init__" "Row.__init__" (defArgs s_Row___init) (defBody s_Row___init) (defScope s_Row___init) [.ref A_eRow___init] [] f_Row___init _ := ⟨⟨_, _, _, _, _, _, _, _, _, _, rfl, l_Row___init, c_Row___init, .inr ⟨by simp, A_dRow___init, _, [.ref A_eRow___init], _, rfl, u_dRow___init, rfl, .cons rfl .nil⟩, .inl rfl⟩, k_Row___init⟩
  obtain ⟨ds0_Row___init, vR0_Row___init, bR0_Row___init⟩ := FR_Row___init.binds1 (ps := ["self", "cells"]) 2 1 (by simp) rfl (fun _ _ _ _ _ _ _ us its h1 h2 => match us, h1, its, h2 with | [_, _], _, [_], _ => ⟨_, rfl, rfl⟩)
  have e0_Row___init : ds0_Row___init = [] := by cases vR0_Row___init; rfl
  subst e0_Row___init
  obtain ⟨ds1_Row___init, vR1_Row___init, bR1_Row___init⟩ := FR_Row___init.binds1 (ps := ["self", "cells"]) 1 0 (by simp) rfl (fun _ _ _ _ _ _ _ us its h1 h2 => match us, h1, its, h2 with | [_], _, [_], _ => ⟨_, rfl, rfl⟩)
  obtain ⟨u1_Row___init, e1_Row___init, r1_Row___init⟩ := Da.vals_one vR1_Row___init
  subst e1_Row___init
  let T : Tx w K mg := {
    f_is_name := f_is_name,
    d_is_name := _,
    F_is_name := fun_mk (st := s_is_name) l_is_name c_is_name k_is_name,
    b_is_name := (fun_mk (st := s_is_name) l_is_name c_is_name k_is_name).binds (ps := ["text"]) fun _ _ _ _ _ _ us hl => match us, hl with | [_], _ => rfl,
    m_is_name := PySem.W.mg_of X G a_is_name,
    f_within := f_within,
    d_within := _,
    F_within := fun_mk (st := s_within) l_within c_within k_within,
    b_within := (fun_mk (st := s_within) l_within c_within k_within).binds (ps := ["number", "bounds"]) fun _ _ _ _ _ _ us hl => match us, hl with | [_, _], _ => rfl,
    m_within := PySem.W.mg_of X G a_within,
    f_are_ways := f_are_ways,
    d_are_ways := _,
    F_are_ways := fun_mk (st := s_are_ways) l_are_ways c_are_ways k_are_ways,
    b_are_ways := (fun_mk (st := s_are_ways) l_are_ways c_are_ways k_are_ways).binds (ps := ["ways"]) fun _ _ _ _ _ _ us hl => match us, hl with | [_], _ => rfl,
    m_are_ways := PySem.W.mg_of X G a_are_ways,
    f_has_form := f_has_form,
    d_has_form := _,
    F_has_form := fun_mk (st := s_has_form) l_has_form c_has_form k_has_form,
    b_has_form := (fun_mk (st := s_has_form) l_has_form c_has_form k_has_form).binds (ps := ["line"]) fun _ _ _ _ _ _ us hl => match us, hl with | [_], _ => rfl,
    m_has_form := PySem.W.mg_of X G a_has_form,
    f_frozen := f_frozen,
    d_frozen := _,
    F_frozen := fun_mk (st := s_frozen) l_frozen c_frozen k_frozen,
    b_frozen := (fun_mk (st := s_frozen) l_frozen c_frozen k_frozen).binds (ps := ["line"]) fun _ _ _ _ _ _ us hl => match us, hl with | [_], _ => rfl,
    m_frozen := PySem.W.mg_of X G a_frozen,
    f_goals := f_goals,
    d_goals := _,
    F_goals := fun_mk (st := s_goals) l_goals c_goals k_goals,
    b_goals := (fun_mk (st := s_goals) l_goals c_goals k_goals).binds (ps := ["line"]) fun _ _ _ _ _ _ us hl => match us, hl with | [_], _ => rfl,
    m_goals := PySem.W.mg_of X G a_goals,
    f_check_forms := f_check_forms,
    d_check_forms := _,
    F_check_forms := fun_mk (st := s_check_forms) l_check_forms c_check_forms k_check_forms,
    b_check_forms := (fun_mk (st := s_check_forms) l_check_forms c_check_forms k_check_forms).binds (ps := ["lines"]) fun _ _ _ _ _ _ us hl => match us, hl with | [_], _ => rfl,
    m_check_forms := PySem.W.mg_of X G a_check_forms,
    f_check_goals := f_check_goals,
    d_check_goals := _,
    F_check_goals := fun_mk (st := s_check_goals) l_check_goals c_check_goals k_check_goals,
    b_check_goals := (fun_mk (st := s_check_goals) l_check_goals c_check_goals k_check_goals).binds (ps := ["lines"]) fun _ _ _ _ _ _ us hl => match us, hl with | [_], _ => rfl,
    m_check_goals := PySem.W.mg_of X G a_check_goals,
    f_silent_ways := f_silent_ways,
    d_silent_ways := _,
    F_silent_ways := fun_mk (st := s_silent_ways) l_silent_ways c_silent_ways k_silent_ways,
    b_silent_ways := (fun_mk (st := s_silent_ways) l_silent_ways c_silent_ways k_silent_ways).binds (ps := ["lines"]) fun _ _ _ _ _ _ us hl => match us, hl with | [_], _ => rfl,
    m_silent_ways := PySem.W.mg_of X G a_silent_ways,
    f_reached := f_reached,
    d_reached := _,
    F_reached := fun_mk (st := s_reached) l_reached c_reached k_reached,
    b_reached := (fun_mk (st := s_reached) l_reached c_reached k_reached).binds (ps := ["ways", "names"]) fun _ _ _ _ _ _ us hl => match us, hl with | [_, _], _ => rfl,
    m_reached := PySem.W.mg_of X G a_reached,
    f_check_rings := f_check_rings,
    d_check_rings := _,
    F_check_rings := fun_mk (st := s_check_rings) l_check_rings c_check_rings k_check_rings,
    b_check_rings := (fun_mk (st := s_check_rings) l_check_rings c_check_rings k_check_rings).binds (ps := ["lines"]) fun _ _ _ _ _ _ us hl => match us, hl with | [_], _ => rfl,
    m_check_rings := PySem.W.mg_of X G a_check_rings,
    f_check_begin := f_check_begin,
    d_check_begin := _,
    F_check_begin := fun_mk (st := s_check_begin) l_check_begin c_check_begin k_check_begin,
    b_check_begin := (fun_mk (st := s_check_begin) l_check_begin c_check_begin k_check_begin).binds (ps := ["lines"]) fun _ _ _ _ _ _ us hl => match us, hl with | [_], _ => rfl,
    m_check_begin := PySem.W.mg_of X G a_check_begin,
    f_length := f_length,
    d_length := _,
    F_length := fun_mk (st := s_length) l_length c_length k_length,
    b_length := (fun_mk (st := s_length) l_length c_length k_length).binds (ps := ["kept", "more"]) fun _ _ _ _ _ _ us hl => match us, hl with | [_, _], _ => rfl,
    m_length := PySem.W.mg_of X G a_length,
    f_is_at_most := f_is_at_most,
    d_is_at_most := _,
    F_is_at_most := fun_mk (st := s_is_at_most) l_is_at_most c_is_at_most k_is_at_most,
    b_is_at_most := (fun_mk (st := s_is_at_most) l_is_at_most c_is_at_most k_is_at_most).binds (ps := ["kept", "number"]) fun _ _ _ _ _ _ us hl => match us, hl with | [_, _], _ => rfl,
    m_is_at_most := PySem.W.mg_of X G a_is_at_most,
    f_way := f_way,
    d_way := _,
    F_way := fun_mk (st := s_way) l_way c_way k_way,
    b_way := (fun_mk (st := s_way) l_way c_way k_way).binds (ps := ["line", "cell"]) fun _ _ _ _ _ _ us hl => match us, hl with | [_, _], _ => rfl,
    m_way := PySem.W.mg_of X G a_way,
    f_row_of := f_row_of,
    d_row_of := _,
    F_row_of := fun_mk (st := s_row_of) l_row_of c_row_of k_row_of,
    b_row_of := (fun_mk (st := s_row_of) l_row_of c_row_of k_row_of).binds (ps := ["row"]) fun _ _ _ _ _ _ us hl => match us, hl with | [_], _ => rfl,
    m_row_of := PySem.W.mg_of X G a_row_of,
    f_short_row_of := f_short_row_of,
    d_short_row_of := _,
    F_short_row_of := fun_mk (st := s_short_row_of) l_short_row_of c_short_row_of k_short_row_of,
    b_short_row_of := (fun_mk (st := s_short_row_of) l_short_row_of c_short_row_of k_short_row_of).binds (ps := ["row"]) fun _ _ _ _ _ _ us hl => match us, hl with | [_], _ => rfl,
    m_short_row_of := PySem.W.mg_of X G a_short_row_of,
    f_joined := f_joined,
    d_joined := _,
    F_joined := fun_mk (st := s_joined) l_joined c_joined k_joined,
    b_joined := (fun_mk (st := s_joined) l_joined c_joined k_joined).binds (ps := ["pairs"]) fun _ _ _ _ _ _ us hl => match us, hl with | [_], _ => rfl,
    m_joined := PySem.W.mg_of X G a_joined,
    f_run := f_run,
    d_run := _,
    F_run := fun_mk (st := s_run) l_run c_run k_run,
    b_run := (fun_mk (st := s_run) l_run c_run k_run).binds (ps := ["reader", "row"]) fun _ _ _ _ _ _ us hl => match us, hl with | [_, _], _ => rfl,
    m_run := PySem.W.mg_of X G a_run,
    f_cuts := f_cuts,
    d_cuts := _,
    F_cuts := fun_mk (st := s_cuts) l_cuts c_cuts k_cuts,
    b_cuts := (fun_mk (st := s_cuts) l_cuts c_cuts k_cuts).binds (ps := ["reader", "row"]) fun _ _ _ _ _ _ us hl => match us, hl with | [_, _], _ => rfl,
    m_cuts := PySem.W.mg_of X G a_cuts,
    f_shown := f_shown,
    d_shown := _,
    F_shown := fun_mk (st := s_shown) l_shown c_shown k_shown,
    b_shown := (fun_mk (st := s_shown) l_shown c_shown k_shown).binds (ps := ["machine", "row"]) fun _ _ _ _ _ _ us hl => match us, hl with | [_, _], _ => rfl,
    m_shown := PySem.W.mg_of X G a_shown,
    f_course_begun := f_course_begun,
    d_course_begun := _,
    F_course_begun := fun_mk (st := s_course_begun) l_course_begun c_course_begun k_course_begun,
    b_course_begun := (fun_mk (st := s_course_begun) l_course_begun c_course_begun k_course_begun).binds (ps := ["machine"]) fun _ _ _ _ _ _ us hl => match us, hl with | [_], _ => rfl,
    m_course_begun := PySem.W.mg_of X G a_course_begun,
    f_course_over := f_course_over,
    d_course_over := _,
    F_course_over := fun_mk (st := s_course_over) l_course_over c_course_over k_course_over,
    b_course_over := (fun_mk (st := s_course_over) l_course_over c_course_over k_course_over).binds (ps := ["machine", "course", "row"]) fun _ _ _ _ _ _ us hl => match us, hl with | [_, _, _], _ => rfl,
    m_course_over := PySem.W.mg_of X G a_course_over,
    f_told_of := f_told_of,
    d_told_of := _,
    F_told_of := fun_mk (st := s_told_of) l_told_of c_told_of k_told_of,
    b_told_of := (fun_mk (st := s_told_of) l_told_of c_told_of k_told_of).binds (ps := ["course"]) fun _ _ _ _ _ _ us hl => match us, hl with | [_], _ => rfl,
    m_told_of := PySem.W.mg_of X G a_told_of,
    f_over_run := f_over_run,
    d_over_run := _,
    F_over_run := fun_mk (st := s_over_run) l_over_run c_over_run k_over_run,
    b_over_run := (fun_mk (st := s_over_run) l_over_run c_over_run k_over_run).binds (ps := ["machine", "course", "count", "cell"]) fun _ _ _ _ _ _ us hl => match us, hl with | [_, _, _, _], _ => rfl,
    m_over_run := PySem.W.mg_of X G a_over_run,
    f_law_draw := f_law_draw,
    d_law_draw := _,
    F_law_draw := fun_mk (st := s_law_draw) l_law_draw c_law_draw k_law_draw,
    b_law_draw := (fun_mk (st := s_law_draw) l_law_draw c_law_draw k_law_draw).binds (ps := ["_law_pen", "_law_many"]) fun _ _ _ _ _ _ us hl => match us, hl with | [_, _], _ => rfl,
    m_law_draw := PySem.W.mg_of X G a_law_draw,
    f_law_pick := f_law_pick,
    d_law_pick := _,
    F_law_pick := fun_mk (st := s_law_pick) l_law_pick c_law_pick k_law_pick,
    b_law_pick := (fun_mk (st := s_law_pick) l_law_pick c_law_pick k_law_pick).binds (ps := ["_law_pen", "_law_row"]) fun _ _ _ _ _ _ us hl => match us, hl with | [_, _], _ => rfl,
    m_law_pick := PySem.W.mg_of X G a_law_pick,
    f_law_word := f_law_word,
    d_law_word := _,
    F_law_word := fun_mk (st := s_law_word) l_law_word c_law_word k_law_word,
    b_law_word := (fun_mk (st := s_law_word) l_law_word c_law_word k_law_word).binds (ps := ["_law_pen", "_law_most"]) fun _ _ _ _ _ _ us hl => match us, hl with | [_, _], _ => rfl,
    m_law_word := PySem.W.mg_of X G a_law_word,
    f_law_names := f_law_names,
    d_law_names := _,
    F_law_names := fun_mk (st := s_law_names) l_law_names c_law_names k_law_names,
    b_law_names := (fun_mk (st := s_law_names) l_law_names c_law_names k_law_names).binds (ps := ["_law_pen", "_law_many"]) fun _ _ _ _ _ _ us hl => match us, hl with | [_, _], _ => rfl,
    m_law_names := PySem.W.mg_of X G a_law_names,
    f_law_words := f_law_words,
    d_law_words := _,
    F_law_words := fun_mk (st := s_law_words) l_law_words c_law_words k_law_words,
    b_law_words := (fun_mk (st := s_law_words) l_law_words c_law_words k_law_words).binds (ps := ["_law_pen", "_law_many"]) fun _ _ _ _ _ _ us hl => match us, hl with | [_, _], _ => rfl,
    m_law_words := PySem.W.mg_of X G a_law_words,
    f_law_goal := f_law_goal,
    d_law_goal := _,
    F_law_goal := fun_mk (st := s_law_goal) l_law_goal c_law_goal k_law_goal,
    b_law_goal := (fun_mk (st := s_law_goal) l_law_goal c_law_goal k_law_goal).binds (ps := ["_law_pen", "_law_words_here", "_law_at"]) fun _ _ _ _ _ _ us hl => match us, hl with | [_, _, _], _ => rfl,
    m_law_goal := PySem.W.mg_of X G a_law_goal,
    f_law_ways := f_law_ways,
    d_law_ways := _,
    F_law_ways := fun_mk (st := s_law_ways) l_law_ways c_law_ways k_law_ways,
    b_law_ways := (fun_mk (st := s_law_ways) l_law_ways c_law_ways k_law_ways).binds (ps := ["_law_pen", "_law_names_here", "_law_words_here", "_law_at"]) fun _ _ _ _ _ _ us hl => match us, hl with | [_, _, _, _], _ => rfl,
    m_law_ways := PySem.W.mg_of X G a_law_ways,
    f_law_line := f_law_line,
    d_law_line := _,
    F_law_line := fun_mk (st := s_law_line) l_law_line c_law_line k_law_line,
    b_law_line := (fun_mk (st := s_law_line) l_law_line c_law_line k_law_line).binds (ps := ["_law_pen", "_law_names_here", "_law_words_here", "_law_at"]) fun _ _ _ _ _ _ us hl => match us, hl with | [_, _, _, _], _ => rfl,
    m_law_line := PySem.W.mg_of X G a_law_line,
    f_law_lines := f_law_lines,
    d_law_lines := _,
    F_law_lines := fun_mk (st := s_law_lines) l_law_lines c_law_lines k_law_lines,
    b_law_lines := (fun_mk (st := s_law_lines) l_law_lines c_law_lines k_law_lines).binds (ps := ["_law_pen", "_law_most"]) fun _ _ _ _ _ _ us hl => match us, hl with | [_, _], _ => rfl,
    m_law_lines := PySem.W.mg_of X G a_law_lines,
    f_law_settle := f_law_settle,
    d_law_settle := _,
    F_law_settle := fun_mk (st := s_law_settle) l_law_settle c_law_settle k_law_settle,
    b_law_settle := (fun_mk (st := s_law_settle) l_law_settle c_law_settle k_law_settle).binds (ps := ["_law_book", "_law_name", "_law_kept"]) fun _ _ _ _ _ _ us hl => match us, hl with | [_, _, _], _ => rfl,
    m_law_settle := PySem.W.mg_of X G a_law_settle,
    f_law_step := f_law_step,
    d_law_step := _,
    F_law_step := fun_mk (st := s_law_step) l_law_step c_law_step k_law_step,
    b_law_step := (fun_mk (st := s_law_step) l_law_step c_law_step k_law_step).binds (ps := ["_law_book", "_law_state", "_law_cell"]) fun _ _ _ _ _ _ us hl => match us, hl with | [_, _, _], _ => rfl,
    m_law_step := PySem.W.mg_of X G a_law_step,
    f_law_walk := f_law_walk,
    d_law_walk := _,
    F_law_walk := fun_mk (st := s_law_walk) l_law_walk c_law_walk k_law_walk,
    b_law_walk := (fun_mk (st := s_law_walk) l_law_walk c_law_walk k_law_walk).binds (ps := ["_law_lines_here", "_law_cells"]) fun _ _ _ _ _ _ us hl => match us, hl with | [_, _], _ => rfl,
    m_law_walk := PySem.W.mg_of X G a_law_walk,
    f_law_due := f_law_due,
    d_law_due := _,
    F_law_due := fun_mk (st := s_law_due) l_law_due c_law_due k_law_due,
    b_law_due := (fun_mk (st := s_law_due) l_law_due c_law_due k_law_due).binds (ps := ["_law_found"]) fun _ _ _ _ _ _ us hl => match us, hl with | [_], _ => rfl,
    m_law_due := PySem.W.mg_of X G a_law_due,
    f_law_told := f_law_told,
    d_law_told := _,
    F_law_told := fun_mk (st := s_law_told) l_law_told c_law_told k_law_told,
    b_law_told := (fun_mk (st := s_law_told) l_law_told c_law_told k_law_told).binds (ps := ["_law_told_here"]) fun _ _ _ _ _ _ us hl => match us, hl with | [_], _ => rfl,
    m_law_told := PySem.W.mg_of X G a_law_told,
    f_law_led := f_law_led,
    d_law_led := _,
    F_law_led := fun_mk (st := s_law_led) l_law_led c_law_led k_law_led,
    b_law_led := (fun_mk (st := s_law_led) l_law_led c_law_led k_law_led).binds (ps := ["_law_pen", "_law_lines_here", "_law_many"]) fun _ _ _ _ _ _ us hl => match us, hl with | [_, _, _], _ => rfl,
    m_law_led := PySem.W.mg_of X G a_law_led,
    z_int := PySem.W.mg_none_of X G z_int,
    z_len := PySem.W.mg_none_of X G z_len,
    z_max := PySem.W.mg_none_of X G z_max,
    z_min := PySem.W.mg_none_of X G z_min,
    z_range := PySem.W.mg_none_of X G z_range,
    z_list := PySem.W.mg_none_of X G z_list,
    z_all := PySem.W.mg_none_of X G z_all,
    z_tuple := PySem.W.mg_none_of X G z_tuple,
    z_enumerate := PySem.W.mg_none_of X G z_enumerate,
    z_isinstance := PySem.W.mg_none_of X G z_isinstance,
    z_sum := PySem.W.mg_none_of X G z_sum,
    z_str := PySem.W.mg_none_of X G z_str,
    t_MOST_LINES := t_MOST_LINES,
    m_MOST_LINES := PySem.W.mg_of X G m_MOST_LINES,
    t_MOST_LETTERS := t_MOST_LETTERS,
    m_MOST_LETTERS := PySem.W.mg_of X G m_MOST_LETTERS,
    t_LETTERS := t_LETTERS,
    m_LETTERS := PySem.W.mg_of X G m_LETTERS,
    a_ENTRIES := A_ENTRIES,
    es_ENTRIES := _,
    n_ENTRIES := _,
    m_ENTRIES := PySem.W.mg_of X G g_ENTRIES,
    kd_ENTRIES := ⟨l_ENTRIES, kl_ENTRIES, w_ENTRIES⟩,
    v_ENTRIES := vv_ENTRIES,
    a_BOUNDS := A_BOUNDS,
    es_BOUNDS := _,
    n_BOUNDS := _,
    m_BOUNDS := PySem.W.mg_of X G g_BOUNDS,
    kd_BOUNDS := ⟨l_BOUNDS, kl_BOUNDS, w_BOUNDS⟩,
    v_BOUNDS := vv_BOUNDS,
    o_BOUNDS := oo_BOUNDS,
    a_VALUES := A_VALUES,
    m_VALUES := PySem.W.mg_of X G g_VALUES,
    q_VALUES := fun H => Da.Rep.tup (xs := [V.int 0, V.int 5]) (.inr ⟨_, _, _, u_VALUES, rfl, rfl, (by show 2 ≤ sizeLine; decide), (.cons ⟨_, rfl⟩ (.cons ⟨_, rfl⟩ .nil))⟩) (.cons .int (.cons .int .nil)) (by show 2 ≤ sizeLine; decide),
    a_READING := A_READING,
    m_READING := PySem.W.mg_of X G g_READING,
    q_READING := fun H => Da.Rep.tup (xs := [V.str "case", V.str "take", V.str "rest", V.str "cap", V.str "jump"]) (.inr ⟨_, _, _, u_READING, rfl, rfl, (by show 5 ≤ sizeLine; decide), (.cons ⟨_, rfl⟩ (.cons ⟨_, rfl⟩ (.cons ⟨_, rfl⟩ (.cons ⟨_, rfl⟩ (.cons ⟨_, rfl⟩ .nil)))))⟩) (.cons .str (.cons .str (.cons .str (.cons .str (.cons .str .nil))))) (by show 5 ≤ sizeLine; decide),
    a_NEVER_FIRST := A_NEVER_FIRST,
    m_NEVER_FIRST := PySem.W.mg_of X G g_NEVER_FIRST,
    q_NEVER_FIRST := fun H => Da.Rep.tup (xs := [V.str "cut", V.str "skip", V.str "refuse"]) (.inr ⟨_, _, _, u_NEVER_FIRST, rfl, rfl, (by show 3 ≤ sizeLine; decide), (.cons ⟨_, rfl⟩ (.cons ⟨_, rfl⟩ (.cons ⟨_, rfl⟩ .nil)))⟩) (.cons .str (.cons .str (.cons .str .nil))) (by show 3 ≤ sizeLine; decide),
    t_CUT := t_CUT,
    m_CUT := PySem.W.mg_of X G m_CUT,
    t_REFUSE := t_REFUSE,
    m_REFUSE := PySem.W.mg_of X G m_REFUSE,
    t_MOST_RUNS := t_MOST_RUNS,
    m_MOST_RUNS := PySem.W.mg_of X G m_MOST_RUNS,
    t_MOST_CELLS := t_MOST_CELLS,
    m_MOST_CELLS := PySem.W.mg_of X G m_MOST_CELLS,
    c_Reader := C_Reader,
    m_Reader := PySem.W.mg_of X G g_Reader,
    cl_Reader := ⟨pg_Reader, hd_Reader, po_Reader, sa_Reader⟩,
    ob_Reader := ⟨fun h => .base (.ins h ⟨pg_Reader, hd_Reader, po_Reader, sa_Reader⟩ ca_Reader sp tk mo_Reader)⟩,
    n_Reader_lines := n_Reader_lines,
    f_Reader___init := f_Reader___init,
    d_Reader___init := _,
    F_Reader___init := fun_mk (st := s_Reader___init) l_Reader___init c_Reader___init k_Reader___init,
    b_Reader___init := (fun_mk (st := s_Reader___init) l_Reader___init c_Reader___init k_Reader___init).binds (ps := ["self", "lines"]) fun _ _ _ _ _ _ us hl => match us, hl with | [_, _], _ => rfl,
    mk_Reader := ⟨mk_Reader, a_Reader___init, i_Reader___init, kc_Reader⟩,
    c_Machine := C_Machine,
    m_Machine := PySem.W.mg_of X G g_Machine,
    cl_Machine := ⟨pg_Machine, hd_Machine, po_Machine, sa_Machine⟩,
    ob_Machine := ⟨fun h => .base (.ins h ⟨pg_Machine, hd_Machine, po_Machine, sa_Machine⟩ ca_Machine sp tk mo_Machine)⟩,
    n_Machine_lines := n_Machine_lines,
    n_Machine_first := n_Machine_first,
    n_Machine_begin := n_Machine_begin,
    f_Machine___init := f_Machine___init,
    d_Machine___init := _,
    F_Machine___init := fun_mk (st := s_Machine___init) l_Machine___init c_Machine___init k_Machine___init,
    b_Machine___init := (fun_mk (st := s_Machine___init) l_Machine___init c_Machine___init k_Machine___init).binds (ps := ["self", "reader"]) fun _ _ _ _ _ _ us hl => match us, hl with | [_, _], _ => rfl,
    mk_Machine := ⟨mk_Machine, a_Machine___init, i_Machine___init, kc_Machine⟩,
    f_Machine_come := f_Machine_come,
    d_Machine_come := _,
    F_Machine_come := fun_mk (st := s_Machine_come) l_Machine_come c_Machine_come k_Machine_come,
    b_Machine_come := (fun_mk (st := s_Machine_come) l_Machine_come c_Machine_come k_Machine_come).binds (ps := ["self", "name", "kept"]) fun _ _ _ _ _ _ us hl => match us, hl with | [_, _, _], _ => rfl,
    h_Machine_come := ⟨a_Machine_come, i_Machine_come, k_Machine_come⟩,
    f_Machine_behind := f_Machine_behind,
    d_Machine_behind := _,
    F_Machine_behind := fun_mk (st := s_Machine_behind) l_Machine_behind c_Machine_behind k_Machine_behind,
    b_Machine_behind := (fun_mk (st := s_Machine_behind) l_Machine_behind c_Machine_behind k_Machine_behind).binds (ps := ["self", "stand", "cell", "taken"]) fun _ _ _ _ _ _ us hl => match us, hl with | [_, _, _, _], _ => rfl,
    h_Machine_behind := ⟨a_Machine_behind, i_Machine_behind, k_Machine_behind⟩,
    f_Machine_ahead := f_Machine_ahead,
    d_Machine_ahead := _,
    F_Machine_ahead := fun_mk (st := s_Machine_ahead) l_Machine_ahead c_Machine_ahead k_Machine_ahead,
    b_Machine_ahead := (fun_mk (st := s_Machine_ahead) l_Machine_ahead c_Machine_ahead k_Machine_ahead).binds (ps := ["self", "stand", "cell", "count"]) fun _ _ _ _ _ _ us hl => match us, hl with | [_, _, _, _], _ => rfl,
    h_Machine_ahead := ⟨a_Machine_ahead, i_Machine_ahead, k_Machine_ahead⟩,
    c_Row := C_Row,
    m_Row := PySem.W.mg_of X G g_Row,
    cl_Row := ⟨pg_Row, hd_Row, po_Row, sa_Row⟩,
    ob_Row := ⟨fun h => .base (.ins h ⟨pg_Row, hd_Row, po_Row, sa_Row⟩ ca_Row sp tk mo_Row)⟩,
    n_Row_runs := n_Row_runs,
    f_Row___init := f_Row___init,
    d_Row___init := _,
    dd_Row___init := .ref A_eRow___init,
    F_Row___init := FR_Row___init,
    b_Row___init := bR0_Row___init,
    du_Row___init := u1_Row___init,
    bd_Row___init := bR1_Row___init,
    vd_Row___init := .cons r1_Row___init .nil,
    df_Row___init := fun H => .tup (.inr ⟨_, _, _, u_eRow___init, rfl, rfl, (by show 0 ≤ sizeLine; decide), .nil⟩) .nil (by show 0 ≤ sizeLine; decide),
    mk_Row := ⟨mk_Row, a_Row___init, i_Row___init, kc_Row⟩,
    f_Row_of_runs := f_Row_of_runs,
    d_Row_of_runs := _,
    F_Row_of_runs := fun_mk (st := s_Row_of_runs) l_Row_of_runs c_Row_of_runs k_Row_of_runs,
    b_Row_of_runs := (fun_mk (st := s_Row_of_runs) l_Row_of_runs c_Row_of_runs k_Row_of_runs).binds (ps := ["runs"]) fun _ _ _ _ _ _ us hl => match us, hl with | [_], _ => rfl,
    sc_Row_of_runs := .type "type",
    p_Row_of_runs := A_Row_of_runs,
    h_Row_of_runs := ⟨sr_Row_of_runs, sg_Row_of_runs, sb_Row_of_runs, ⟨_, sc_Row_of_runs⟩, k_Row_of_runs⟩,
    f_Row_size := f_Row_size,
    d_Row_size := _,
    F_Row_size := fun_mk (st := s_Row_size) l_Row_size c_Row_size k_Row_size,
    b_Row_size := (fun_mk (st := s_Row_size) l_Row_size c_Row_size k_Row_size).binds (ps := ["self"]) fun _ _ _ _ _ _ us hl => match us, hl with | [_], _ => rfl,
    p_Row_size := A_Row_size,
    h_Row_size := ⟨pa_Row_size, pg_Row_size, pt_Row_size, ⟨_, pr_Row_size⟩⟩,
    f_Row___mul := f_Row___mul,
    d_Row___mul := _,
    F_Row___mul := fun_mk (st := s_Row___mul) l_Row___mul c_Row___mul k_Row___mul,
    b_Row___mul := (fun_mk (st := s_Row___mul) l_Row___mul c_Row___mul k_Row___mul).binds (ps := ["self", "times"]) fun _ _ _ _ _ _ us hl => match us, hl with | [_, _], _ => rfl,
    hs_Row___mul := a_Row___mul,
    hf_Row___mul := i_Row___mul,
    c_Told := C_Told,
    m_Told := PySem.W.mg_of X G g_Told,
    cl_Told := ⟨pg_Told, hd_Told, po_Told, sa_Told⟩,
    ob_Told := ⟨fun h => .base (.ins h ⟨pg_Told, hd_Told, po_Told, sa_Told⟩ ca_Told sp tk mo_Told)⟩,
    n_Told_many := n_Told_many,
    n_Told_last := n_Told_last,
    n_Told_refused := n_Told_refused,
    n_Told_inside := n_Told_inside,
    n_Told_line := n_Told_line,
    n_Told_kept := n_Told_kept,
    n_Told_left := n_Told_left,
    f_Told___init := f_Told___init,
    d_Told___init := _,
    F_Told___init := fun_mk (st := s_Told___init) l_Told___init c_Told___init k_Told___init,
    b_Told___init := (fun_mk (st := s_Told___init) l_Told___init c_Told___init k_Told___init).binds (ps := ["self", "many", "last", "refused", "inside", "line", "kept", "left"]) fun _ _ _ _ _ _ us hl => match us, hl with | [_, _, _, _, _, _, _, _], _ => rfl,
    mk_Told := ⟨mk_Told, a_Told___init, i_Told___init, kc_Told⟩,
    kit_int_int := kit_int_int,
    kit_int_str := kit_int_str,
    kit_NoneType_int := kit_NoneType_int,
    kit_list_list := kit_list_list,
    kit_Row_Row := kit_Row_Row,
    kit_list_Row := kit_list_Row,
    kit_tuple_Row := kit_tuple_Row,
    kit_Told_Told := kit_Told_Told,
    kit_tuple_Told := kit_tuple_Told,
    rm_Row := rm_Row,
    sf_Row := sf_Row,
    nt_Told := nt_Told }
  exact ⟨PySem.W.fnOf "law" "law" (defArgs s_law) (defBody s_law) (defScope s_law) .none kV_law dc_law pm_law an_law cd_law ct_law, fun s v => .of_eq rfl, fun base _ _ => ok_law T (fun_mk (st := s_law) l_law c_law k_law)⟩
theorem walk {l : PySem.W.OpenLaw} {q : Program} {loose : List Str} {XP : (Str → Option Value) → Heap → Prop} {YP : World → Heap → Prop} {d : DefRec} {K : Params → PySem.W.Frag} (hn : l.most = some 63) (hdf : d.params.defaults = [])
    (hY : ∀ (w : World) (h : Heap), YP w h → (K w.params).In h)
    (F : ∀ (w : World) (mg : Str → Option Value) (fa : Addr) (h : Heap), (K w.params).In h → h.Ns mainGlobals mg → mg d.name = some (.ref fa) →
      ∃ fd : FuncData, (∀ (s : Shared) (u : Value), BindsTo s fd ⟨[u], []⟩ [("_law_script", u)]) ∧ ∀ base : Heap, (K w.params).In base → base.Ns mainGlobals mg → FnOk l.prog w (K w.params) mg base CX0 11 fa fd ["_law_script"] (spLaw (K w.params))) :
    PySem.W.WalkO q loose XP YP l.row.toRowW d [] (fun f vs => PySem.call f vs) :=
  L2.walk_of (n := 63) (k := 11) (x := "_law_script") (CX := fun _ => CX0) (sp := fun w => spLaw (K w.params)) hn (by decide) hdf ⟨rfl, by decide, by decide⟩ hY F (fun _ _ a ns hl _ hS => ⟨a, ns, rfl, hS, hl, fun _ => rfl⟩) fun _ _ _ _ _ z => z
end Lw

open PySem PySem.W PyProof.Rows in
set_option maxRecDepth 100000 in
set_option maxHeartbeats 0 in
theorem PySem.Challenge.cw_splitalike_k25_whole_rows_rich_in_cuts_holds : PySem.Challenge.rw_splitalike_k25_whole_rows_rich_in_cuts.Holds := by
  w_on; o_law; k_head; (case hw => w_witness2)
  k_fill
  refine Lw.walk (l := PySem.Challenge.rw_splitalike_k25_whole_rows_rich_in_cuts) rfl rfl (fun w h Y => PySem.W.kIn_of Y) ?F
  case F =>
    intro w mg fa h KX G hmg
    refine' Lw.all_mk KX G hmg ?sp ?tk ?g_Reader ?pg_Reader ?hd_Reader ?po_Reader ?sa_Reader ?mk_Reader ?kc_Reader ?ca_Reader ?mo_Reader ?n_Reader_lines ?a_Reader___init ?l_Reader___init ?c_Reader___init ?k_Reader___init ?i_Reader___init ?g_Machine ?pg_Machine ?hd_Machine ?po_Machine ?sa_Machine ?mk_Machine ?kc_Machine ?ca_Machine ?mo_Machine ?n_Machine_lines ?n_Machine_first ?n_Machine_begin ?a_Machine___init ?l_Machine___init ?c_Machine___init ?k_Machine___init ?i_Machine___init ?a_Machine_come ?l_Machine_come ?c_Machine_come ?k_Machine_come ?i_Machine_come ?a_Machine_behind ?l_Machine_behind ?c_Machine_behind ?k_Machine_behind ?i_Machine_behind ?a_Machine_ahead ?l_Machine_ahead ?c_Machine_ahead ?k_Machine_ahead ?i_Machine_ahead ?g_Row ?pg_Row ?hd_Row ?po_Row ?sa_Row ?mk_Row ?kc_Row ?ca_Row ?mo_Row ?n_Row_runs ?a_Row___init ?l_Row___init ?c_Row___init ?k_Row___init ?i_Row___init ?u_dRow___init ?u_eRow___init ?sr_Row_of_runs ?sg_Row_of_runs ?sb_Row_of_runs ?sc_Row_of_runs ?l_Row_of_runs ?c_Row_of_runs ?k_Row_of_runs ?pa_Row_size ?pg_Row_size ?pt_Row_size ?pr_Row_size ?l_Row_size ?c_Row_size ?k_Row_size ?a_Row___mul ?l_Row___mul ?c_Row___mul ?k_Row___mul ?i_Row___mul ?g_Told ?pg_Told ?hd_Told ?po_Told ?sa_Told ?mk_Told ?kc_Told ?ca_Told ?mo_Told ?n_Told_many ?n_Told_last ?n_Told_refused ?n_Told_inside ?n_Told_line ?n_Told_kept ?n_Told_left ?a_Told___init ?l_Told___init ?c_Told___init ?k_Told___init ?i_Told___init ?a_is_name ?l_is_name ?c_is_name ?k_is_name ?a_within ?l_within ?c_within ?k_within ?a_are_ways ?l_are_ways ?c_are_ways ?k_are_ways ?a_has_form ?l_has_form ?c_has_form ?k_has_form ?a_frozen ?l_frozen ?c_frozen ?k_frozen ?a_goals ?l_goals ?c_goals ?k_goals ?a_check_forms ?l_check_forms ?c_check_forms ?k_check_forms ?a_check_goals ?l_check_goals ?c_check_goals ?k_check_goals ?a_silent_ways ?l_silent_ways ?c_silent_ways ?k_silent_ways ?a_reached ?l_reached ?c_reached ?k_reached ?a_check_rings ?l_check_rings ?c_check_rings ?k_check_rings ?a_check_begin ?l_check_begin ?c_check_begin ?k_check_begin ?a_length ?l_length ?c_length ?k_length ?a_is_at_most ?l_is_at_most ?c_is_at_most ?k_is_at_most ?a_way ?l_way ?c_way ?k_way ?a_row_of ?l_row_of ?c_row_of ?k_row_of ?a_short_row_of ?l_short_row_of ?c_short_row_of ?k_short_row_of ?a_joined ?l_joined ?c_joined ?k_joined ?a_run ?l_run ?c_run ?k_run ?a_cuts ?l_cuts ?c_cuts ?k_cuts ?a_shown ?l_shown ?c_shown ?k_shown ?a_course_begun ?l_course_begun ?c_course_begun ?k_course_begun ?a_course_over ?l_course_over ?c_course_over ?k_course_over ?a_told_of ?l_told_of ?c_told_of ?k_told_of ?a_over_run ?l_over_run ?c_over_run ?k_over_run ?a_law_draw ?l_law_draw ?c_law_draw ?k_law_draw ?a_law_pick ?l_law_pick ?c_law_pick ?k_law_pick ?a_law_word ?l_law_word ?c_law_word ?k_law_word ?a_law_names ?l_law_names ?c_law_names ?k_law_names ?a_law_words ?l_law_words ?c_law_words ?k_law_words ?a_law_goal ?l_law_goal ?c_law_goal ?k_law_goal ?a_law_ways ?l_law_ways ?c_law_ways ?k_law_ways ?a_law_line ?l_law_line ?c_law_line ?k_law_line ?a_law_lines ?l_law_lines ?c_law_lines ?k_law_lines ?a_law_settle ?l_law_settle ?c_law_settle ?k_law_settle ?a_law_step ?l_law_step ?c_law_step ?k_law_step ?a_law_walk ?l_law_walk ?c_law_walk ?k_law_walk ?a_law_due ?l_law_due ?c_law_due ?k_law_due ?a_law_told ?l_law_told ?c_law_told ?k_law_told ?a_law_led ?l_law_led ?c_law_led ?k_law_led ?a_law ?l_law ?c_law ?k_law ?z_int ?z_len ?z_max ?z_min ?z_range ?z_list ?z_all ?z_tuple ?z_enumerate ?z_isinstance ?z_sum ?z_str ?m_MOST_LINES ?m_MOST_LETTERS ?m_LETTERS ?g_ENTRIES ?l_ENTRIES ?y_ENTRIES ?w_ENTRIES ?e_ENTRIES_case ?e_ENTRIES_take ?e_ENTRIES_rest ?e_ENTRIES_cap ?e_ENTRIES_jump ?e_ENTRIES_set ?e_ENTRIES_upto ?e_ENTRIES_skip ?e_ENTRIES_cut ?e_ENTRIES_refuse ?g_BOUNDS ?l_BOUNDS ?y_BOUNDS ?w_BOUNDS ?e_BOUNDS_rest ?u_BOUNDS_rest ?e_BOUNDS_cap ?u_BOUNDS_cap ?e_BOUNDS_jump ?u_BOUNDS_jump ?e_BOUNDS_set ?u_BOUNDS_set ?e_BOUNDS_upto ?u_BOUNDS_upto ?e_BOUNDS_skip ?u_BOUNDS_skip ?o_BOUNDS_case ?o_BOUNDS_take ?o_BOUNDS_cut ?o_BOUNDS_refuse ?g_VALUES ?u_VALUES ?g_READING ?u_READING ?g_NEVER_FIRST ?u_NEVER_FIRST ?m_CUT ?m_REFUSE ?m_MOST_RUNS ?m_MOST_CELLS ?kit_int_int ?kit_int_str ?kit_NoneType_int ?kit_list_list ?kit_Row_Row ?kit_list_Row ?kit_tuple_Row ?kit_Told_Told ?kit_tuple_Told ?rm_Row ?sf_Row ?nt_Told
    (case sp => k_is)
    (case tk => k_is)
    (case g_Reader => k_is)
    (case pg_Reader => k_is)
    (case hd_Reader => k_is)
    (case po_Reader => k_is)
    (case sa_Reader => k_is)
    (case mk_Reader => k_is)
    (case kc_Reader => k_is)
    (case ca_Reader => k_is)
    (case mo_Reader => k_is)
    (case n_Reader_lines => k_is)
    (case a_Reader___init => k_is)
    (case l_Reader___init => k_is)
    (case c_Reader___init => k_is)
    (case k_Reader___init => k_is)
    (case i_Reader___init => k_is)
    (case g_Machine => k_is)
    (case pg_Machine => k_is)
    (case hd_Machine => k_is)
    (case po_Machine => k_is)
    (case sa_Machine => k_is)
    (case mk_Machine => k_is)
    (case kc_Machine => k_is)
    (case ca_Machine => k_is)
    (case mo_Machine => k_is)
    (case n_Machine_lines => k_is)
    (case n_Machine_first => k_is)
    (case n_Machine_begin => k_is)
    (case a_Machine___init => k_is)
    (case l_Machine___init => k_is)
    (case c_Machine___init => k_is)
    (case k_Machine___init => k_is)
    (case i_Machine___init => k_is)
    (case a_Machine_come => k_is)
    (case l_Machine_come => k_is)
    (case c_Machine_come => k_is)
    (case k_Machine_come => k_is)
    (case i_Machine_come => k_is)
    (case a_Machine_behind => k_is)
    (case l_Machine_behind => k_is)
    (case c_Machine_behind => k_is)
    (case k_Machine_behind => k_is)
    (case i_Machine_behind => k_is)
    (case a_Machine_ahead => k_is)
    (case l_Machine_ahead => k_is)
    (case c_Machine_ahead => k_is)
    (case k_Machine_ahead => k_is)
    (case i_Machine_ahead => k_is)
    (case g_Row => k_is)
    (case pg_Row => k_is)
    (case hd_Row => k_is)
    (case po_Row => k_is)
    (case sa_Row => k_is)
    (case mk_Row => k_is)
    (case kc_Row => k_is)
    (case ca_Row => k_is)
    (case mo_Row => k_is)
    (case n_Row_runs => k_is)
    (case a_Row___init => k_is)
    (case l_Row___init => k_is)
    (case c_Row___init => k_is)
    (case k_Row___init => k_is)
    (case i_Row___init => k_is)
    (case u_dRow___init => k_is)
    (case u_eRow___init => k_is)
    (case sr_Row_of_runs => k_is)
    (case sg_Row_of_runs => k_is)
    (case sb_Row_of_runs => k_is)
    (case sc_Row_of_runs => k_is)
    (case l_Row_of_runs => k_is)
    (case c_Row_of_runs => k_is)
    (case k_Row_of_runs => k_is)
    (case pa_Row_size => k_is)
    (case pg_Row_size => k_is)
    (case pt_Row_size => k_is)
    (case pr_Row_size => k_is)
    (case l_Row_size => k_is)
    (case c_Row_size => k_is)
    (case k_Row_size => k_is)
    (case a_Row___mul => k_is)
    (case l_Row___mul => k_is)
    (case c_Row___mul => k_is)
    (case k_Row___mul => k_is)
    (case i_Row___mul => k_is)
    (case g_Told => k_is)
    (case pg_Told => k_is)
    (case hd_Told => k_is)
    (case po_Told => k_is)
    (case sa_Told => k_is)
    (case mk_Told => k_is)
    (case kc_Told => k_is)
    (case ca_Told => k_is)
    (case mo_Told => k_is)
    (case n_Told_many => k_is)
    (case n_Told_last => k_is)
    (case n_Told_refused => k_is)
    (case n_Told_inside => k_is)
    (case n_Told_line => k_is)
    (case n_Told_kept => k_is)
    (case n_Told_left => k_is)
    (case a_Told___init => k_is)
    (case l_Told___init => k_is)
    (case c_Told___init => k_is)
    (case k_Told___init => k_is)
    (case i_Told___init => k_is)
    (case a_is_name => k_is)
    (case l_is_name => k_is)
    (case c_is_name => k_is)
    (case k_is_name => k_is)
    (case a_within => k_is)
    (case l_within => k_is)
    (case c_within => k_is)
    (case k_within => k_is)
    (case a_are_ways => k_is)
    (case l_are_ways => k_is)
    (case c_are_ways => k_is)
    (case k_are_ways => k_is)
    (case a_has_form => k_is)
    (case l_has_form => k_is)
    (case c_has_form => k_is)
    (case k_has_form => k_is)
    (case a_frozen => k_is)
    (case l_frozen => k_is)
    (case c_frozen => k_is)
    (case k_frozen => k_is)
    (case a_goals => k_is)
    (case l_goals => k_is)
    (case c_goals => k_is)
    (case k_goals => k_is)
    (case a_check_forms => k_is)
    (case l_check_forms => k_is)
    (case c_check_forms => k_is)
    (case k_check_forms => k_is)
    (case a_check_goals => k_is)
    (case l_check_goals => k_is)
    (case c_check_goals => k_is)
    (case k_check_goals => k_is)
    (case a_silent_ways => k_is)
    (case l_silent_ways => k_is)
    (case c_silent_ways => k_is)
    (case k_silent_ways => k_is)
    (case a_reached => k_is)
    (case l_reached => k_is)
    (case c_reached => k_is)
    (case k_reached => k_is)
    (case a_check_rings => k_is)
    (case l_check_rings => k_is)
    (case c_check_rings => k_is)
    (case k_check_rings => k_is)
    (case a_check_begin => k_is)
    (case l_check_begin => k_is)
    (case c_check_begin => k_is)
    (case k_check_begin => k_is)
    (case a_length => k_is)
    (case l_length => k_is)
    (case c_length => k_is)
    (case k_length => k_is)
    (case a_is_at_most => k_is)
    (case l_is_at_most => k_is)
    (case c_is_at_most => k_is)
    (case k_is_at_most => k_is)
    (case a_way => k_is)
    (case l_way => k_is)
    (case c_way => k_is)
    (case k_way => k_is)
    (case a_row_of => k_is)
    (case l_row_of => k_is)
    (case c_row_of => k_is)
    (case k_row_of => k_is)
    (case a_short_row_of => k_is)
    (case l_short_row_of => k_is)
    (case c_short_row_of => k_is)
    (case k_short_row_of => k_is)
    (case a_joined => k_is)
    (case l_joined => k_is)
    (case c_joined => k_is)
    (case k_joined => k_is)
    (case a_run => k_is)
    (case l_run => k_is)
    (case c_run => k_is)
    (case k_run => k_is)
    (case a_cuts => k_is)
    (case l_cuts => k_is)
    (case c_cuts => k_is)
    (case k_cuts => k_is)
    (case a_shown => k_is)
    (case l_shown => k_is)
    (case c_shown => k_is)
    (case k_shown => k_is)
    (case a_course_begun => k_is)
    (case l_course_begun => k_is)
    (case c_course_begun => k_is)
    (case k_course_begun => k_is)
    (case a_course_over => k_is)
    (case l_course_over => k_is)
    (case c_course_over => k_is)
    (case k_course_over => k_is)
    (case a_told_of => k_is)
    (case l_told_of => k_is)
    (case c_told_of => k_is)
    (case k_told_of => k_is)
    (case a_over_run => k_is)
    (case l_over_run => k_is)
    (case c_over_run => k_is)
    (case k_over_run => k_is)
    (case a_law_draw => k_is)
    (case l_law_draw => k_is)
    (case c_law_draw => k_is)
    (case k_law_draw => k_is)
    (case a_law_pick => k_is)
    (case l_law_pick => k_is)
    (case c_law_pick => k_is)
    (case k_law_pick => k_is)
    (case a_law_word => k_is)
    (case l_law_word => k_is)
    (case c_law_word => k_is)
    (case k_law_word => k_is)
    (case a_law_names => k_is)
    (case l_law_names => k_is)
    (case c_law_names => k_is)
    (case k_law_names => k_is)
    (case a_law_words => k_is)
    (case l_law_words => k_is)
    (case c_law_words => k_is)
    (case k_law_words => k_is)
    (case a_law_goal => k_is)
    (case l_law_goal => k_is)
    (case c_law_goal => k_is)
    (case k_law_goal => k_is)
    (case a_law_ways => k_is)
    (case l_law_ways => k_is)
    (case c_law_ways => k_is)
    (case k_law_ways => k_is)
    (case a_law_line => k_is)
    (case l_law_line => k_is)
    (case c_law_line => k_is)
    (case k_law_line => k_is)
    (case a_law_lines => k_is)
    (case l_law_lines => k_is)
    (case c_law_lines => k_is)
    (case k_law_lines => k_is)
    (case a_law_settle => k_is)
    (case l_law_settle => k_is)
    (case c_law_settle => k_is)
    (case k_law_settle => k_is)
    (case a_law_step => k_is)
    (case l_law_step => k_is)
    (case c_law_step => k_is)
    (case k_law_step => k_is)
    (case a_law_walk => k_is)
    (case l_law_walk => k_is)
    (case c_law_walk => k_is)
    (case k_law_walk => k_is)
    (case a_law_due => k_is)
    (case l_law_due => k_is)
    (case c_law_due => k_is)
    (case k_law_due => k_is)
    (case a_law_told => k_is)
    (case l_law_told => k_is)
    (case c_law_told => k_is)
    (case k_law_told => k_is)
    (case a_law_led => k_is)
    (case l_law_led => k_is)
    (case c_law_led => k_is)
    (case k_law_led => k_is)
    (case a_law => k_is)
    (case l_law => k_is)
    (case c_law => k_is)
    (case k_law => k_is)
    (case z_int => k_is)
    (case z_len => k_is)
    (case z_max => k_is)
    (case z_min => k_is)
    (case z_range => k_is)
    (case z_list => k_is)
    (case z_all => k_is)
    (case z_tuple => k_is)
    (case z_enumerate => k_is)
    (case z_isinstance => k_is)
    (case z_sum => k_is)
    (case z_str => k_is)
    (case m_MOST_LINES => k_is)
    (case m_MOST_LETTERS => k_is)
    (case m_LETTERS => k_is)
    (case g_ENTRIES => k_is)
    (case l_ENTRIES => k_is)
    (case y_ENTRIES => rfl)
    (case w_ENTRIES => first | rfl | decide +kernel)
    (case e_ENTRIES_case => k_is)
    (case e_ENTRIES_take => k_is)
    (case e_ENTRIES_rest => k_is)
    (case e_ENTRIES_cap => k_is)
    (case e_ENTRIES_jump => k_is)
    (case e_ENTRIES_set => k_is)
    (case e_ENTRIES_upto => k_is)
    (case e_ENTRIES_skip => k_is)
    (case e_ENTRIES_cut => k_is)
    (case e_ENTRIES_refuse => k_is)
    (case g_BOUNDS => k_is)
    (case l_BOUNDS => k_is)
    (case y_BOUNDS => rfl)
    (case w_BOUNDS => first | rfl | decide +kernel)
    (case e_BOUNDS_rest => k_is)
    (case u_BOUNDS_rest => k_is)
    (case e_BOUNDS_cap => k_is)
    (case u_BOUNDS_cap => k_is)
    (case e_BOUNDS_jump => k_is)
    (case u_BOUNDS_jump => k_is)
    (case e_BOUNDS_set => k_is)
    (case u_BOUNDS_set => k_is)
    (case e_BOUNDS_upto => k_is)
    (case u_BOUNDS_upto => k_is)
    (case e_BOUNDS_skip => k_is)
    (case u_BOUNDS_skip => k_is)
    (case o_BOUNDS_case => k_is)
    (case o_BOUNDS_take => k_is)
    (case o_BOUNDS_cut => k_is)
    (case o_BOUNDS_refuse => k_is)
    (case g_VALUES => k_is)
    (case u_VALUES => k_is)
    (case g_READING => k_is)
    (case u_READING => k_is)
    (case g_NEVER_FIRST => k_is)
    (case u_NEVER_FIRST => k_is)
    (case m_CUT => k_is)
    (case m_REFUSE => k_is)
    (case m_MOST_RUNS => k_is)
    (case m_MOST_CELLS => k_is)
    (case kit_int_int => exact of_decide_eq_true (by kernel_rfl))
    (case kit_int_str => exact of_decide_eq_true (by kernel_rfl))
    (case kit_NoneType_int => exact of_decide_eq_true (by kernel_rfl))
    (case kit_list_list => exact of_decide_eq_true (by kernel_rfl))
    (case kit_Row_Row => exact of_decide_eq_true (by kernel_rfl))
    (case kit_list_Row => exact of_decide_eq_true (by kernel_rfl))
    (case kit_tuple_Row => exact of_decide_eq_true (by kernel_rfl))
    (case kit_Told_Told => exact of_decide_eq_true (by kernel_rfl))
    (case kit_tuple_Told => exact of_decide_eq_true (by kernel_rfl))
    (case rm_Row => exact of_decide_eq_true (by kernel_rfl))
    (case sf_Row => exact of_decide_eq_true (by kernel_rfl))
    (case nt_Told => exact of_decide_eq_true (by kernel_rfl))
#print axioms PySem.Challenge.cw_splitalike_k25_whole_rows_rich_in_cuts_holds

