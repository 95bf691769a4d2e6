import PyProof.Rows.All
import Wide.All
import OpenK.AllK
import Wide.FinOn
import HandS.ForMost
import HandS.Exc
import HandS.ExcOwn
import HandS.ExcInit
import HandS.ExcField
import HandS.ExcValue
import HandS.Evl
import HandS.IsInst
import HandS.ExcIs
import KE.KExcIs
import PyProof.StrOps2
import HandS.Conv
import HandS.More
import HandS.DictComp
import KE.KStar
import KE.GoesEnum
import HandS.Small
import KE.KeyNested
import HandS.Walk
import HandS.Defaults
import HandS.Property
import HandS.Flow
import HandS.TupAny
import HandS.WordsExc
import HandS.HeadHook3
import PySem.Challenge.RW_splitalike_k01_cuts_by_lengths
set_option Elab.async false
set_option linter.all false
set_option maxRecDepth 100000
/-! Readings, one step at a time: what a reading asks, by its head. -/
namespace Rd
open PySem L2
section
variable {K : PySem.W.Frag} {σ : L2.St} {H : Hp} {ta tb tc te : TE} {t u : TT} {x y z v : V} {r r' : R2} {D : Ends} {s s1 s2 : TS} {Q : VK} {QB : Bool → Hp → Prop} {QA : List V → Hp → Prop} {QS : L2.St → Hp → Prop} {g : TG} {A A' : TA}
theorem i_var {i : Nat} (h : σ[i]? = some (some v)) (q : Q v H) : tVar i σ H Q := ⟨v, h, q⟩
theorem i_c (q : Q v H) : tC v σ H Q := q
theorem i_op (q : ta σ H fun x H1 => tb σ H1 fun y H2 => r x y H2 Q) : tOp r ta tb σ H Q := q
theorem i_un {r : V → Hp → VK → Prop} (q : ta σ H fun x H1 => r x H1 Q) : tUn r ta σ H Q := q
theorem i_rI0 {g : Int → Int → V} {i j : Int} (q : Q (g i j) H) : rI0 g (.int i) (.int j) H Q := ⟨i, j, rfl, rfl, q⟩
theorem i_rI {C : Int → Int → Prop} {g : Int → Int → V} {i j : Int} (c : C i j) (q : Q (g i j) H) : rI C g (.int i) (.int j) H Q := ⟨i, j, rfl, rfl, c, q⟩
theorem i_rEq (s : scal x y = true) (q : Q (.bl (decide (x = y))) H) : rEq x y H Q := ⟨s, q⟩
theorem i_rNe (s : scal x y = true) (q : Q (.bl (!decide (x = y))) H) : rNe x y H Q := ⟨s, q⟩
theorem i_test (q : ta σ H fun x H' => ∃ k, x = .bl k ∧ QB k H') : tTest ta σ H QB := q
theorem i_tB (q : ta σ H fun x H' => ∃ k, x = .bl k ∧ QB k H') : tB ta σ H QB := q
theorem i_bl {b : Bool} {R : Bool → Prop} (q : R b) : ∃ k, V.bl b = V.bl k ∧ R k := ⟨b, rfl, q⟩
theorem i_and (q : t σ H fun c H1 => if c = true then u σ H1 QB else QB false H1) : tAnd t u σ H QB := q
theorem i_or (q : t σ H fun c H1 => if c = true then QB true H1 else u σ H1 QB) : tOr t u σ H QB := q
theorem i_not (q : t σ H fun c H1 => QB (!c) H1) : tNot t σ H QB := q
theorem i_notV (q : ta σ H fun x H1 => ∃ c, x = .bl c ∧ Q (.bl (!c)) H1) : tNotV ta σ H Q := q
theorem i_andV (q : ta σ H fun x H1 => ∃ c, x = .bl c ∧ if c = true then tb σ H1 Q else Q (.bl false) H1) : tAndV ta tb σ H Q := q
theorem i_orV (q : ta σ H fun x H1 => ∃ c, x = .bl c ∧ if c = true then Q (.bl true) H1 else tb σ H1 Q) : tOrV ta tb σ H Q := q
theorem i_if (q : t σ H fun c H1 => if c = true then ta σ H1 Q else tb σ H1 Q) : tIf t ta tb σ H Q := q
theorem i_chain (q : ta σ H fun x H1 => tb σ H1 fun y H2 => r x y H2 fun z H3 => ∃ k, z = .bl k ∧ (if k = true then tc σ H3 fun w' H4 => r' y w' H4 Q else Q (.bl false) H3)) : tChain r r' ta tb tc σ H Q := q
theorem i_call {sp : Sp} {dvs : List V} {E : XK} (q : A σ H fun vs H1 => sp (vs ++ dvs) H1 Q E) : tCall sp dvs E A σ H Q := q
theorem i_nil (q : QA [] H) : tNil σ H QA := q
theorem i_cons (q : ta σ H fun x H1 => A σ H1 fun xs H2 => QA (x :: xs) H2) : tCons ta A σ H QA := q
theorem i_cb {r : List V → Hp → VK → Prop} (q : A σ H fun vs H1 => r vs H1 Q) : tCB r A σ H Q := q
theorem i_bm {T : String} {r : V → List V → Hp → VK → Prop} (q : ta σ H fun x H1 => tyV K T x H1 ∧ A σ H1 fun xs H2 => r x xs H2 Q) : tBM K T r ta A σ H Q := q
theorem i_bm0 {T : String} {r : V → List V → Hp → VK → Prop} (q : ta σ H fun x H1 => tyV K T x H1 ∧ r x [] H1 Q) : tBM0 K T r ta σ H Q := q
theorem i_tup (q : A σ H fun xs H1 => xs.length ≤ sizeLine ∧ ∀ p, H1 p = none → Q (.ref p) (upd H1 p (.tup xs))) : tTup A σ H Q := q
theorem i_lst (q : A σ H fun xs H1 => xs.length ≤ sizeLine ∧ ∀ p, H1 p = none → Q (.ref p) (upd H1 p (.lst xs))) : tLst A σ H Q := q
theorem i_seq (q : s1 { D with nx := s2 D } σ H) : tSeq s1 s2 D σ H := q
theorem i_asg (q : te σ H fun x H1 => g x σ H1 D.nx) : tAsg te g D σ H := q
theorem i_name {i : Nat} (q : QS (σ.set i (some v)) H) : gName i v σ H QS := q
theorem i_sub {ts : TSet} (q : ta σ H fun o H1 => tb σ H1 fun i H2 => ts o i v H2 fun H3 => QS σ H3) : gSub ta tb ts v σ H QS := q
theorem i_ret (q : te σ H D.rt) : tRet te D σ H := q
theorem i_drop (q : te σ H fun _ H1 => D.nx σ H1) : tDrop te D σ H := q
theorem i_ifS (q : t σ H fun b H1 => if b = true then s1 D σ H1 else s2 D σ H1) : tIfS t s1 s2 D σ H := q
theorem i_next (q : D.nx σ H) : tNext D σ H := q
theorem i_nx {f b c : L2.St → Hp → Prop} {r : VK} (q : f σ H) : Ends.nx ⟨f, r, b, c⟩ σ H := q
theorem i_rt {f b c : L2.St → Hp → Prop} {r : VK} (q : r v H) : Ends.rt ⟨f, r, b, c⟩ v H := q
theorem i_bk {f b c : L2.St → Hp → Prop} {r : VK} (q : b σ H) : Ends.bk ⟨f, r, b, c⟩ σ H := q
theorem i_ct {f b c : L2.St → Hp → Prop} {r : VK} (q : c σ H) : Ends.ct ⟨f, r, b, c⟩ σ H := q
theorem i_ixL {p : Addr} {xs : List V} {i : Int} (h : SqL K H p xs) (e : atI xs i = some v) (q : Q v H) : rIxL K (.ref p) (.int i) H Q := ⟨p, xs, i, v, rfl, rfl, h, e, q⟩
theorem i_ixT {p : Addr} {xs : List V} {i : Int} (h : SqT K H p xs) (e : atI xs i = some v) (q : Q v H) : rIxT K (.ref p) (.int i) H Q := ⟨p, xs, i, v, rfl, rfl, h, e, q⟩
theorem i_ixS {z : Str} {i : Int} {c : Nat} (h : z.length ≤ sizeLine) (e : atI z.cps.toList i = some c) (q : Q (.str ⟨#[c]⟩) H) : rIxS (.str z) (.int i) H Q := ⟨z, i, c, rfl, rfl, h, e, q⟩
theorem i_setL {p : Addr} {xs : List V} {k : Int} {j : Nat} {QH : Hp → Prop} (h : H p = some (.lst xs)) (e : ixN xs.length k = some j) (q : QH (upd H p (.lst (xs.set j v)))) : rSetL (.ref p) (.int k) v H QH := ⟨p, xs, k, j, rfl, rfl, h, e, q⟩
theorem i_int1 {i : Int} {R : Int → Prop} {R2 : Prop} (q : R i) : (∃ j, [V.int i] = [V.int j] ∧ R j) ∨ R2 := .inl ⟨i, rfl, q⟩
theorem i_intb {b : Bool} {R : Bool → Prop} {R2 : Prop} (q : R b) : R2 ∨ ∃ k, [V.bl b] = [V.bl k] ∧ R k := .inr ⟨b, rfl, q⟩
theorem i_len {p : Addr} {xs : List V} {R : List V → Prop} (h : SqL K H p xs) (q : R xs) : ∃ p' ys, [V.ref p] = [V.ref p'] ∧ (SqL K H p' ys ∨ SqT K H p' ys) ∧ R ys := ⟨p, xs, rfl, .inl h, q⟩
theorem i_lenT {p : Addr} {xs : List V} {R : List V → Prop} (h : SqT K H p xs) (q : R xs) : ∃ p' ys, [V.ref p] = [V.ref p'] ∧ (SqL K H p' ys ∨ SqT K H p' ys) ∧ R ys := ⟨p, xs, rfl, .inr h, q⟩
theorem i_max {i j : Int} {R : Int → Int → Prop} (q : R i j) : ∃ i' j', [V.int i, V.int j] = [V.int i', V.int j'] ∧ R i' j' := ⟨i, j, rfl, q⟩

theorem i_append {p : Addr} {xs : List V} (h : H p = some (.lst xs)) (hz : xs.length < sizeLine) (q : Q .non (upd H p (.lst (xs ++ [v])))) : rAppend (.ref p) [v] H Q := ⟨p, xs, v, rfl, rfl, h, hz, q⟩
theorem i_catL {p b : Addr} {xs zs : List V} (h1 : H p = some (.lst xs)) (h2 : H b = some (.lst zs)) (hz : xs.length + zs.length ≤ sizeLine) (q : ∀ a, H a = none → Q (.ref a) (upd H a (.lst (xs ++ zs)))) : rCat (.ref p) (.ref b) H Q := ⟨p, b, xs, zs, rfl, rfl, h1, h2, hz, q⟩
theorem i_gtup {p : Addr} {xs : List V} {n : Nat} {tg : TGs} (h : SqT K H p xs) (e : xs.length = n) (q : tg xs σ H QS) : gTup K n tg (.ref p) σ H QS := ⟨p, xs, rfl, h, e, q⟩
theorem i_gcons {tg : TG} {ug : TGs} {vs : List V} (q : tg v σ H fun σ' H' => ug vs σ' H' QS) : gCons tg ug (v :: vs) σ H QS := ⟨v, vs, rfl, q⟩
theorem i_gnil (q : QS σ H) : gNil [] σ H QS := ⟨rfl, q⟩
theorem i_yes {QB : Bool → Hp → Prop} (q : QB true H) : tYes σ H QB := q
theorem i_m1 {r : V → List V → Hp → VK → Prop} (q : ta σ H fun x H1 => (∃ a, x = .str a) ∧ tb σ H1 fun y H2 => r x [y] H2 Q) : tM1 r ta tb σ H Q := q
theorem i_m0 {r : V → List V → Hp → VK → Prop} (q : ta σ H fun x H1 => (∃ a, x = .str a) ∧ r x [] H1 Q) : tM0 r ta σ H Q := q
/-- what a comprehension asks behind its source -/
def LcAsk (J : L2.It) (g : TG) (t : TT) (te : TE) (vs : List Nat) (σ : L2.St) (Q : VK) (H1 : Hp) : Prop := ∀ D, H1 D = none → ∃ W : Nat → Nat → Hp → Prop, (∃ m, W 0 m (upd H1 D (.lst []))) ∧ ∀ i m H, W i m H →
  (J.stop i H ∧ Q (.ref D) H) ∨ (J.go i H ∧ ∃ Nx : Hp → Prop, (∀ H', Nx H' → ∃ m', m' < m ∧ W (i + 1) m' H') ∧ ∀ x H', J.yld i H x H' → g x (wipe σ vs) H' fun σ2 H2 => wipe σ2 vs = wipe σ vs ∧ t σ2 H2 fun b H3 =>
    if b = true then te σ2 H3 fun y H4 => ∃ acc, H4 D = some (.lst acc) ∧ acc.length < sizeLine ∧ Nx (upd H4 D (.lst (acc ++ [y]))) else Nx H3)
theorem i_lcR {vs : List Nat} (q : A σ H fun ws H1 => ∃ j : Int, ws = [.int j] ∧ -(2 ^ 62) ≤ j ∧ j < 2 ^ 62 ∧ LcAsk (Itr 0 j.toNat) g t te vs σ Q H1) : tLc (iRng1 A) g t te vs σ H Q := q
theorem i_lcR2 {vs : List Nat} (q : A σ H fun ws H1 => ∃ i j : Int, ws = [.int i, .int j] ∧ (-(2 ^ 62) ≤ i ∧ i < 2 ^ 62 ∧ -(2 ^ 62) ≤ j ∧ j < 2 ^ 62) ∧ LcAsk (Itr i (j - i).toNat) g t te vs σ Q H1) : tLc (iRng2 A) g t te vs σ H Q := q
theorem i_lcL {vs : List Nat} (q : ta σ H fun x H1 => ∃ a, x = .ref a ∧ (∃ xs, SqL K H1 a xs) ∧ LcAsk (Itl K a) g t te vs σ Q H1) : tLc (iList K ta) g t te vs σ H Q := q
theorem i_lcT {vs : List Nat} (q : ta σ H fun x H1 => ∃ a, x = .ref a ∧ (∃ xs, SqT K H1 a xs) ∧ LcAsk (Itt K a) g t te vs σ Q H1) : tLc (iTup K ta) g t te vs σ H Q := q
theorem lcR {n : Int} {vs : List Nat} (h1 : -(2 ^ 62) ≤ n) (h2 : n < 2 ^ 62) (q : ∀ D, H D = none → ∃ Pv : Nat → Hp → Prop, Pv 0 (upd H D (.lst [])) ∧
    (∀ (i : Nat) H2, (i : Int) < n → Pv i H2 → g (.int (i : Int)) (wipe σ vs) H2 fun σ2 H2 => wipe σ2 vs = wipe σ vs ∧ t σ2 H2 fun b H3 =>
      if b = true then te σ2 H3 fun y H4 => ∃ acc, H4 D = some (.lst acc) ∧ acc.length < sizeLine ∧ Pv (i + 1) (upd H4 D (.lst (acc ++ [y]))) else Pv (i + 1) H3) ∧ ∀ H2, Pv n.toNat H2 → Q (.ref D) H2) :
    ∃ j : Int, [V.int n] = [.int j] ∧ -(2 ^ 62) ≤ j ∧ j < 2 ^ 62 ∧ LcAsk (Itr 0 j.toNat) g t te vs σ Q H := by
  refine ⟨n, rfl, h1, h2, fun D hD => ?_⟩
  obtain ⟨Pv, p0, ps, pd⟩ := q D hD
  exact lc_range (lo := 0) (n := n.toNat) Pv p0 (fun i H2 hi p => by rw [Int.zero_add]; exact ps i H2 (by omega) p) pd
theorem lcR2 {m n : Int} {vs : List Nat} (h0 : 0 ≤ m) (h1 : m < 2 ^ 62) (h2 : -(2 ^ 62) ≤ n) (h3 : n < 2 ^ 62) (q : ∀ D, H D = none → ∃ Pv : Nat → Hp → Prop, Pv 0 (upd H D (.lst [])) ∧
    (∀ (i : Nat) H2, m + (i : Int) < n → Pv i H2 → g (.int (m + (i : Int))) (wipe σ vs) H2 fun σ2 H2 => wipe σ2 vs = wipe σ vs ∧ t σ2 H2 fun b H3 =>
      if b = true then te σ2 H3 fun y H4 => ∃ acc, H4 D = some (.lst acc) ∧ acc.length < sizeLine ∧ Pv (i + 1) (upd H4 D (.lst (acc ++ [y]))) else Pv (i + 1) H3) ∧ ∀ H2, Pv (n - m).toNat H2 → Q (.ref D) H2) :
    ∃ i j : Int, [V.int m, V.int n] = [.int i, .int j] ∧ (-(2 ^ 62) ≤ i ∧ i < 2 ^ 62 ∧ -(2 ^ 62) ≤ j ∧ j < 2 ^ 62) ∧ LcAsk (Itr i (j - i).toNat) g t te vs σ Q H := by
  refine ⟨m, n, rfl, ⟨by omega, h1, h2, h3⟩, fun D hD => ?_⟩
  obtain ⟨Pv, p0, ps, pd⟩ := q D hD
  exact lc_range (lo := m) (n := (n - m).toNat) Pv p0 (fun i H2 hi p => ps i H2 (by omega) p) pd
theorem lcL {a : Addr} {xs : List V} {vs : List Nat} (h : SqL K H a xs) (q : ∀ D, H D = none → ∃ Pv : Nat → Hp → Prop, Pv 0 (upd H D (.lst [])) ∧ (∀ i H2, i ≤ xs.length → Pv i H2 → SqL K H2 a xs) ∧
    (∀ (i : Nat) x H2, xs[i]? = some x → Pv i H2 → g x (wipe σ vs) H2 fun σ2 H2 => wipe σ2 vs = wipe σ vs ∧ t σ2 H2 fun b H3 =>
      if b = true then te σ2 H3 fun y H4 => ∃ acc, H4 D = some (.lst acc) ∧ acc.length < sizeLine ∧ Pv (i + 1) (upd H4 D (.lst (acc ++ [y]))) else Pv (i + 1) H3) ∧ ∀ H2, Pv xs.length H2 → Q (.ref D) H2) :
    ∃ a', V.ref a = .ref a' ∧ (∃ ys, SqL K H a' ys) ∧ LcAsk (Itl K a') g t te vs σ Q H := by
  refine ⟨a, rfl, ⟨xs, h⟩, fun D hD => ?_⟩
  obtain ⟨Pv, p0, pl, ps, pd⟩ := q D hD
  exact lc_list (xs := xs) Pv p0 pl ps pd
theorem lcT {a : Addr} {xs : List V} {vs : List Nat} (h : SqT K H a xs) (q : ∀ D, H D = none → ∃ Pv : Nat → Hp → Prop, Pv 0 (upd H D (.lst [])) ∧ (∀ i H2, i ≤ xs.length → Pv i H2 → SqT K H2 a xs) ∧
    (∀ (i : Nat) x H2, xs[i]? = some x → Pv i H2 → g x (wipe σ vs) H2 fun σ2 H2 => wipe σ2 vs = wipe σ vs ∧ t σ2 H2 fun b H3 =>
      if b = true then te σ2 H3 fun y H4 => ∃ acc, H4 D = some (.lst acc) ∧ acc.length < sizeLine ∧ Pv (i + 1) (upd H4 D (.lst (acc ++ [y]))) else Pv (i + 1) H3) ∧ ∀ H2, Pv xs.length H2 → Q (.ref D) H2) :
    ∃ a', V.ref a = .ref a' ∧ (∃ ys, SqT K H a' ys) ∧ LcAsk (Itt K a') g t te vs σ Q H := by
  refine ⟨a, rfl, ⟨xs, h⟩, fun D hD => ?_⟩
  obtain ⟨Pv, p0, pl, ps, pd⟩ := q D hD
  exact lc_tup (xs := xs) Pv p0 pl ps pd
/-- what a for asks behind its source -/
def ForAsk (J : L2.It) (g : TG) (tb : TS) (D : Ends) (σ : L2.St) (H1 : Hp) : Prop := ∃ W : Nat → Nat → L2.St → Hp → Prop, (∃ m, W 0 m σ H1) ∧ ∀ i m σ H, W i m σ H →
  (J.stop i H ∧ D.nx σ H) ∨ (J.go i H ∧ ∃ N : L2.St → Hp → Prop, (∀ σ' H', N σ' H' → ∃ m', m' < m ∧ W (i + 1) m' σ' H') ∧ ∀ x H', J.yld i H x H' → g x σ H' fun σ2 H2 => tb { D with nx := N, ct := N, bk := D.nx } σ2 H2)
theorem i_forR (q : A σ H fun ws H1 => ∃ j : Int, ws = [.int j] ∧ -(2 ^ 62) ≤ j ∧ j < 2 ^ 62 ∧ ForAsk (Itr 0 j.toNat) g s D σ H1) : tFor (iRng1 A) g s D σ H := q
theorem i_forL (q : ta σ H fun x H1 => ∃ a, x = .ref a ∧ (∃ xs, SqL K H1 a xs) ∧ ForAsk (Itl K a) g s D σ H1) : tFor (iList K ta) g s D σ H := q
theorem i_forT (q : ta σ H fun x H1 => ∃ a, x = .ref a ∧ (∃ xs, SqT K H1 a xs) ∧ ForAsk (Itt K a) g s D σ H1) : tFor (iTup K ta) g s D σ H := q
theorem forR {n : Int} (h1 : -(2 ^ 62) ≤ n) (h2 : n < 2 ^ 62) (Pv : Nat → L2.St → Hp → Prop) (p0 : Pv 0 σ H)
    (ps : ∀ (i : Nat) σ H, (i : Int) < n → Pv i σ H → g (.int (i : Int)) σ H fun σ2 H2 => s { D with nx := Pv (i + 1), ct := Pv (i + 1), bk := D.nx } σ2 H2) (pd : ∀ σ H, Pv n.toNat σ H → D.nx σ H) :
    ∃ j : Int, [V.int n] = [.int j] ∧ -(2 ^ 62) ≤ j ∧ j < 2 ^ 62 ∧ ForAsk (Itr 0 j.toNat) g s D σ H :=
  ⟨n, rfl, h1, h2, for_range (lo := 0) (n := n.toNat) Pv p0 (fun i σ H hi p => by rw [Int.zero_add]; exact ps i σ H (by omega) p) pd⟩
theorem forL {a : Addr} {xs : List V} (h : SqL K H a xs) (Pv : Nat → L2.St → Hp → Prop) (p0 : Pv 0 σ H) (pl : ∀ i σ H, i ≤ xs.length → Pv i σ H → SqL K H a xs)
    (ps : ∀ i x σ H, xs[i]? = some x → Pv i σ H → g x σ H fun σ2 H2 => s { D with nx := Pv (i + 1), ct := Pv (i + 1), bk := D.nx } σ2 H2) (pd : ∀ σ H, Pv xs.length σ H → D.nx σ H) :
    ∃ a', V.ref a = .ref a' ∧ (∃ ys, SqL K H a' ys) ∧ ForAsk (Itl K a') g s D σ H := ⟨a, rfl, ⟨xs, h⟩, for_list (xs := xs) Pv p0 pl ps pd⟩
theorem forT {a : Addr} {xs : List V} (h : SqT K H a xs) (Pv : Nat → L2.St → Hp → Prop) (p0 : Pv 0 σ H) (pl : ∀ i σ H, i ≤ xs.length → Pv i σ H → SqT K H a xs)
    (ps : ∀ i x σ H, xs[i]? = some x → Pv i σ H → g x σ H fun σ2 H2 => s { D with nx := Pv (i + 1), ct := Pv (i + 1), bk := D.nx } σ2 H2) (pd : ∀ σ H, Pv xs.length σ H → D.nx σ H) :
    ∃ a', V.ref a = .ref a' ∧ (∃ ys, SqT K H a' ys) ∧ ForAsk (Itt K a') g s D σ H := ⟨a, rfl, ⟨xs, h⟩, for_tup (xs := xs) Pv p0 pl ps pd⟩
/-- ways -/
theorem ite_d {p : Prop} [Decidable p] {a b : Prop} (h1 : p → a) (h2 : ¬ p → b) : if decide p = true then a else b := by
  by_cases h : p
  · rw [if_pos (decide_eq_true h)]; exact h1 h
  · rw [if_neg (by rw [decide_eq_false h]; exact Bool.false_ne_true)]; exact h2 h
theorem ite_nd {p : Prop} [Decidable p] {a b : Prop} (h1 : p → b) (h2 : ¬ p → a) : if (!decide p) = true then a else b := by
  by_cases h : p
  · rw [decide_eq_true h, if_neg (by decide)]; exact h1 h
  · rw [decide_eq_false h, if_pos (by decide)]; exact h2 h
theorem ite_b {c : Bool} {a b : Prop} (h1 : c = true → a) (h2 : c = false → b) : if c = true then a else b := by
  cases c
  · rw [if_neg Bool.false_ne_true]; exact h2 rfl
  · rw [if_pos rfl]; exact h1 rfl
theorem ite_vi {i j : Int} {a b : Prop} (h1 : i = j → a) (h2 : i ≠ j → b) : if decide (V.int i = V.int j) = true then a else b := ite_d (fun e => h1 (V.int.inj e)) fun n => h2 fun e => n (by rw [e])
theorem ite_T {a b : Prop} (h : a) : if true = true then a else b := by rw [if_pos rfl]; exact h
theorem ite_F {a b : Prop} (h : b) : if false = true then a else b := by rw [if_neg Bool.false_ne_true]; exact h
theorem mulL {i j : Int} (h1 : -(2 ^ 64) < i) (h2 : i < 2 ^ 64) : CMul i j := .inl ⟨h1, h2⟩
theorem mulR {i j : Int} (h1 : -(2 ^ 64) < j) (h2 : j < 2 ^ 64) : CMul i j := .inr ⟨h1, h2⟩
/-- fields of new things -/
theorem up_ne {H : Hp} {a b : Addr} {o : HO} {u : HO} (hn : H a = none) (h : H b = some u) : upd H a o b = some u := by rw [upd_ne (ne_of_none h hn)]; exact h
end
end Rd

set_option maxHeartbeats 4000000
/-! Exceptions of the program's own classes as values: made, a field read, isinstance. -/
namespace Xv
open PySem PySem.Spec PyProof.Rows L2

section
variable {X : Cx} {e : Expr} {es : List Expr} {te : TE} {ta : TA} {p pos : Pos}
/-- C(e, ..) as a value, C's own __init__ keeping sp -/
def tMkV (C : Addr) (sp : Sp) (ta : TA) : TE := fun σ H Q => ta σ H fun vs H1 => vs.length ≤ 1000 ∧ ∀ a, H1 a = none → sp (.ref a :: vs) (upd H1 a (exo a C none)) (fun v H2 => v = .non ∧ Q (.ref a) H2) (fun _ _ _ => False)
theorem pe_mkV {CX : CXT} {x : Str} {C fI : Addr} {k : Nat} {fd : FuncData} {ps : List Str} {sp : Sp} (T : OexC X.K C) (iC : PySem.W.findIn X.K (.ref C) "__init__" = some (some (.ref fI))) (tI : PySem.W.typeIn X.K (.ref fI) = some (.type "function"))
    (F1 : FnOk X.prog X.w X.K X.mg X.base CX k fI fd ps sp) (hr : Room (k + 1) X.A) (hb : Binds X.K fd ps []) (hx : Passes CX X (fun _ _ _ => False)) (hg : Gl X x) (hm : X.mg x = some (.ref C)) (ha : PA X (e :: es) ta)
    (hdb : (x == ("__debug__" : Str)) = false := by decide) (he : starEach (e :: es) X.env = (false, eval e X.env) :: starEach es X.env := by rfl) (hpl : (backTo pos (starEach es X.env)).any (·.1) = false := by rfl) :
    PE X (.Call (.Name x p) (e :: es) [] pos) (tMkV C sp ta) := by
  refine ⟨fun pins s σ H Q I h => ?_⟩
  obtain ⟨nm, q, N, bs, bm, sn, sub, ab, col, dd, k0, k1, k2, k3, k5, hC, hbm⟩ := T.cls
  refine wpAny_Call_Name_kw (ld_glob I hg hm ?_ hdb)
  refine PySem.W.callWith_K (h₀ := X.base) I.ok.mod.kin T.kC (thn (ha.run pos pins s σ H _ I h) fun us s1 ⟨vs, H1, I1, r1, hz, q1⟩ => ⟨I1.kIn, ?_⟩) he hpl
  show wpAny _ _ (call (.ref C) us) _ _ _
  obtain ⟨hp, g, dr, tk, os⟩ := s1
  have hsz : hp.objs.size ≤ hp.objs.size + 1 := Nat.le_succ _
  have hn : H1 (hp.objs.size + 1) = none := I1.hok.fresh hsz
  have hq := q1 (hp.objs.size + 1) hn
  have kk : ∀ b o, hp.get? b = some o → ((hp.push (PySem.W.kdv_tup us)).push (PySem.HandSPX.excO C hp.objs.size)).get? b = some o := fun b o e => Heap.get?_push_of_some _ (Heap.get?_push_of_some _ e)
  have hget : ((hp.push (PySem.W.kdv_tup us)).push (PySem.HandSPX.excO C hp.objs.size)).get? (hp.objs.size + 1) = some (PySem.HandSPX.excO C hp.objs.size) := by heap_get
  have I2 : Inv X pins σ (upd H1 (hp.objs.size + 1) (exo (hp.objs.size + 1) C none)) ⟨(hp.push (PySem.W.kdv_tup us)).push (PySem.HandSPX.excO C hp.objs.size), g, dr, tk, os⟩ :=
    I1.laid (t' := tk) (a := hp.objs.size + 1) (o := exo (hp.objs.size + 1) C none) (h' := (hp.push (PySem.W.kdv_tup us)).push (PySem.HandSPX.excO C hp.objs.size)) kk hsz (exo_ok hget)
  have r2 : Vals (V.ref (hp.objs.size + 1) :: vs) (Value.ref (hp.objs.size + 1) :: us) := .cons rfl r1
  have hl : (Value.ref (hp.objs.size + 1) :: us).length = ps.length := by
    have e := r2.length
    rw [F1.len _ _ _ _ hq] at e
    exact e.symm
  have hus : us.length ≤ sizeLine := by
    rw [← Paired.length r1, sizeLine_eq]
    omega
  have b0 := hb ⟨(hp.push (PySem.W.kdv_tup us)).push (PySem.HandSPX.excO C hp.objs.size), g, dr, tk, os⟩ (Value.ref (hp.objs.size + 1) :: us) I2.kIn (by rw [List.append_nil]; exact hl)
  rw [List.append_nil] at b0
  refine wpAny_call (PySem.HandSPX.call_own F.excBase_ValueError (fun Y => PySem.HandSPX.refsVE_contains Y bm hbm) (I1.kIn _ _ hC) (PySem.W.looks_findIn I1.kIn iC) (fun self => PySem.W.bind_fn I1.kIn self tI) hus
    (codeAny_mono (F1.run _ X.stack _ _ ⟨Value.ref (hp.objs.size + 1) :: us, []⟩ (Value.ref (hp.objs.size + 1) :: us) _ _ (fun _ _ _ => False) (hr.make C us []) (I2.env0.make C us []) b0 r2 hq) fun r s' hq' => ?_))
  cases r with
  | error er => exact hx pins σ _ _ er s' I2 hq'
  | ok fl =>
    cases fl with
    | ret u =>
      obtain ⟨v, H2, os2, bare2, un2, hok2, rv, ev, q2⟩ := hq'
      subst ev
      have J : Inv X pins σ H2 s' := I2.call' (ch := []) os2 un2 hok2 bare2 (fun b z => absurd z (by simp))
      exact ⟨rv, .ref (hp.objs.size + 1), H2, J, rfl, q2⟩
    | next => exact False.elim hq'
    | brk => exact False.elim hq'
    | cont => exact False.elim hq'
/-- C(), an own class without own __init__ -/
def tMkV0 (C : Addr) : TE := fun _ H Q => ∀ a, H a = none → Q (.ref a) (upd H a (exo a C none))
theorem pe_mkV0 {C : Addr} {x : Str} {bmB : List Value} {B newId initId : String} (F : ExcBaseFacts B newId initId bmB) (q : PySem.W.excIn X.K C bmB newId = true) (gC : X.mg x = some (.ref C)) (kC : PySem.W.keepIn X.K (.ref C) = true) (hg : Gl X x)
    (hdb : (x == ("__debug__" : Str)) = false := by decide) : PE X (.Call (.Name x p) [] [] pos) (tMkV0 C) := by
  refine ⟨fun pins s σ H Q I h => ?_⟩
  refine wpAny_Call_Name_kw (ld_glob I hg gC ?_ hdb)
  refine PySem.W.callWith_K0 I.kIn kC ?_
  obtain ⟨bm, N, nm, qn, bs, hdct, sn, sub, ab, col, dd, k0, k1, k2, k3, k5, mN, hC, hN, hni, T⟩ := exc_obj I.kIn q
  refine wpAny_call_exc_subT F T hC hN hni (fun h' a hm => ?_) (by show 0 ≤ sizeLine; exact Nat.zero_le _)
  have hn : H a = none := I.hok.gone hm.new
  obtain ⟨t, ht, _, _⟩ := hm.there
  exact ⟨.ref a, upd H a (exo a C none), I.laidN hm.keeps hm.new hn (exo_ok ht), rfl, h a hn⟩

/-- e.f, e an exception held as a value -/
def tXat (K : PySem.W.Frag) (f : Str) (te : TE) : TE := fun σ H Q => te σ H fun x H1 => ∃ (a C dx : Addr) (fs : List (Str × V)) (v : V), x = .ref a ∧ H1 a = some (exo a C (some dx)) ∧ H1 dx = some (exd dx fs) ∧ XfC K C ∧ PySem.W.findIn K (.ref C) f = some none ∧ fs.lookup f = some v ∧ Q v H1
theorem pe_xat {n : Str} (he : PE X e te) (hb : attributeBase e n X.env (eval e X.env) = eval e X.env := by rfl) : PE X (.Attribute e n pos) (tXat X.K n te) := by
  refine ⟨fun pins s σ H Q I h => ?_⟩
  refine attr_of hb (thn (he.run pins s σ H _ I h) fun u s1 hh => ?_)
  obtain ⟨x, H1, I1, rx, a, C, dd, fs, v, ex, ea, ed, T, hno, l, q⟩ := hh
  subst ex
  obtain rfl : u = Value.ref a := rx
  obtain ⟨t1, ha⟩ := exo_at I1.hok ea
  obtain ⟨mA, hns, hr⟩ := exd_at I1.hok ed
  obtain ⟨od, ho, hl⟩ := lookIn_ns hns
  obtain ⟨u, hu, ru⟩ := RelO.some_of (v := v) (o := mA n) (by rw [← l]; exact hr n)
  have J : PySem.W.InstAt s1.heap a _ C (some od) := ⟨ha, rfl, rfl, ho⟩
  exact HandSPX.exc_get I1.kIn J T.ga T.gg T.exC (PySem.W.findObj_own T.hdC hno rfl (by rw [hl, hu])) (handed_of ru) ⟨v, H1, I1.tok _, ru, q⟩

/-- isinstance(e, c), e an exception held as a value -/
def rIsX (K : PySem.W.Frag) : List V → Hp → VK → Prop := fun xs H Q => ∃ (c : V) (cv : Value) (b : Bool) (a D : Addr) (d : Option Addr), xs = [.ref a, c] ∧ ClsV c cv ∧ H a = some (exo a D d) ∧ (∀ dx, d = some dx → ∃ fs, H dx = some (exd dx fs)) ∧ ExcC K D ∧ PySem.W.kitOne K (.ref D) cv = some b ∧ Q (.bl b) H
theorem call_isX : CallR X (.builtin "isinstance") (rIsX X.K) := by
  intro pins s σ H xs us Q I r h
  obtain ⟨c, cv, b, a, D, d, rfl, k, ea, hd, T, e, q⟩ := h
  obtain ⟨u1, u2, rfl, r1, r2⟩ := vals2 r
  have e2 := k.eq r2
  subst e2
  obtain rfl : u1 = Value.ref a := r1
  obtain ⟨t1, ha⟩ := exo_at I.hok ea
  have hcl : (PySem.W.clsIn X.K D).isSome = true := by
    obtain ⟨cd, hc, _⟩ := PySem.W.any_some T.hd
    rw [hc]; rfl
  cases d with
  | none =>
    have J : PySem.W.InstAt s.heap a _ D none := ⟨ha, rfl, rfl, trivial⟩
    exact PySem.W.kia_one (PySem.W.kitx_exc hcl T.hg T.hk T.hs T.ha T.hn T.ht T.hm) I.kIn J e (fun z => nomatch z) fun tk => ⟨.bl b, H, I.tok tk, rfl, q⟩
  | some dx =>
    obtain ⟨fs, ed⟩ := hd dx rfl
    obtain ⟨mA, hns, hr⟩ := exd_at I.hok ed
    obtain ⟨od, ho, hl⟩ := lookIn_ns hns
    have J : PySem.W.InstAt s.heap a _ D (some od) := ⟨ha, rfl, rfl, ho⟩
    exact PySem.W.kia_one (PySem.W.kitx_exc hcl T.hg T.hk T.hs T.ha T.hn T.ht T.hm) I.kIn J e (fun z => nomatch z) fun tk => ⟨.bl b, H, I.tok tk, rfl, q⟩
end
end Xv
namespace Xv
open PySem PySem.Spec PyProof.Rows L2 Evl
/-- at a: an exception of the class at C with one field -/
def Er (H : Hp) (a C : Addr) (f : Str) (v : V) : Prop := ∃ dx : Addr, H a = some (exo a C (some dx)) ∧ H dx = some (exd dx [(f, v)])
theorem Er.mono {H H' : Hp} {a C : Addr} {f : Str} {v : V} (e : Ex H H') (h : Er H a C f v) : Er H' a C f v := by
  obtain ⟨dx, h1, h2⟩ := h
  exact ⟨dx, e _ _ h1, e _ _ h2⟩
/-- x is an exception of the class at C -/
def Ek (H : Hp) (x : V) (C : Addr) : Prop := ∃ (a : Addr) (d : Option Addr), x = .ref a ∧ H a = some (exo a C d) ∧ ∀ dx, d = some dx → ∃ fs, H dx = some (exd dx fs)
theorem Er.ek {H : Hp} {a C : Addr} {f : Str} {v : V} (h : Er H a C f v) : Ek H (.ref a) C := by
  obtain ⟨dx, h1, h2⟩ := h
  exact ⟨a, some dx, rfl, h1, fun d e => by cases e; exact ⟨_, h2⟩⟩
theorem Ek.mono {H H' : Hp} {x : V} {C : Addr} (e : Ex H H') (h : Ek H x C) : Ek H' x C := by
  obtain ⟨a, d, h1, h2, h3⟩ := h
  exact ⟨a, d, h1, e _ _ h2, fun dx q => by obtain ⟨fs, z⟩ := h3 dx q; exact ⟨fs, e _ _ z⟩⟩
def spInitX (C : Addr) (f : Str) : Sp := fun vs H Q _ => ∃ (a : Addr) (v : V), vs = [.ref a, v] ∧ H a = some (exo a C none) ∧ ∀ dx, H dx = none → dx ≠ a → Q .non (upd (upd H dx (exd dx [(f, v)])) a (exo a C (some dx)))
theorem i_mk {C : Addr} {f : Str} {v : V} {H : Hp} {R : Addr → Hp → Prop} (q : ∀ a H2, H a = none → Ex H H2 → Er H2 a C f v → R a H2) :
    [v].length ≤ 1000 ∧ ∀ a, H a = none → spInitX C f (.ref a :: [v]) (upd H a (exo a C none)) (fun u H2 => u = .non ∧ R a H2) (fun _ _ _ => False) := by
  refine ⟨by show 1 ≤ 1000; decide, fun a ha => ⟨a, v, rfl, upd_same, fun dx hd ne => ⟨rfl, q a _ ha (fun b o e => ?_) ⟨dx, upd_same, ?_⟩⟩⟩⟩
  · have nb : b ≠ a := ne_of_none e ha
    have nd : b ≠ dx := ne_of_none (H := upd H a (exo a C none)) (by rw [upd_ne nb]; exact e) hd
    rw [upd_ne nb, upd_ne nd, upd_ne nb]
    exact e
  · rw [upd_ne ne, upd_same]
theorem i_mkV {C : Addr} {sp : Sp} {A : TA} {σ : L2.St} {H : Hp} {Q : VK} (q : A σ H fun vs H1 => vs.length ≤ 1000 ∧ ∀ a, H1 a = none → sp (.ref a :: vs) (upd H1 a (exo a C none)) (fun v H2 => v = .non ∧ Q (.ref a) H2) (fun _ _ _ => False)) : tMkV C sp A σ H Q := q
theorem i_mkV0 {C : Addr} {σ : L2.St} {H : Hp} {Q : VK} (q : ∀ a H2, H a = none → Ex H H2 → Ek H2 (.ref a) C → Q (.ref a) H2) : tMkV0 C σ H Q := fun a ha => q a _ ha (Ex.new ha) ⟨a, none, rfl, upd_same, fun _ e => nomatch e⟩
theorem i_xat {K : PySem.W.Frag} {f : Str} {te : TE} {σ : L2.St} {H : Hp} {Q : VK} (q : te σ H fun x H1 => ∃ (a C dx : Addr) (fs : List (Str × V)) (v : V), x = .ref a ∧ H1 a = some (exo a C (some dx)) ∧ H1 dx = some (exd dx fs) ∧ XfC K C ∧ PySem.W.findIn K (.ref C) f = some none ∧ fs.lookup f = some v ∧ Q v H1) : tXat K f te σ H Q := q
/-- what the written part says of an own exception class that keeps one field -/
structure XC (K : PySem.W.Frag) (C fI : Addr) (f : Str) : Prop where
  oex : OexC K C
  xf : XfC K C
  no : PySem.W.findIn K (.ref C) f = some none
  iC : PySem.W.findIn K (.ref C) "__init__" = some (some (.ref fI))
  tI : PySem.W.typeIn K (.ref fI) = some (.type "function")
theorem i_er {K : PySem.W.Frag} {C fI a : Addr} {f : Str} {v : V} {H : Hp} {R : V → Prop} (T : XC K C fI f) (r : Er H a C f v) (q : R v) : ∃ (a' C' dx : Addr) (fs : List (Str × V)) (v' : V), V.ref a = .ref a' ∧ H a' = some (exo a' C' (some dx)) ∧ H dx = some (exd dx fs) ∧ XfC K C' ∧ PySem.W.findIn K (.ref C') f = some none ∧ fs.lookup f = some v' ∧ R v' := by
  obtain ⟨dx, h1, h2⟩ := r
  exact ⟨a, C, dx, _, v, rfl, h1, h2, T.xf, T.no, by simp [List.lookup], q⟩
theorem ev_er {K : PySem.W.Frag} {C fI a : Addr} {f : Str} {v : V} {H : Hp} {te : TE} {σ : L2.St} (T : XC K C fI f) (h : Ev te σ H (.ref a)) (r : Er H a C f v) : Ev (tXat K f te) σ H v := fun H1 e Q q =>
  h H1 e _ fun H2 e2 => i_er T (r.mono (e.trans e2)) (q H2 e2)
theorem i_isX {K : PySem.W.Frag} {C D : Addr} {x : V} {b : Bool} {H : Hp} {Q : VK} (T : ExcC K D) (r : Ek H x D) (k : PySem.W.kitOne K (.ref D) (.ref C) = some b) (q : Q (.bl b) H) : rIsX K [x, .ref C] H Q := by
  obtain ⟨a, d, rfl, h1, h2⟩ := r
  exact ⟨.ref C, .ref C, b, a, D, d, rfl, .own C, h1, h2, T, k, q⟩
mutual
theorem dp_mono {K : PySem.W.Frag} {H H' : Hp} (e : Ex H H') : ∀ {v : V} {d : PyData}, Dp K H v d → Dp K H' v d
  | _, _, .non => .non
  | _, _, .bl b => .bl b
  | _, _, .int i => .int i
  | _, _, .str x => .str x
  | _, _, .lst h a => .lst (ex_l e h) (dpAll_mono e a)
  | _, _, .tup h a => .tup (ex_t e h) (dpAll_mono e a)
theorem dpAll_mono {K : PySem.W.Frag} {H H' : Hp} (e : Ex H H') : ∀ {vs : List V} {ds : List PyData}, DpAll K H vs ds → DpAll K H' vs ds
  | _, _, .nil => .nil
  | _, _, .cons a b => .cons (dp_mono e a) (dpAll_mono e b)
end
theorem dp_bools {K : PySem.W.Frag} {H : Hp} : ∀ bs : List Bool, DpAll K H (bs.map V.bl) (bs.map PyData.bool)
  | [] => .nil
  | b :: r => .cons (.bl b) (dp_bools r)
theorem dp_ints {K : PySem.W.Frag} {H : Hp} : ∀ bs : List Int, DpAll K H (bs.map V.int) (bs.map PyData.int)
  | [] => .nil
  | b :: r => .cons (.int b) (dp_ints r)
end Xv
namespace Xv
open PySem PySem.Spec PyProof.Rows L2 Evl
theorem et_yes {σ : L2.St} {H : Hp} : EvT tYes σ H true := fun H1 _ _ q => q H1 (Ex.refl H1)
theorem i_eqSame {K : PySem.W.Frag} {x y : V} {d : PyData} {H : Hp} {Q : VK} (h1 : Dp K H x d) (h2 : Dp K H y d) (s : SeqAt.shaped d = true) (q : Q (.bl true) H) : rEqD K x y H Q :=
  ⟨d, d, h1, h2, s, s, by rw [SeqAt.eqv_refl d (SeqAt.canLay_of_shaped s)]; exact q⟩
theorem i_neSame {K : PySem.W.Frag} {x y : V} {d : PyData} {H : Hp} {Q : VK} (h1 : Dp K H x d) (h2 : Dp K H y d) (s : SeqAt.shaped d = true) (q : Q (.bl false) H) : rNeD K x y H Q :=
  ⟨d, d, h1, h2, s, s, by rw [SeqAt.eqv_refl d (SeqAt.canLay_of_shaped s)]; exact q⟩
end Xv
namespace Xv
open PySem PySem.Spec PyProof.Rows L2 Evl
theorem i_isXty {K : PySem.W.Frag} {D : Addr} {x : V} {n : String} {b : Bool} {H : Hp} {Q : VK} (T : ExcC K D) (r : Ek H x D) (k : PySem.W.kitOne K (.ref D) (.type n) = some b) (q : Q (.bl b) H) : rIsX K [x, .ty n] H Q := by
  obtain ⟨a, d, rfl, h1, h2⟩ := r
  exact ⟨.ty n, .type n, b, a, D, d, rfl, .ty n, h1, h2, T, k, q⟩
/-- all but p stands as it stood -/
def But (p : Addr) (H H' : Hp) : Prop := ∀ b, b ≠ p → H' b = H b
theorem But.upd {p : Addr} {H : Hp} {o : HO} : But p H (upd H p o) := fun _ hb => upd_ne hb
theorem But.ex {p : Addr} {H0 H H' : Hp} (b : But p H H') (e : Ex H0 H) (n : H0 p = none) : Ex H0 H' := fun a o h => by rw [b a (ne_of_none h n)]; exact e a o h
theorem But.at {p a : Addr} {H H' : Hp} {o : HO} (b : But p H H') (h : H a = some o) (n : a ≠ p) : H' a = some o := by rw [b a n]; exact h
end Xv

/-! The heap without some addresses (what may change), a pen of draws, texts times ints. -/
namespace Hd
open PySem PySem.Spec PyProof.Rows L2 Evl
/-- the heap without the addresses of S -/
def hid (S : List Addr) (H : Hp) : Hp := fun b => if b ∈ S then none else H b
theorem hid_iff {S : List Addr} {H : Hp} {b : Addr} {o : HO} : hid S H b = some o ↔ b ∉ S ∧ H b = some o := by
  unfold hid
  by_cases h : b ∈ S
  · rw [if_pos h]
    constructor
    · intro z; cases z
    · intro z; exact absurd h z.1
  · rw [if_neg h]
    exact ⟨fun z => ⟨h, z⟩, fun z => z.2⟩
theorem hid_get {S : List Addr} {H : Hp} {b : Addr} {o : HO} (h : hid S H b = some o) : H b = some o := (hid_iff.mp h).2
theorem hid_sub {S : List Addr} {H : Hp} : Ex (hid S H) H := fun _ _ h => hid_get h
/-- an extension of the whole is one of the rest -/
theorem hid_ex {S : List Addr} {H H' : Hp} (e : Ex H H') : Ex (hid S H) (hid S H') := fun b o h => by
  obtain ⟨h1, h2⟩ := hid_iff.mp h
  exact hid_iff.mpr ⟨h1, e _ _ h2⟩
/-- more is hidden -/
theorem hid_more {S S' : List Addr} {H H' : Hp} (e : Ex (hid S H) (hid S H')) (hs : ∀ a ∈ S, a ∈ S') : Ex (hid S' H) (hid S' H') := fun b o h => by
  obtain ⟨h1, h2⟩ := hid_iff.mp h
  exact hid_iff.mpr ⟨h1, hid_get (e b o (hid_iff.mpr ⟨fun z => h1 (hs _ z), h2⟩))⟩
theorem hid_upd {S : List Addr} {H : Hp} {a : Addr} {o : HO} (ha : a ∈ S) : hid S (upd H a o) = hid S H := by
  funext b
  unfold hid
  by_cases h : b ∈ S
  · rw [if_pos h, if_pos h]
  · rw [if_neg h, if_neg h, upd_ne (fun z => h (by rw [z]; exact ha))]
theorem hid_new {S : List Addr} {H : Hp} {a : Addr} {o : HO} (h : H a = none) : Ex (hid S H) (hid S (upd H a o)) := hid_ex (Ex.new h)
/-- a pen: the list at p holds the list at q and a number; the list at q holds ints -/
def Pen (H : Hp) (p q : Addr) (s : Int) : Prop := 0 ≤ s ∧ ∃ ns : List Int, H p = some (.lst [.ref q, .int s]) ∧ H q = some (.lst (ns.map V.int)) ∧ ns ≠ [] ∧ ns.length ≤ 100
theorem Pen.ne {H : Hp} {p q : Addr} {s : Int} (h : Pen H p q s) : p ≠ q := by
  obtain ⟨_, ns, h1, h2, _, _⟩ := h
  intro e
  rw [e, h2] at h1
  cases ns with
  | nil => cases h1
  | cons n r => cases h1
theorem Pen.at {H H' : Hp} {p q : Addr} {s : Int} (h : Pen H p q s) (h1 : ∀ o, H p = some o → H' p = some o) (h2 : ∀ o, H q = some o → H' q = some o) : Pen H' p q s := by
  obtain ⟨a, ns, b, c, d, e⟩ := h
  exact ⟨a, ns, h1 _ b, h2 _ c, d, e⟩
theorem Pen.ex {H H' : Hp} {p q : Addr} {s : Int} (h : Pen H p q s) (e : Ex H H') : Pen H' p q s := h.at (fun o z => e _ _ z) (fun o z => e _ _ z)
/-- what is new is not the pen -/
theorem Pen.new {H : Hp} {p q a : Addr} {s : Int} (h : Pen H p q s) (n : H a = none) : a ∉ [p, q] := by
  obtain ⟨_, ns, b, c, _, _⟩ := h
  intro z
  rcases List.mem_cons.mp z with rfl | z
  · rw [n] at b; cases b
  · rcases List.mem_cons.mp z with rfl | z
    · rw [n] at c; cases c
    · cases z
theorem hid_pen_new {H : Hp} {p q a : Addr} {s : Int} {o : HO} (h : Pen H p q s) (n : H a = none) : hid [p, q] (upd H a o) a = some o := hid_iff.mpr ⟨h.new n, upd_same⟩
/-- the rest stands, and nothing that was free of it is known -/
def But2 (p q : Addr) (H H' : Hp) : Prop := ∀ b, b ≠ p → b ≠ q → H' b = H b
theorem But2.ex {p q : Addr} {H H' : Hp} (h : But2 p q H H') : Ex (hid [p, q] H) (hid [p, q] H') := fun b o z => by
  obtain ⟨h1, h2⟩ := hid_iff.mp z
  refine hid_iff.mpr ⟨h1, ?_⟩
  rw [h b (fun e => h1 (by rw [e]; exact List.mem_cons_self)) (fun e => h1 (by rw [e]; exact List.mem_cons_of_mem _ List.mem_cons_self))]
  exact h2
/-- text times int -/
def strRep (x : Str) (n : Nat) : Str := ⟨(List.replicate n x.cps.toList).flatten.toArray⟩
theorem fold_flat {l : List (Array Nat)} : ∀ {a : Array Nat}, (l.foldl (· ++ ·) a).toList = a.toList ++ (l.map (·.toList)).flatten := by
  induction l with
  | nil => intro a; simp
  | cons x r ih => intro a; rw [List.foldl_cons, ih]; simp [List.append_assoc]
theorem short {a b : Nat} (h1 : a ≤ 100) (h2 : b ≤ 100) : Builtin.Str.tooLong (a * b) = false := by
  have h : a * b ≤ 100 * 100 := Nat.mul_le_mul h1 h2
  unfold Builtin.Str.tooLong
  simp only [decide_eq_false_iff_not]
  rw [sizeLine_eq]
  omega
theorem op_mulS {X : Cx} : OpR X (binaryOp .Mult) (fun x y H Q => ∃ z k, x = .str z ∧ y = .int k ∧ 1 ≤ k ∧ k ≤ 100 ∧ z.length ≤ 100 ∧ Q (.str (strRep z k.toNat)) H) := by
  intro pins s σ H x y v u Q I rx ry h
  obtain ⟨z, k, rfl, rfl, h1, h2, h3, q⟩ := h
  obtain ⟨t, rfl⟩ := rx
  obtain ⟨t', rfl⟩ := ry
  refine PySem.P.mul_str ?_ (fun _ _ => ?_) (fun _ _ => ?_) ?_
  · simp only [Bool.or_eq_false_iff, decide_eq_false_iff_not]
    constructor <;> omega
  · have : (2 ^ 63 - 1 : Int) / k ≥ 100 := by
      have h0 : (100 : Int) ≤ (2 ^ 63 - 1) / k ↔ 100 * k ≤ 2 ^ 63 - 1 := Int.le_ediv_iff_mul_le (by omega)
      exact h0.mpr (by omega)
    omega
  · have : z.length * k.toNat ≤ 100 * 100 := Nat.mul_le_mul h3 (by omega)
    exact short h3 (by omega)
  · rw [if_neg (by omega)]
    split
    · rename_i hz
      have e : strRep z k.toNat = z := by
        rw [Bool.or_eq_true] at hz
        rcases hz with hz | hz
        · have : k = 1 := by simpa using hz
          subst this
          unfold strRep
          simp
        · have z0 : z.length = 0 := by simpa using hz
          have zc : z.cps = #[] := Array.eq_empty_of_size_eq_zero z0
          unfold strRep
          obtain ⟨c⟩ := z
          simp only at zc
          subst zc
          simp
      rw [e] at q
      exact ⟨.str z, H, I, ⟨t, rfl⟩, q⟩
    · have e : (⟨(List.replicate k.toNat z.cps).foldl (· ++ ·) #[]⟩ : Str) = strRep z k.toNat := by
        unfold strRep
        congr 1
        apply Array.toList_inj.mp
        rw [fold_flat]
        simp
      refine ⟨PySem.fits_reps (short h3 (by omega)), ?_⟩
      rw [e]
      exact ⟨.str (strRep z k.toNat), H, I.tok _, ⟨_, rfl⟩, q⟩
end Hd
namespace Hd
open PySem PySem.Spec PyProof.Rows L2 Evl
/-- a fresh list is changed: the rest of the old heap stands -/
theorem hid_mut {S : List Addr} {H0 H : Hp} {D : Addr} {o : HO} (e : Ex (hid S H0) (hid S H)) (n : H0 D = none) : Ex (hid S H0) (hid S (upd H D o)) := fun b u h => by
  obtain ⟨h1, h2⟩ := hid_iff.mp h
  obtain ⟨h3, h4⟩ := hid_iff.mp (e b u h)
  exact hid_iff.mpr ⟨h1, by rw [upd_ne (ne_of_none h2 n)]; exact h4⟩
theorem Pen.mut {H : Hp} {p q D : Addr} {s : Int} {o : HO} (h : Pen H p q s) (hD : D ∉ [p, q]) : Pen (upd H D o) p q s :=
  h.at (fun u z => by rw [upd_ne (fun e => hD (by rw [← e]; exact List.mem_cons_self))]; exact z) (fun u z => by rw [upd_ne (fun e => hD (by rw [← e]; exact List.mem_cons_of_mem _ List.mem_cons_self))]; exact z)
theorem But2.at {p q b : Addr} {H H' : Hp} {o : HO} (h : But2 p q H H') (hb : b ∉ [p, q]) (e : H b = some o) : H' b = some o := by
  rw [h b (fun z => hb (by rw [z]; exact List.mem_cons_self)) (fun z => hb (by rw [z]; exact List.mem_cons_of_mem _ List.mem_cons_self))]
  exact e
theorem nin {S : List Addr} {H : Hp} {b : Addr} {o : HO} (h : hid S H b = some o) : b ∉ S := (hid_iff.mp h).1
theorem join_signs : ∀ cs : List Nat, Txt.join (Str.ofString "") (cs.map fun c => (⟨#[c]⟩ : Str)) = ⟨cs.toArray⟩ := by
  intro cs
  have h : TL.tl (Txt.join (Str.ofString "") (cs.map fun c => (⟨#[c]⟩ : Str))) = cs := by
    rw [TL.join_eq, TL.tl_join]
    rw [show TL.tl (Str.ofString "") = [] from by decide +kernel]
    rw [List.map_map]
    induction cs with
    | nil => rfl
    | cons c r ih =>
      cases r with
      | nil => rfl
      | cons d r =>
        show [c] ++ ([] ++ TL.joinL [] _) = _
        rw [List.nil_append]
        exact congrArg (c :: ·) ih
  generalize Txt.join (Str.ofString "") (cs.map fun c => (⟨#[c]⟩ : Str)) = x at h
  obtain ⟨a⟩ := x
  have h' : a.toList = cs := h
  subst h'
  rfl
end Hd
namespace Hd
open PySem PySem.Spec PyProof.Rows L2 Evl
theorem inV_str (a : Str) (ns : List Str) : inV (.str a) (ns.map V.str) = decide (a ∈ ns) := by
  unfold inV
  rw [List.any_map]
  apply Bool.eq_iff_iff.mpr
  rw [List.any_eq_true, decide_eq_true_iff]
  constructor
  · rintro ⟨x, hx, e⟩
    have : x = a := by simpa [eqV] using e
    rwa [← this]
  · intro h
    exact ⟨a, h, by simp [eqV]⟩
theorem flat_str (ns : List Str) : (ns.map V.str).all flatV = true := by
  rw [List.all_map]
  exact List.all_eq_true.mpr fun _ _ => rfl
theorem inV_int (a : Int) (ns : List Int) : inV (.int a) (ns.map V.int) = decide (a ∈ ns) := by
  unfold inV
  rw [List.any_map]
  apply Bool.eq_iff_iff.mpr
  rw [List.any_eq_true, decide_eq_true_iff]
  constructor
  · rintro ⟨x, hx, e⟩
    have : x = a := by simpa [eqV] using e
    rwa [← this]
  · intro h
    exact ⟨a, h, by simp [eqV]⟩
theorem flat_int (ns : List Int) : (ns.map V.int).all flatV = true := by
  rw [List.all_map]
  exact List.all_eq_true.mpr fun _ _ => rfl
section
variable {K : PySem.W.Frag} {σ : L2.St} {H : Hp} {p : Addr} {a : Str} {ns : List Str} {Q : VK} {t : TT} {te : TE}
theorem i_inS (h : SqL K H p (ns.map V.str) ∨ SqT K H p (ns.map V.str)) (q : Q (.bl (decide (a ∈ ns))) H) : rIn K false (.str a) (.ref p) H Q :=
  ⟨p, _, rfl, h, rfl, flat_str ns, by rw [inV_str]; exact q⟩
theorem i_ninS (h : SqL K H p (ns.map V.str) ∨ SqT K H p (ns.map V.str)) (q : Q (.bl (!decide (a ∈ ns))) H) : rIn K true (.str a) (.ref p) H Q :=
  ⟨p, _, rfl, h, rfl, flat_str ns, by rw [inV_str]; exact q⟩
theorem el_lcR2 {ta : TA} {j : Nat} {vs : List Nat} {m n : Int} (f : Nat → Bool) (v : Nat → V) (h : EvA ta σ H [.int m, .int n]) (hm : 0 ≤ m ∧ m ≤ 40000) (hn : 0 ≤ n ∧ n ≤ 40000) (hw : ∀ x, wipe ((wipe σ vs).set j (some x)) vs = wipe σ vs)
    (ht : ∀ (i : Nat) H1, Ex H H1 → m + (i : Int) < n → EvT t ((wipe σ vs).set j (some (.int (m + (i : Int))))) H1 (f i)) (he : ∀ (i : Nat) H1, Ex H H1 → m + (i : Int) < n → f i = true → Ev te ((wipe σ vs).set j (some (.int (m + (i : Int))))) H1 (v i)) :
    EvL (tLc (iRng2 ta) (gName j) t te vs) σ H (given (n - m).toNat f v) := fun H0 e Q q => h H0 e _ fun H1 e1 => ⟨m, n, rfl, ⟨by omega, by omega, by omega, by omega⟩, fun Dl hD =>
  lc_range (lo := m) (n := (n - m).toNat) (Cw H1 f v Dl) ⟨hD, Ex.new hD, upd_same⟩ (fun i H' hi p => ⟨hw _, cw_turn p (by omega) (ht i H1 (e.trans e1) (by omega)) (fun hf => he i H1 (e.trans e1) (by omega) hf)⟩) (fun H' p => q Dl H' (fresh_back e1 p.1) (e1.trans p.2.1) p.2.2)⟩
end
theorem nodup_len {α : Type} [DecidableEq α] : ∀ {l l' : List α}, l.Nodup → (∀ a ∈ l, a ∈ l') → l.length ≤ l'.length
  | [], _, _, _ => Nat.zero_le _
  | a :: r, l', nd, h => by
    obtain ⟨n1, n2⟩ := List.nodup_cons.mp nd
    have hm : a ∈ l' := h a List.mem_cons_self
    have ih := nodup_len (l := r) (l' := l'.erase a) n2 (fun b hb => by
      have hne : b ≠ a := fun e => n1 (by rw [← e]; exact hb)
      exact (List.mem_erase_of_ne hne).mpr (h b (List.mem_cons_of_mem _ hb)))
    rw [List.length_erase_of_mem hm] at ih
    have : 0 < l'.length := List.length_pos_of_mem hm
    rw [List.length_cons]
    omega
theorem given_mem {n : Nat} {f : Nat → Bool} {v : Nat → V} {i : Nat} (hi : i < n) (hf : f i = true) : ∃ j, j < n ∧ f j = true ∧ (given n f v)[0]? = some (v j) ∧ 0 < (given n f v).length := by
  have h1 : i ∈ (List.range n).filter f := List.mem_filter.mpr ⟨List.mem_range.mpr hi, hf⟩
  unfold given
  cases e : (List.range n).filter f with
  | nil => rw [e] at h1; cases h1
  | cons j r =>
    have h2 : j ∈ (List.range n).filter f := by rw [e]; exact List.mem_cons_self
    obtain ⟨h3, h4⟩ := List.mem_filter.mp h2
    exact ⟨j, List.mem_range.mp h3, h4, rfl, by rw [List.map_cons, List.length_cons]; omega⟩
end Hd
namespace Hd
open PySem PySem.Spec PyProof.Rows L2 Evl
theorem lay_ints : ∀ ns : List Int, PyData.canLayAll0 (ns.map PyData.int) = true
  | [] => rfl
  | n :: r => by
    show (PyData.canLay0 (.int n) && PyData.canLayAll0 (r.map PyData.int)) = true
    rw [lay_ints r]
    rfl
theorem depth_ints : ∀ ns : List Int, PyData.depthAll (ns.map PyData.int) = 0
  | [] => rfl
  | n :: r => by
    show max (PyData.depth (.int n)) (PyData.depthAll (r.map PyData.int)) = 0
    rw [depth_ints r]
    rfl
theorem shaped_ints (ns : List Int) : SeqAt.shaped (.list (ns.map PyData.int)) = true := by
  unfold SeqAt.shaped
  have h1 : (PyData.list (ns.map PyData.int)).canLay0 = true := lay_ints ns
  have h2 : (PyData.list (ns.map PyData.int)).depth = 1 := by
    show PyData.depthAll (ns.map PyData.int) + 1 = 1
    rw [depth_ints]
  rw [h1, h2]
  rfl
theorem eqv_nil (ns : List Int) : PyData.eqv (.list (ns.map PyData.int)) (.list []) = decide (ns = []) := by
  cases ns with
  | nil => rfl
  | cons n r => rfl
/-- all items are places below n with P -/
def AllG (n : Nat) (P : Nat → Prop) (xs : List V) : Prop := ∀ v ∈ xs, ∃ g : Nat, v = .int (g : Int) ∧ g < n ∧ P g
theorem allG_ints {n : Nat} {P : Nat → Prop} : ∀ {xs : List V}, AllG n P xs → ∃ ns : List Int, xs = ns.map V.int
  | [], _ => ⟨[], rfl⟩
  | x :: r, h => by
    obtain ⟨g, e, _⟩ := h x List.mem_cons_self
    obtain ⟨ns, e2⟩ := allG_ints (xs := r) fun v hv => h v (List.mem_cons_of_mem _ hv)
    exact ⟨(g : Int) :: ns, by rw [e, e2]; rfl⟩
theorem allG_given {n m a : Nat} {f : Nat → Bool} {P : Nat → Prop} (h : ∀ i, i < m → f i = true → a + i < n ∧ P (a + i)) : AllG n P (given m f fun i => .int ((a : Int) + (i : Int))) := by
  intro v hv
  unfold given at hv
  obtain ⟨i, hi, rfl⟩ := List.mem_map.mp hv
  obtain ⟨h1, h2⟩ := List.mem_filter.mp hi
  obtain ⟨h3, h4⟩ := h i (List.mem_range.mp h1) h2
  exact ⟨a + i, by show V.int ((a : Int) + (i : Int)) = V.int ((a + i : Nat) : Int); rw [Int.natCast_add], h3, h4⟩
theorem allG_given0 {n m : Nat} {f : Nat → Bool} {P : Nat → Prop} (h : ∀ i, i < m → f i = true → i < n ∧ P i) : AllG n P (given m f fun i => .int (i : Int)) := by
  intro v hv
  unfold given at hv
  obtain ⟨i, hi, rfl⟩ := List.mem_map.mp hv
  obtain ⟨h1, h2⟩ := List.mem_filter.mp hi
  obtain ⟨h3, h4⟩ := h i (List.mem_range.mp h1) h2
  exact ⟨i, rfl, h3, h4⟩
theorem AllG.app {n : Nat} {P : Nat → Prop} {xs ys : List V} (h1 : AllG n P xs) (h2 : AllG n P ys) : AllG n P (xs ++ ys) := fun v hv => (List.mem_append.mp hv).elim (h1 v) (h2 v)
theorem AllG.rep {n k : Nat} {P : Nat → Prop} {xs : List V} (h : AllG n P xs) : AllG n P (List.replicate k xs).flatten := fun v hv => by
  obtain ⟨l, hl, hv⟩ := List.mem_flatten.mp hv
  rw [(List.mem_replicate.mp hl).2] at hv
  exact h v hv
theorem AllG.mono {n : Nat} {P P' : Nat → Prop} {xs : List V} (h : AllG n P xs) (hp : ∀ g, P g → P' g) : AllG n P' xs := fun v hv => by
  obtain ⟨g, a, b, c⟩ := h v hv
  exact ⟨g, a, b, hp g c⟩
theorem allG_rg {n : Nat} {a b : Int} (ha : 0 ≤ a) (hb : b ≤ n) : AllG n (fun g => a ≤ g) (rgV a b) := fun v hv => by
  unfold rgV at hv
  obtain ⟨i, hi, rfl⟩ := List.mem_map.mp hv
  have := List.mem_range.mp hi
  exact ⟨(a + (i : Nat)).toNat, by congr 1; omega, by omega, by omega⟩
section
variable {K : PySem.W.Frag} {σ : L2.St} {H : Hp} {Q : VK} {p : Addr}
theorem dp_ints' {K : PySem.W.Frag} {H : Hp} : ∀ bs : List Int, DpAll K H (bs.map V.int) (bs.map PyData.int)
  | [] => .nil
  | b :: r => .cons (.int b) (dp_ints' r)
/-- xs != [], xs == [] where xs are ints -/
theorem i_neNil {q : Addr} {ns : List Int} (h : H p = some (.lst (ns.map V.int))) (h2 : H q = some (.lst [])) (k : Q (.bl (!decide (ns = []))) H) : rNeD K (.ref p) (.ref q) H Q :=
  ⟨.list (ns.map PyData.int), .list [], .lst (SqL.of h) (dp_ints' ns), .lst (SqL.of h2) .nil, shaped_ints ns, rfl, by rw [eqv_nil]; exact k⟩
theorem i_eqNil {q : Addr} {ns : List Int} (h : H p = some (.lst (ns.map V.int))) (h2 : H q = some (.lst [])) (k : Q (.bl (decide (ns = []))) H) : rEqD K (.ref p) (.ref q) H Q :=
  ⟨.list (ns.map PyData.int), .list [], .lst (SqL.of h) (dp_ints' ns), .lst (SqL.of h2) .nil, shaped_ints ns, rfl, by rw [eqv_nil]; exact k⟩
theorem i_rep {xs : List V} {k : Int} (h : H p = some (.lst xs)) (h0 : 0 ≤ k) (h1 : k ≤ 100) (h2 : xs.length ≤ 1000) (q : ∀ a, H a = none → Q (.ref a) (upd H a (.lst (List.replicate k.toNat xs).flatten))) : rRep (.ref p) (.int k) H Q := by
  refine ⟨p, k, xs, rfl, rfl, h, by omega, by omega, ?_, q⟩
  have : xs.length * k.toNat ≤ 1000 * 100 := Nat.mul_le_mul h2 (by omega)
  exact Nat.le_trans this (by decide)
theorem i_lstRg {te : L2.St → Hp → (Int → Int → Hp → Prop) → Prop} (q : te σ H fun a b H1 => RgOk a b ∧ ∀ r, H1 r = none → Q (.ref r) (upd H1 r (.lst (rgV a b)))) : tLstRg te σ H Q := q
theorem i_rg1 {ta : TE} {QR : Int → Int → Hp → Prop} (q : ta σ H fun x H1 => ∃ n, x = .int n ∧ QR 0 n H1) : tRg1 ta σ H QR := q
theorem i_rg2 {ta tb : TE} {QR : Int → Int → Hp → Prop} (q : ta σ H fun x H1 => tb σ H1 fun y H2 => ∃ i j, x = .int i ∧ y = .int j ∧ QR i j H2) : tRg2 ta tb σ H QR := q
theorem i_ex1 {n : Int} {R : Int → Prop} (q : R n) : ∃ m, V.int n = V.int m ∧ R m := ⟨n, rfl, q⟩
theorem i_ex2 {n m : Int} {R : Int → Int → Prop} (q : R n m) : ∃ i j, V.int n = V.int i ∧ V.int m = V.int j ∧ R i j := ⟨n, m, rfl, rfl, q⟩
end
end Hd
namespace Hd
open PySem PySem.Spec PyProof.Rows L2 Evl
theorem hid_less {S S' : List Addr} {H : Hp} (hs : ∀ a ∈ S, a ∈ S') : Ex (hid S' H) (hid S H) := fun b o h => by
  obtain ⟨h1, h2⟩ := hid_iff.mp h
  exact hid_iff.mpr ⟨fun z => h1 (hs _ z), h2⟩
theorem sub2 {p q d : Addr} : ∀ a ∈ [p, q], a ∈ [p, q, d] := fun a h => by
  rcases List.mem_cons.mp h with h | h
  · exact List.mem_cons.mpr (.inl h)
  · exact List.mem_cons.mpr (.inr (List.mem_cons.mpr (.inl (List.mem_singleton.mp h))))
theorem in3 {p q d : Addr} : d ∈ [p, q, d] := List.mem_cons_of_mem _ (List.mem_cons_of_mem _ List.mem_cons_self)
theorem nin3 {p q d a : Addr} (h : a ∉ [p, q]) (hd : a ≠ d) : a ∉ [p, q, d] := fun z => by
  rcases List.mem_cons.mp z with z | z
  · exact h (by rw [z]; exact List.mem_cons_self)
  · rcases List.mem_cons.mp z with z | z
    · exact h (by rw [z]; exact List.mem_cons_of_mem _ List.mem_cons_self)
    · exact hd (List.mem_singleton.mp z)
end Hd
namespace Hd
open PySem PySem.Spec PyProof.Rows L2 Evl
section
variable {K : PySem.W.Frag} {σ : L2.St} {H : Hp} {Q : VK} {tk tv td ty : TE} {r : List (TE × TE)}
theorem i_rU {g : Int → V} {i : Int} (q : Q (g i) H) : rU g (.int i) H Q := ⟨i, rfl, q⟩
theorem i_pcons {QP : List (V × V) → Hp → Prop} (q : tk σ H fun x H1 => tv σ H1 fun y H2 => tPairs r σ H2 fun ps H3 => QP ((x, y) :: ps) H3) : tPairs ((tk, tv) :: r) σ H QP := q
theorem i_pnil {QP : List (V × V) → Hp → Prop} (q : QP [] H) : tPairs [] σ H QP := q
theorem i_disp (q : ∀ p, H p = none → tPairs r σ (upd H p (.dK [])) fun ps H2 => H2 p = some (.dK []) ∧ ∃ kvs : List (Key × V), ps = kvs.map (fun kv => (kV kv.1, kv.2)) ∧ kvs.length ≤ 15 ∧ Q (.ref p) (upd H2 p (.dK (mergeK [] kvs)))) : tDisp r σ H Q := q
theorem i_dget (q : td σ H fun x H1 => ty σ H1 fun y H2 => ∃ a v, x = .ref a ∧ DGet H2 a y (some v) ∧ Q v H2) : tDGet td ty σ H Q := q
theorem i_dg {a : Addr} {w : Str} {kvs : List (Key × V)} {v : V} {R : V → Prop} (h : H a = some (.dK kvs)) (e : valV kvs (Sum.inr w) = some v) (q : R v) : ∃ a' v', V.ref a = .ref a' ∧ DGet H a' (.str w) (some v') ∧ R v' :=
  ⟨a, v, rfl, by have := DGet.k (k := Sum.inr w) h; rw [e] at this; exact this, q⟩
end
end Hd

/-! Rules that the layer lacks: a walk over a list or a tuple, a starred list in a display. -/
namespace Nr
open PySem PySem.Spec PyProof.Rows L2 Evl
/-! ### a walk over what is a list or a tuple -/
def iSeq (K : PySem.W.Frag) (tl : TE) : TI := fun σ H R => tl σ H fun x H1 => ∃ a, x = .ref a ∧ (((∃ xs, SqL K H1 a xs) ∧ R (Itl K a) H1) ∨ ((∃ xs, SqT K H1 a xs) ∧ R (Itt K a) H1))
theorem pi_seq {X : Cx} {tg l : Expr} {tl : TE} (hl : PE X l tl) : PI X tg l (iSeq X.K tl) := by
  refine ⟨fun pins s σ H R I h => ?_⟩
  refine thn (hl.run pins s σ H _ I h) fun v s1 ⟨x, H1, I1, r1, a, e, q1⟩ => ?_
  subst e
  obtain rfl : v = Value.ref a := r1
  have fpn : ∀ b ∈ [s1.heap.objs.size], FpOk X pins H1 b := fun b hb => by
    rw [List.mem_singleton.mp hb]
    exact I1.fpOk (Nat.le_refl _) (I1.hok.fresh (Nat.le_refl _))
  rcases q1 with ⟨⟨xs, hq⟩, q⟩ | ⟨⟨xs, hq⟩, q⟩
  · obtain ⟨its, rv, p, hz⟩ := I1.list hq
    exact wpAny_pyIter_list p.isList ⟨s1.heap.objs.size, [s1.heap.objs.size], _, _, H1, rfl, I1.kept (t' := s1.toks) fun b o e => Heap.get?_push_of_some _ e, turn_list a _, ⟨_, Heap.get?_push_size _ rfl, rfl, rfl⟩, fpn, q⟩
  · obtain ⟨its, rv, p, hz⟩ := I1.tuple hq
    exact wpAny_pyIter_tuple (show s1.heap.IsTuple a its.toArray from p) ⟨s1.heap.objs.size, [s1.heap.objs.size], _, _, H1, rfl, I1.kept (t' := s1.toks) fun b o e => Heap.get?_push_of_some _ e, turn_tuple a _, ⟨_, Heap.get?_push_size _ rfl, rfl, rfl⟩, fpn, q⟩
section
variable {K : PySem.W.Frag} {σ : L2.St} {H : Hp} {ta te : TE} {t : TT} {g : TG} {s : TS} {D : Ends} {Q : VK}
theorem i_lcS {vs : List Nat} (q : ta σ H fun x H1 => ∃ a, x = .ref a ∧ (((∃ xs, SqL K H1 a xs) ∧ Rd.LcAsk (Itl K a) g t te vs σ Q H1) ∨ ((∃ xs, SqT K H1 a xs) ∧ Rd.LcAsk (Itt K a) g t te vs σ Q H1))) : tLc (iSeq K ta) g t te vs σ H Q := q
theorem i_forS (q : ta σ H fun x H1 => ∃ a, x = .ref a ∧ (((∃ xs, SqL K H1 a xs) ∧ Rd.ForAsk (Itl K a) g s D σ H1) ∨ ((∃ xs, SqT K H1 a xs) ∧ Rd.ForAsk (Itt K a) g s D σ H1))) : tFor (iSeq K ta) g s D σ H := q
/-- a list or a tuple of these items -/
def Sq (K : PySem.W.Frag) (H : Hp) (a : Addr) (xs : List V) : Prop := SqL K H a xs ∨ SqT K H a xs
theorem Sq.mono {H H' : Hp} {a : Addr} {xs : List V} (e : Ex H H') (h : Sq K H a xs) : Sq K H' a xs := h.elim (fun h => .inl (ex_l e h)) (fun h => .inr (ex_t e h))
/-- nothing that the loop makes touches the source: the invariant says that what was known is known -/
theorem lcS {H0 : Hp} {a : Addr} {xs : List V} {vs : List Nat} (h : Sq K H0 a xs) (e0 : Ex H0 H) (q : ∀ D, H D = none → ∃ Pv : Nat → Hp → Prop, Pv 0 (upd H D (.lst [])) ∧ (∀ i H2, Pv i H2 → Ex H0 H2) ∧
    (∀ (i : Nat) x H2, xs[i]? = some x → Pv i H2 → g x (wipe σ vs) H2 fun σ2 H2 => wipe σ2 vs = wipe σ vs ∧ t σ2 H2 fun b H3 =>
      if b = true then te σ2 H3 fun y H4 => ∃ acc, H4 D = some (.lst acc) ∧ acc.length < sizeLine ∧ Pv (i + 1) (upd H4 D (.lst (acc ++ [y]))) else Pv (i + 1) H3) ∧ ∀ H2, Pv xs.length H2 → Q (.ref D) H2) :
    ∃ a', V.ref a = .ref a' ∧ (((∃ ys, SqL K H a' ys) ∧ Rd.LcAsk (Itl K a') g t te vs σ Q H) ∨ ((∃ ys, SqT K H a' ys) ∧ Rd.LcAsk (Itt K a') g t te vs σ Q H)) := by
  refine ⟨a, rfl, ?_⟩
  rcases h with h | h
  · refine .inl ⟨⟨xs, ex_l e0 h⟩, fun D hD => ?_⟩
    obtain ⟨Pv, p0, pl, ps, pd⟩ := q D hD
    exact lc_list (xs := xs) Pv p0 (fun i H2 _ p => ex_l (pl i H2 p) h) ps pd
  · refine .inr ⟨⟨xs, ex_t e0 h⟩, fun D hD => ?_⟩
    obtain ⟨Pv, p0, pl, ps, pd⟩ := q D hD
    exact lc_tup (xs := xs) Pv p0 (fun i H2 _ p => ex_t (pl i H2 p) h) ps pd
theorem forS {H0 : Hp} {a : Addr} {xs : List V} (h : Sq K H0 a xs) (Pv : Nat → L2.St → Hp → Prop) (p0 : Pv 0 σ H) (pl : ∀ i σ H2, Pv i σ H2 → Ex H0 H2)
    (ps : ∀ i x σ H, xs[i]? = some x → Pv i σ H → g x σ H fun σ2 H2 => s { D with nx := Pv (i + 1), ct := Pv (i + 1), bk := D.nx } σ2 H2) (pd : ∀ σ H, Pv xs.length σ H → D.nx σ H) :
    ∃ a', V.ref a = .ref a' ∧ (((∃ ys, SqL K H a' ys) ∧ Rd.ForAsk (Itl K a') g s D σ H) ∨ ((∃ ys, SqT K H a' ys) ∧ Rd.ForAsk (Itt K a') g s D σ H)) := by
  refine ⟨a, rfl, ?_⟩
  rcases h with h | h
  · exact .inl ⟨⟨xs, ex_l (pl 0 σ H p0) h⟩, for_list (xs := xs) Pv p0 (fun i σ H2 _ p => ex_l (pl i σ H2 p) h) ps pd⟩
  · exact .inr ⟨⟨xs, ex_t (pl 0 σ H p0) h⟩, for_tup (xs := xs) Pv p0 (fun i σ H2 _ p => ex_t (pl i σ H2 p) h) ps pd⟩
end
/-! ### [*xs, ..] -/
section
variable {X : Cx} {pins : List (Addr × Obj)} {σ : L2.St} {H : Hp} {s : Shared}
/-- the items that a starred list hands on -/
theorem star_list {a : Addr} {xs : List V} {E : Value → Shared → Prop} {Q : List Value → Shared → Prop} (I : Inv X pins σ H s) (h : SqL X.K H a xs) (hQ : ∀ us s', Inv X pins σ H s' → Vals xs us → Q us s') :
    PySem.W.StarOf (model X.prog X.w) X.A E (.ref a) Q s := by
  obtain ⟨its, r, ⟨o, n, ho, hc, hd1, hd⟩, hz⟩ := I.list h
  have hT : s.TypeIs (.ref a) "list" := ⟨o, ho, hc⟩
  have hlen := r.length
  have walk : wpAny (model X.prog X.w) X.A (collect (.ref a)) Q E s := by
    refine wpAny_collect_seq a (.inl rfl) ho hc hd (fun h' hk => ?_) (by rw [List.size_toArray]; omega)
    rw [List.toList_toArray]
    exact hQ its _ (I.kept (t' := s.toks) hk) r
  unfold PySem.W.StarOf notIterableAtAll
  exact wpAny_bind (wpAny_specialOf hT PySem.F.slot_list_iter.lookup (wpAny_pure ⟨rfl, walk⟩))
def tStar (K : PySem.W.Frag) (te : TE) (tr : TA) : TA := fun σ H Q => te σ H fun x H1 => ∃ a xs, x = .ref a ∧ SqL K H1 a xs ∧ tr σ H1 fun ys H2 => Q (xs ++ ys) H2
theorem pa_star {e : Expr} {es : List Expr} {te : TE} {t : TA} {p : Pos} (he : PE X e te) (hr : PA X es t) (hs : starEach (.Starred e p :: es) X.env = (true, eval e X.env) :: starEach es X.env := by rfl) : PA X (.Starred e p :: es) (tStar X.K te t) := by
  refine ⟨fun pos pins s σ H Q I h => ?_⟩
  refine PySem.W.items_star (thn (he.run pins s σ H _ I h) fun v s1 ⟨x, H1, I1, r1, a, xs, e, hx, q⟩ => ?_) hs
  subst e
  obtain rfl : v = Value.ref a := r1
  refine star_list I1 hx fun us s2 I2 rv => ?_
  exact thn (hr.run pos pins s2 σ H1 _ I2 q) fun ws s3 ⟨ys, H3, I3, r3, q3⟩ => ⟨xs ++ ys, H3, I3, rv.append r3, q3⟩
theorem i_star {K : PySem.W.Frag} {te : TE} {t : TA} {Q : List V → Hp → Prop} (q : te σ H fun x H1 => ∃ a xs, x = .ref a ∧ SqL K H1 a xs ∧ t σ H1 fun ys H2 => Q (xs ++ ys) H2) : tStar K te t σ H Q := q
def rTup (K : PySem.W.Frag) : List V → Hp → VK → Prop := fun vs H Q => ∃ a ys, vs = [V.ref a] ∧ ((SqL K H a ys ∧ ∀ b, H b = none → Q (.ref b) (upd H b (.tup ys))) ∨ (SqT K H a ys ∧ Q (.ref a) H))
theorem call_tupR {X : Cx} : CallR X (.type "tuple") (rTup X.K) := call_tuple_of
theorem i_tupL {K : PySem.W.Frag} {H : Hp} {Q : VK} {a : Addr} {ys : List V} (h : SqL K H a ys) (q : ∀ b, H b = none → Q (.ref b) (upd H b (.tup ys))) : rTup K [.ref a] H Q := ⟨a, ys, rfl, .inl ⟨h, q⟩⟩
theorem i_tupT {K : PySem.W.Frag} {H : Hp} {Q : VK} {a : Addr} {ys : List V} (h : SqT K H a ys) (q : Q (.ref a) H) : rTup K [.ref a] H Q := ⟨a, ys, rfl, .inr ⟨h, q⟩⟩
theorem i_sl {r : V → Option Int → Option Int → Hp → VK → Prop} {te : TE} {tl th : TO} {σ : L2.St} {H : Hp} {Q : VK} (q : te σ H fun x H1 => tl σ H1 fun l H2 => th σ H2 fun u H3 => r x l u H3 Q) : tSl r te tl th σ H Q := q
theorem i_part {t : TE} {σ : L2.St} {H : Hp} {QO : Option Int → Hp → Prop} (q : t σ H fun x H1 => ∃ i, x = .int i ∧ QO (some i) H1) : tPart t σ H QO := q
theorem i_nop {σ : L2.St} {H : Hp} {QO : Option Int → Hp → Prop} (q : QO none H) : tNoPart σ H QO := q
theorem i_slT {K : PySem.W.Frag} {a : Addr} {xs : List V} {lo hi : Option Int} {H : Hp} {Q : VK} (h : SqT K H a xs) (c : ¬ (HT.sIx xs.length 0 lo = 0 ∧ HT.sIx xs.length xs.length hi = xs.length)) (q : ∀ p, H p = none → Q (.ref p) (upd H p (.tup (cutV xs lo hi)))) : rSlT K (.ref a) lo hi H Q := ⟨a, xs, rfl, h, c, q⟩
theorem ite_eF {c : Bool} {a b : Prop} (e : c = false) (h : b) : if c = true then a else b := by rw [if_neg (by rw [e]; exact Bool.false_ne_true)]; exact h
theorem ite_eT {c : Bool} {a b : Prop} (e : c = true) (h : a) : if c = true then a else b := by rw [if_pos e]; exact h
theorem i_tyL {K : PySem.W.Frag} {p : Addr} {xs : List V} {R : Prop} (h : H p = some (.lst xs)) (q : R) : tyV K "list" (.ref p) H ∧ R := ⟨.inl ⟨rfl, _, SqL.of h⟩, q⟩
end
end Nr

/-! A walk over enumerate(a tuple). -/
namespace En
open PySem PySem.Spec PyProof.Rows L2 Evl
theorem meets_newT (tp : Addr) (its : Array Value) :
    Meets (Builtin.«enumerate.__new__» ⟨[.type "enumerate", .ref tp], []⟩) (fun _ R st => st.heap.IsTuple tp its ∧
      R (.ok (.ret (.ref (st.heap.push { cls := .type "tuple_iterator", data := .fields #[.ref tp, .int 0 0] }).objs.size)))
        { st with heap := (st.heap.push { cls := .type "tuple_iterator", data := .fields #[.ref tp, .int 0 0] }).push { cls := .type "enumerate", data := .fields #[.none, .bool false, .ref st.heap.objs.size, rawInt 0, .none, .none] } }) :=
  .of_wp fun pr wo Ar Rr st ⟨hT, fin⟩ => by
    obtain ⟨hp, gl, di, to, ou⟩ := st; have hsb := sub_enumerate
    have q1 : ∀ {A' : Around} {E Q : Value → Shared → Prop}, Q (.ref hp.objs.size) ⟨hp.push { cls := .type "tuple_iterator", data := .fields #[.ref tp, .int 0 0] }, gl, di, to, ou⟩ → wpAny (model pr wo) A' (pyIter (.ref tp)) Q E ⟨hp, gl, di, to, ou⟩ := fun q => wpAny_pyIter_tuple hT q
    wp_walk using q1
    refine wpAny_stack_any fun st' => wpAny_pure ?_
    split
    · rename_i cc _ _ _ _ _
      cases (cc == Value.type "enumerate") <;> (wp_walk using q1; exact ⟨_, rfl, fin⟩)
    · wp_walk using q1
      exact ⟨_, rfl, fin⟩
theorem call_enumT {prog : Program} {w : World} {A : Around} {E : Value → Shared → Prop} {s : Shared} {tp : Addr} {its : Array Value} {Q : Value → Shared → Prop} (hT : s.heap.IsTuple tp its)
    (k : ∀ h', IsEnum h' (s.heap.objs.size + 1) s.heap.objs.size 0 .none → h'.IsTupleIter s.heap.objs.size tp 0 → (∀ b o, s.heap.get? b = some o → h'.get? b = some o) → Q (.ref (s.heap.objs.size + 1)) { s with heap := h' }) :
    wpAny (model prog w) A (call (.type "enumerate") [.ref tp]) Q E s := by
  refine callType_new F.called_enumerate (by decide) (F.typeCall_enumerate_1 _) (F.newCall_enumerate_1 _) (fun o => F.args_object_init_2 o _) F.entry_enumerate_new (meets_newT tp its) ⟨hT, ?_⟩
  have hz : (s.heap.push { cls := .type "tuple_iterator", data := .fields #[.ref tp, .int 0 0] }).objs.size = s.heap.objs.size + 1 := Heap.size_push ..
  show _ ∧ _
  rw [hz]
  have he : IsEnum ((s.heap.push { cls := .type "tuple_iterator", data := .fields #[.ref tp, .int 0 0] }).push { cls := .type "enumerate", data := .fields #[.none, .bool false, .ref s.heap.objs.size, rawInt 0, .none, .none] }) (s.heap.objs.size + 1) s.heap.objs.size 0 .none := by
    have z := Heap.get?_push_size (s.heap.push { cls := .type "tuple_iterator", data := .fields #[.ref tp, .int 0 0] }) (o := { cls := .type "enumerate", data := .fields #[.none, .bool false, .ref s.heap.objs.size, rawInt 0, .none, .none] }) rfl
    rw [hz] at z; exact z
  exact ⟨⟨_, he, rfl⟩, k _ he ⟨_, Heap.get?_push_of_some _ (Heap.get?_push_size _ rfl), rfl, rfl⟩ fun b o y => Heap.get?_push_of_some _ (Heap.get?_push_of_some _ y)⟩
/-- the tuple at a at each turn, each item in a new pair -/
def IteT (K : PySem.W.Frag) (a : Addr) : It :=
  ⟨fun i H => ∃ (xs : List V) (x : V), SqT K H a xs ∧ xs[i]? = some x, fun i H v H' => ∃ t x, v = .ref t ∧ H t = none ∧ H' = upd H t (.tup [.int (i : Nat), x]) ∧ ∀ ys, SqT K H a ys → ys[i]? = some x, fun i H => ∃ xs : List V, SqT K H a xs ∧ xs.length ≤ i⟩
theorem turn_enumT {P : Program} {w : World} {K : PySem.W.Frag} {elts : List Expr} {kk : Nat} {tpos : Pos} (a e it : Addr) :
    Turn P w K (.Tuple elts kk tpos) (IteT K a) [e, it] e (fun i h => (∃ old, IsEnum h e it (0 + ((i : Nat) : Int)) old) ∧ h.IsTupleIter it a i ∧ e ≠ it) where
  mem := by simp
  obj := fun i h st b hb => by
    obtain ⟨⟨old, he⟩, ⟨o, ho, hc, hd⟩, _⟩ := st
    rcases (by simpa using hb : b = e ∨ b = it) with z | z
    · subst z
      exact ⟨_, he, fun v q => nomatch q⟩
    · subst z
      exact ⟨o, ho, fun v q => by rw [hd] at q; cases q⟩
  keep := fun i h h' ⟨⟨old, he⟩, hi, hne⟩ k => ⟨⟨old, k e (by simp) _ he⟩, hi.at fun o q => k it (by simp) o q, hne⟩
  item := by
    intro X hP hw hK hc i pins s σ H E I hf st hg
    subst hP hw hK
    obtain ⟨⟨old, he⟩, hit, hne⟩ := st
    obtain ⟨xs, x, hq, hx⟩ := hg
    obtain ⟨its, rv, p, hz⟩ := I.tuple hq
    have pT : s.heap.IsTuple a its.toArray := p
    obtain ⟨u, hu, ru⟩ := rv.get hx
    have hel : e < s.heap.objs.size := Heap.lt_size he
    have hil : it < s.heap.objs.size := by obtain ⟨_, q, _⟩ := hit; exact Heap.lt_size q
    have hae : a ≠ e := fun z => by
      subst z
      obtain ⟨o, ho, hcl, _⟩ := pT
      rw [he] at ho
      cases ho
      exact absurd (Value.type.inj hcl) (by decide)
    have hai : a ≠ it := fun z => by
      subst z
      obtain ⟨o, ho, hcl, _⟩ := pT
      obtain ⟨o2, ho2, hc2, _⟩ := hit
      rw [ho] at ho2
      cases ho2
      rw [hcl] at hc2
      exact absurd (Value.type.inj hc2) (by decide)
    have D := Draws.tuple (prog := X.prog) (w := X.w) (A := X.A.in1) (show X.A.in1.handled = none from I.ok.hd hc) it a hai its.toArray
    have hlt : i < its.toArray.size := by
      rw [List.size_toArray]
      exact (List.getElem?_eq_some_iff.mp hu).1
    refine wpAny_pyNext_enum_itemC D he ⟨hit, pT⟩ hlt hne (by simp [hne, Ne.symm hae]) fun y h' tk hy ho hst' hT hsz hk => ?_
    have hyu : y = u := by
      have hu' : its.toArray[i]? = some u := by simpa using hu
      rw [hu'] at hy
      cases hy
      rfl
    subst hyu
    refine ⟨_, rfl, wpAny_letOwnedTupleGo_enum (s := { s with heap := h', toks := tk + 1 }) ho fun h2 he2 sb => ?_⟩
    have hT2 : h2.get? s.heap.objs.size = some { cls := .type "tuple", data := .seq #[.int (0 + (i : Int)) tk, y] } := (sb.2 _ (Nat.ne_of_gt hel)).trans hT
    have ei : (0 : Int) + (i : Int) = ((i : Nat) : Int) := by omega
    rw [ei] at hT2
    have new : ObjOk X.prog X.w (upd H s.heap.objs.size (.tup [.int (i : Nat), x])) h2 s.heap.objs.size (.tup [.int (i : Nat), x]) := ⟨by show 2 ≤ sizeLine; decide, [.int i tk, y], .cons ⟨_, rfl⟩ (.cons ru .nil), ⟨_, hT2, rfl, _, rfl⟩⟩
    have I1 : Inv X pins σ (upd H s.heap.objs.size (.tup [.int (i : Nat), x])) { s with heap := h2, toks := tk + 1 } :=
      I.turnedNew (ch := [e, it]) (fun b ob hb q => (sb.2 b fun z => hb (by simp [z])).trans (hk b ob (fun z => hb (by simp [z])) (fun z => hb (by simp [z])) q)) hf (Nat.le_refl _) new
    refine ⟨.ref s.heap.objs.size, _, I1, rfl, ⟨_, x, rfl, I.hok.fresh (Nat.le_refl _), rfl, fun ys hys => by rw [I.tuple_inj hys hq]; exact hx⟩, ⟨⟨y, ?_⟩, hst'.1.at fun o q => (sb.2 it (Ne.symm hne)).trans q, hne⟩, fun b hb => ?_⟩
    · have e1 : (0 : Int) + ((i + 1 : Nat) : Int) = 0 + (i : Int) + 1 := by omega
      rw [e1]
      exact he2
    · have hb' : b < s.heap.objs.size := by
        rcases (by simpa using hb : b = e ∨ b = it) with z | z
        · rw [z]; exact hel
        · rw [z]; exact hil
      rw [upd_ne (Nat.ne_of_lt hb')]
      exact (hf b hb).1
  done := by
    intro X hP hw hK hc i pins s σ H E I hf st hg
    subst hP hw hK
    obtain ⟨⟨old, he⟩, hit, hne⟩ := st
    obtain ⟨xs, hq, hx⟩ := hg
    obtain ⟨its, rv, p, hz⟩ := I.tuple hq
    have pT : s.heap.IsTuple a its.toArray := p
    obtain ⟨f0, f1, f2, f3, f4, f5⟩ := hf it (by simp)
    have hl := rv.length
    have hai : a ≠ it := fun z => by
      subst z
      obtain ⟨o, ho, hcl, _⟩ := pT
      obtain ⟨o2, ho2, hc2, _⟩ := hit
      rw [ho] at ho2
      cases ho2
      rw [hcl] at hc2
      exact absurd (Value.type.inj hc2) (by decide)
    have D : Draws X.prog X.w X.A.in1 it [it, a] 0 (fun _ _ => False) (fun _ h => h.IsTupleIter it a i ∧ h.IsTuple a its.toArray) :=
      ⟨fun _ _ z => let ⟨o, ho, _⟩ := z.1; ⟨o, ho⟩, fun _ _ _ z y => ⟨z.1.at fun o q => y it (by simp) o q, z.2.at fun o q => y a (by simp) o q⟩, fun j _ _ _ hj => (Nat.not_lt_zero j hj).elim, fun s Q E z hE => wpAny_nextOf_tuple_end (show X.A.in1.handled = none from I.ok.hd hc) z.1 z.2 (by simp; omega) hE⟩
    exact wpAny_pyNext_enum_endD D he ⟨hit, pT⟩ fun h' eb => ⟨rfl, I.turned (t' := s.toks) (fun b o hb q => eb b o hb q) f0 f1 f3 f4 f5⟩
  self := fun A i s Q E ⟨⟨_, he⟩, _⟩ h => wpAny_pyIter_enum he h
/-- enumerate of a list or of a tuple, read as enumerate of a tuple -/
def iEnumT (K : PySem.W.Frag) (ta : TA) : TI := fun σ H R => ta σ H fun vs H1 => ∃ a xs, vs = [.ref a] ∧ SqT K H1 a xs ∧ R (IteT K a) H1
theorem pi_enumT {X : Cx} {e : Expr} {ta : TA} {p pos tpos : Pos} {elts : List Expr} {kk : Nat} (hg : Gl X "enumerate") (hm : X.mg "enumerate" = none) (ha : PA X [e] ta) (hs : starEach [e] X.env = [(false, eval e X.env)] := by rfl) :
    PI X (.Tuple elts kk tpos) (.Call (.Name "enumerate" p) [e] [] pos) (iEnumT X.K ta) := by
  refine ⟨fun pins st σ H R I h => Call_ (ld_blt I hg hm boot_enumerate (PyProof.Rows.callWith_type1 (thn (ha.run pos pins st σ H _ I h) fun us s1 ⟨vs, H1, I1, r1, a, xs, ex, hq, q⟩ => ?_) hs rfl))⟩
  subst ex
  cases r1 with
  | cons r rr =>
    cases rr
    cases r
    obtain ⟨its, rv, p', hz⟩ := I1.tuple hq
    have pT : s1.heap.IsTuple a its.toArray := p'
    refine call_enumT pT fun h' he hit hk => wpAny_pyIter_enum he ?_
    have I2 : Inv X pins σ H1 { s1 with heap := h' } := I1.kept (t' := s1.toks) hk
    refine ⟨s1.heap.objs.size + 1, [s1.heap.objs.size + 1, s1.heap.objs.size], _, _, H1, rfl, I2, turn_enumT a (s1.heap.objs.size + 1) s1.heap.objs.size, ⟨⟨.none, he⟩, hit, Nat.succ_ne_self _⟩, fun b hb => ?_, q⟩
    have hle : s1.heap.objs.size ≤ b := by
      rcases (by simpa using hb : b = s1.heap.objs.size + 1 ∨ b = s1.heap.objs.size) with z | z
      · rw [z]; exact Nat.le_add_right _ _
      · rw [z]; exact Nat.le_refl _
    exact I1.fpOk hle (I1.hok.fresh hle)
end En

/-! Dicts whose keys are tuples of ints, texts and None (own). -/
namespace Nk
open PySem PySem.Spec PyProof.Rows L2
/-- a plain thing as a piece of a key -/
inductive Sc : V → NestedKey → Prop
  | non : Sc .non .none
  | num (i : Int) : Sc (.int i) (.num i)
  | text (x : Str) : Sc (.str x) (.text x)
def KeyT (H : Hp) (ks : List NestedKey) (t : Addr) : Prop := ∃ vs, H t = some (.tup vs) ∧ Paired Sc vs ks
theorem KeyT.mono {H H' : Hp} {ks : List NestedKey} {t : Addr} (h : KeyT H ks t) (e : ∀ b xs, H b = some (.tup xs) → H' b = some (.tup xs)) : KeyT H' ks t := by
  obtain ⟨vs, h1, h2⟩ := h
  exact ⟨vs, e _ _ h1, h2⟩
theorem sc_is {h : Heap} : ∀ {vs : List V} {ks : List NestedKey} {us : List Value}, Paired Sc vs ks → Vals vs us → NestedAll h ks us
  | _, _, _, .nil, .nil => .nil
  | _, _, _, .cons a t, .cons r q => by
    refine .cons ?_ (sc_is t q)
    cases a with
    | non => cases r; exact .none
    | num i => obtain ⟨t, rfl⟩ := r; exact .int i t
    | text x => obtain ⟨t, rfl⟩ := r; exact .text x t
theorem sc_dep : ∀ {vs : List V} {ks : List NestedKey}, Paired Sc vs ks → NestedKey.depthAll ks = 0
  | _, _, .nil => rfl
  | _, _, .cons a t => by
    show max _ (NestedKey.depthAll _) = 0
    rw [sc_dep t]
    cases a <;> rfl
section
variable {P : Program} {w : World} {H : Hp} {h : Heap} {t a : Addr} {ks : List NestedKey}
theorem KeyT.is (ok : HOk P w H h) (k : KeyT H ks t) : (nestedKind P w).is h (.tup ks) t := by
  obtain ⟨vs, h1, h2⟩ := k
  obtain ⟨_, its, r, o, h3, h4, n, h5⟩ := (show ObjOk P w H h t (.tup vs) from ok t _ h1)
  refine ⟨.tup h3 h4 h5 (by simpa using sc_is h2 r), ?_⟩
  show NestedKey.depthAll ks + 1 ≤ 8
  rw [sc_dep h2]
  decide
/-- the entries -/
abbrev Ent := List NestedKey × Addr × V
def EV : List Ent → List (NestedKey × Addr × Value) → Prop := Paired fun p q => q.1 = .tup p.1 ∧ p.2.1 = q.2.1 ∧ RelV p.2.2 q.2.2
def nkO (P : Program) (w : World) (a : Addr) (es : List Ent) : HO := .ext fun h => ∃ xs, EV es xs ∧ ∃ o ds ep, h.get? a = some o ∧ o.ExactDict ∧ o.data = .dict ds ep ∧ ds.toList = xs.map (entryOfKey (nestedKind P w))
/-- at a: such a dict -/
structure NkD (P : Program) (w : World) (H : Hp) (a : Addr) (es : List Ent) : Prop where
  at_ : H a = some (nkO P w a es)
  keys : ∀ x ∈ es, KeyT H x.1 x.2.1
  nd : (es.map (·.1)).Nodup
  low : (a == sysModules) = false
  len : es.length ≤ 1000
theorem nk_obj {es : List Ent} {xs : List (NestedKey × Addr × Value)} {H' : Hp} (r : EV es xs) {o : Obj} {ds : Array DictEntry} {ep : Nat} (h1 : h.get? a = some o) (h2 : o.ExactDict) (h3 : o.data = .dict ds ep) (h4 : ds.toList = xs.map (entryOfKey (nestedKind P w))) :
    ObjOk P w H' h a (nkO P w a es) :=
  ⟨⟨xs, r, o, ds, ep, h1, h2, h3, h4⟩, ⟨o, h1⟩, fun _ _ ⟨xs, r, o, ds, ep, h1, h2, h3, h4⟩ st => ⟨xs, r, o, ds, ep, st _ h1, h2, h3, h4⟩⟩
theorem ev_keys : ∀ {es : List Ent} {xs : List (NestedKey × Addr × Value)}, EV es xs → xs.map (·.1) = (es.map (·.1)).map .tup
  | _, _, .nil => rfl
  | _, _, .cons r t => by
    rw [List.map_cons, List.map_cons, List.map_cons, ev_keys t, r.1]
theorem nodup_tup : ∀ {l : List (List NestedKey)}, l.Nodup → (l.map NestedKey.tup).Nodup
  | [], _ => List.nodup_nil
  | k :: l, h => by
    rw [List.map_cons, List.nodup_cons]
    obtain ⟨h1, h2⟩ := List.nodup_cons.mp h
    refine ⟨fun hm => ?_, nodup_tup h2⟩
    obtain ⟨k', hk, e⟩ := List.mem_map.mp hm
    cases e
    exact h1 hk
theorem NkD.of {es : List Ent} (ok : HOk P w H h) (d : NkD P w H a es) : ∃ xs, EV es xs ∧ h.DictOfH (nestedKind P w) a xs := by
  obtain ⟨⟨xs, r, o, ds, ep, h1, h2, h3, h4⟩, _, _⟩ := (show ObjOk P w H h a (nkO P w a es) from ok a _ d.at_)
  refine ⟨xs, r, o, ds, ep, h1, h2, h3, h4, fun x hx => ?_, by rw [ev_keys r]; exact nodup_tup d.nd⟩
  have gen : ∀ {es : List Ent} {xs : List (NestedKey × Addr × Value)}, EV es xs → (∀ x ∈ es, KeyT H x.1 x.2.1) → ∀ x ∈ xs, (nestedKind P w).is h x.1 x.2.1 := by
    intro es xs r
    induction r with
    | nil => intro _ x hx; exact nomatch hx
    | @cons p q ps qs hq t ih =>
      intro hk x hx
      rcases List.mem_cons.mp hx with e | hx
      · subst e
        rw [hq.1, ← hq.2.1]
        exact (hk p List.mem_cons_self).is ok
      · exact ih (fun x hx => hk x (List.mem_cons_of_mem _ hx)) x hx
  exact gen r d.keys x hx
theorem ev_at {ks : List NestedKey} : ∀ {es : List Ent} {xs : List (NestedKey × Addr × Value)}, EV es xs → (atKey xs (.tup ks)).isSome = decide (ks ∈ es.map (·.1))
  | _, _, .nil => rfl
  | _, _, .cons (a := p) (b := q) r t => by
    unfold atKey
    rw [List.find?_cons]
    by_cases e : p.1 = ks
    · rw [show decide (q.1 = NestedKey.tup ks) = true from decide_eq_true (by rw [r.1, e])]
      rw [decide_eq_true (by rw [List.map_cons, e]; exact List.mem_cons_self)]
      rfl
    · rw [show decide (q.1 = NestedKey.tup ks) = false from decide_eq_false (fun z => e (by rw [r.1] at z; cases z; rfl))]
      have := ev_at t (ks := ks)
      unfold atKey at this
      show (Option.map _ (List.find? _ _)).isSome = _
      rw [this]
      refine decide_eq_decide.mpr ?_
      rw [List.map_cons, List.mem_cons]
      exact ⟨.inr, fun h => h.elim (fun z => absurd z.symm e) id⟩
theorem ev_snoc : ∀ {es : List Ent} {xs : List (NestedKey × Addr × Value)}, EV es xs → ∀ {x : V} {u : Value}, RelV x u → EV (es ++ [(ks, t, x)]) (xs ++ [(.tup ks, t, u)])
  | _, _, .nil, _, _, r => .cons ⟨rfl, rfl, r⟩ .nil
  | _, _, .cons q t, _, _, r => .cons q (ev_snoc t r)
theorem NkD.ex {H' : Hp} {es : List Ent} (d : NkD P w H a es) (e : Evl.Ex H H') : NkD P w H' a es := ⟨e _ _ d.at_, fun x hx => (d.keys x hx).mono fun b xs h => e _ _ h, d.nd, d.low, d.len⟩
end
section
variable {X : Cx}
theorem in1_room {A : Around} (h : A.units + 64 < cLine) : A.in1.units + 8 < cLine := by
  show A.units + 1 + 8 < cLine
  omega
def rInN (P : Program) (w : World) : R2 := fun x y H Q => ∃ t a es ks, x = .ref t ∧ y = .ref a ∧ NkD P w H a es ∧ KeyT H ks t ∧ Q (.bl (decide (ks ∈ es.map (·.1)))) H
theorem op_inN (hu : X.A.units + 64 < cLine) : OpR X (compareOp .In) (rInN X.prog X.w) := by
  intro pins s σ H x y v u Q I rx ry h
  obtain ⟨t, a, es, ks, rfl, rfl, d, k, q⟩ := h
  cases rx
  cases ry
  obtain ⟨xs, r, dd⟩ := d.of I.hok
  refine wpAny_in_heap (knd := nestedKind X.prog X.w) (k := .tup ks) (in1_room hu) (k.is I.hok) d.low dd ?_
  rw [ev_at r]
  exact ⟨.bl _, H, I.tok _, rfl, q⟩
/-- d[key] = v, the key new -/
def rSetN (P : Program) (w : World) : TSet := fun o i v H Q => ∃ t a es ks, o = .ref a ∧ i = .ref t ∧ NkD P w H a es ∧ KeyT H ks t ∧ ks ∉ es.map (·.1) ∧ es.length < 1000 ∧ Q (upd H a (nkO P w a (es ++ [(ks, t, v)])))
theorem set_dictN (hu : X.A.units + 64 < cLine) : PSet X (rSetN X.prog X.w) := by
  intro pins s σ H o i v ov iv u Q I ro ri rv h
  obtain ⟨t, a, es, ks, rfl, rfl, d, k, hn, hz, q⟩ := h
  cases ro
  cases ri
  obtain ⟨xs, r, dd⟩ := d.of I.hok
  have hl : xs.length ≤ sizeLine := by
    rw [← Paired.length r]
    exact Nat.le_trans d.len (by decide)
  have hnone : atKey xs (.tup ks) = none := by
    have := ev_at r (ks := ks)
    rw [decide_eq_false hn] at this
    cases z : atKey xs (.tup ks) with
    | none => rfl
    | some p => rw [z] at this; cases this
  refine wpAny_setItem_heap (knd := nestedKind X.prog X.w) (k := .tup ks) (hsz := hl) (in1_room hu) (k.is I.hok) dd fun h' dd' hs => ⟨_, ?_, q⟩
  rw [storedH_new hnone] at dd'
  obtain ⟨ob, ds, ep, h1, h2, h3, h4, _, _⟩ := dd'
  exact d_write I (by rw [d.at_]; exact True.intro) hs ⟨ob, h1⟩ (nk_obj (ev_snoc r rv) h1 h2 h3 h4)
/-- {} -/
def tDNewN (P : Program) (w : World) : TE := fun _ H Q => ∀ p, H p = none → (p == sysModules) = false → Q (.ref p) (upd H p (nkO P w p []))
theorem pe_dnewN {pos : Pos} : PE X (.Dict [] [] pos) (tDNewN X.prog X.w) := ⟨fun pins s σ H Q I h =>
  wpAny_Dict_empty ⟨.ref s.heap.objs.size, _, I.laid (a := s.heap.objs.size) (o := nkO X.prog X.w s.heap.objs.size []) (t' := s.toks) (fun _ _ q => Heap.get?_push_of_some _ q) (Nat.le_refl _)
    (nk_obj (ds := #[]) (ep := 0) .nil (Heap.get?_push_size _ rfl) ⟨rfl, rfl, rfl⟩ rfl rfl), rfl, h _ (I.hok.fresh (Nat.le_refl _)) (beq_eq_false_iff_ne.mpr (Ne.symm (Nat.ne_of_lt I.big)))⟩⟩
theorem i_dnewN {P : Program} {w : World} {σ : L2.St} {H : Hp} {Q : VK} (q : ∀ p, H p = none → (p == sysModules) = false → Q (.ref p) (upd H p (nkO P w p []))) : tDNewN P w σ H Q := q
theorem i_inN {P : Program} {w : World} {t a : Addr} {es : List Ent} {ks : List NestedKey} {H : Hp} {Q : VK} (d : NkD P w H a es) (k : KeyT H ks t) (q : Q (.bl (decide (ks ∈ es.map (·.1)))) H) : rInN P w (.ref t) (.ref a) H Q := ⟨t, a, es, ks, rfl, rfl, d, k, q⟩
theorem i_setN {P : Program} {w : World} {t a : Addr} {es : List Ent} {ks : List NestedKey} {v : V} {H : Hp} {Q : Hp → Prop} (d : NkD P w H a es) (k : KeyT H ks t) (hn : ks ∉ es.map (·.1)) (hz : es.length < 1000) (q : Q (upd H a (nkO P w a (es ++ [(ks, t, v)])))) : rSetN P w (.ref a) (.ref t) v H Q := ⟨t, a, es, ks, rfl, rfl, d, k, hn, hz, q⟩
end
end Nk

/-! Runs joined; a reader of one cell and a skip, as numbers (own). -/
namespace Jn
abbrev Rn := Int × Int
def jstep (acc : List Rn) (p : Rn) : List Rn :=
  if p.1 = 0 then acc else match acc.getLast? with
    | some r => if r.2 = p.2 then acc.dropLast ++ [(r.1 + p.1, p.2)] else acc ++ [p]
    | none => acc ++ [p]
def joinR (ps : List Rn) : List Rn := ps.foldl jstep []
def expand (rs : List Rn) : List Int := rs.flatMap fun r => List.replicate r.1.toNat r.2
theorem join_snoc (ps : List Rn) (p : Rn) : joinR (ps ++ [p]) = jstep (joinR ps) p := by
  unfold joinR
  rw [List.foldl_append]
  rfl
theorem last_split {α : Type} {l : List α} {x : α} (h : l.getLast? = some x) : l = l.dropLast ++ [x] := by
  cases l with
  | nil => cases h
  | cons a r =>
    have h1 : (a :: r).getLast (by simp) = x := by
      rw [List.getLast?_eq_some_getLast (by simp)] at h
      exact Option.some.inj h
    rw [← h1]
    exact (List.dropLast_concat_getLast _).symm
theorem jstep_len (acc : List Rn) (p : Rn) : (jstep acc p).length ≤ acc.length + 1 := by
  unfold jstep
  split
  · omega
  · split
    · rename_i r h
      have hl : acc.length = acc.dropLast.length + 1 := by
        have := congrArg List.length (last_split h)
        rw [List.length_append] at this
        exact this
      split
      · rw [List.length_append]
        show acc.dropLast.length + 1 ≤ _
        omega
      · rw [List.length_append]
        exact Nat.le_refl _
    · rw [List.length_append]
      exact Nat.le_refl _
theorem join_len (ps : List Rn) : (joinR ps).length ≤ ps.length := by
  have gen : ∀ (ps acc : List Rn), (ps.foldl jstep acc).length ≤ acc.length + ps.length := by
    intro ps
    induction ps with
    | nil => intro acc; exact Nat.le_refl _
    | cons p r ih =>
      intro acc
      have h1 := ih (jstep acc p)
      have h2 := jstep_len acc p
      show (r.foldl jstep (jstep acc p)).length ≤ acc.length + (r.length + 1)
      omega
  have := gen ps []
  unfold joinR
  show _ ≤ ps.length
  have h0 : ([] : List Rn).length = 0 := rfl
  omega
theorem expand_app (a b : List Rn) : expand (a ++ b) = expand a ++ expand b := by
  unfold expand
  rw [List.flatMap_append]
theorem expand_one (r : Rn) : expand [r] = List.replicate r.1.toNat r.2 := by
  unfold expand
  simp
theorem jstep_ok {acc : List Rn} {p : Rn} (ha : ∀ r ∈ acc, 1 ≤ r.1) (hp : 0 ≤ p.1) : (∀ r ∈ jstep acc p, 1 ≤ r.1) ∧ expand (jstep acc p) = expand acc ++ List.replicate p.1.toNat p.2 := by
  unfold jstep
  split
  · rename_i h0
    refine ⟨ha, ?_⟩
    rw [h0]
    simp
  · rename_i h0
    have new : (∀ r ∈ acc ++ [p], 1 ≤ r.1) ∧ expand (acc ++ [p]) = expand acc ++ List.replicate p.1.toNat p.2 := by
      refine ⟨fun r hr => ?_, by rw [expand_app, expand_one]⟩
      rcases List.mem_append.mp hr with h | h
      · exact ha r h
      · rw [List.mem_singleton.mp h]
        omega
    split
    · rename_i r h
      split
      · rename_i e
        have hs := last_split h
        have hr1 : 1 ≤ r.1 := ha r (by rw [hs]; simp)
        refine ⟨fun q hq => ?_, ?_⟩
        · rcases List.mem_append.mp hq with h | h
          · exact ha q (List.dropLast_subset _ h)
          · rw [List.mem_singleton.mp h]
            show 1 ≤ r.1 + p.1
            omega
        · conv => rhs; rw [hs]
          rw [expand_app, expand_one, expand_app, expand_one, List.append_assoc, e, List.replicate_append_replicate]
          congr 2
          show (r.1 + p.1).toNat = _
          omega
      · exact new
    · exact new
theorem join_ok {ps : List Rn} (hp : ∀ p ∈ ps, 0 ≤ p.1) : (∀ r ∈ joinR ps, 1 ≤ r.1) ∧ expand (joinR ps) = expand ps := by
  have gen : ∀ (ps acc : List Rn), (∀ p ∈ ps, 0 ≤ p.1) → (∀ r ∈ acc, 1 ≤ r.1) → (∀ r ∈ ps.foldl jstep acc, 1 ≤ r.1) ∧ expand (ps.foldl jstep acc) = expand acc ++ expand ps := by
    intro ps
    induction ps with
    | nil => intro acc _ ha; exact ⟨ha, by simp [expand]⟩
    | cons p r ih =>
      intro acc hp ha
      obtain ⟨h1, h2⟩ := jstep_ok ha (hp p List.mem_cons_self)
      obtain ⟨h3, h4⟩ := ih (jstep acc p) (fun q hq => hp q (List.mem_cons_of_mem _ hq)) h1
      refine ⟨h3, ?_⟩
      show expand (r.foldl jstep (jstep acc p)) = _
      rw [h4, h2, List.append_assoc]
      rfl
  exact gen ps [] hp (fun r hr => by cases hr)
theorem expand_ones (cs : List Int) : expand (cs.map fun c => ((1 : Int), c)) = cs := by
  induction cs with
  | nil => rfl
  | cons c r ih =>
    show List.replicate 1 c ++ expand _ = _
    rw [ih]
    rfl
theorem size_of {rs : List Rn} (h : ∀ r ∈ rs, 1 ≤ r.1) : (rs.map (·.1)).sum = ((expand rs).length : Int) := by
  induction rs with
  | nil => rfl
  | cons r t ih =>
    have h1 := h r List.mem_cons_self
    have h2 := ih fun q hq => h q (List.mem_cons_of_mem _ hq)
    show r.1 + (t.map (·.1)).sum = ((List.replicate r.1.toNat r.2 ++ expand t).length : Int)
    rw [h2, List.length_append, List.length_replicate]
    omega
/-! the reader -/
inductive St where
  | tk
  | sk (l : Nat)
def St.ok : Option St → Prop
  | some (.sk l) => 1 ≤ l
  | _ => True
def stepF (z : Int) : St → Int → Option St × Bool
  | .tk, c => if c + z < 0 then (none, false) else if c + z = 0 then (some .tk, true) else (some (.sk (c + z).toNat), false)
  | .sk l, _ => if l ≤ 1 then (some .tk, true) else (some (.sk (l - 1)), false)
theorem step_tk {z c : Int} : stepF z .tk c = if c + z < 0 then (none, false) else if c + z = 0 then (some .tk, true) else (some (.sk (c + z).toNat), false) := rfl
theorem step_sk {z c : Int} {l : Nat} : stepF z (.sk l) c = if l ≤ 1 then (some .tk, true) else (some (.sk (l - 1)), false) := rfl
def cutsFrom (z : Int) : List Int → Int → Option St → List Int
  | [], _, _ => []
  | _ :: _, _, none => []
  | c :: r, p, some s => (if (stepF z s c).2 = true then [p + 1] else []) ++ cutsFrom z r (p + 1) (stepF z s c).1
def aheadF (z : Int) : St → Int → Nat → Nat × Option St × Bool
  | .tk, c, n =>
    if c + z < 0 then (1, none, false)
    else if c + z = 0 then (1, some .tk, true)
    else if n = 1 then (1, some (.sk (c + z).toNat), false)
    else if n - 1 < (c + z).toNat then (n, some (.sk ((c + z).toNat - (n - 1))), false)
    else (1 + (c + z).toNat, some .tk, true)
  | .sk l, _, n => if n < l then (n, some (.sk (l - n)), false) else (l, some .tk, true)
theorem cuts_cons (z : Int) (c : Int) (r : List Int) (p : Int) (s : St) : cutsFrom z (c :: r) p (some s) = (if (stepF z s c).2 = true then [p + 1] else []) ++ cutsFrom z r (p + 1) (stepF z s c).1 := rfl
theorem none_cuts (z : Int) : ∀ (cs : List Int) (p : Int), cutsFrom z cs p none = []
  | [], _ => rfl
  | _ :: _, _ => rfl
/-- a skip of l cells -/
theorem skip_cuts {z : Int} : ∀ (l : Nat) (cs : List Int) (p : Int), 1 ≤ l → cutsFrom z cs p (some (.sk l)) = if l ≤ cs.length then (p + l) :: cutsFrom z (cs.drop l) (p + l) (some .tk) else [] := by
  intro l
  induction l with
  | zero => intro cs p h; omega
  | succ l ih =>
    intro cs p _
    cases cs with
    | nil => rw [if_neg (by simp)]; rfl
    | cons c r =>
      rw [cuts_cons]
      by_cases h0 : l = 0
      · subst h0
        have e : stepF z (.sk (0 + 1)) c = (some .tk, true) := rfl
        rw [e, if_pos (by simp)]
        simp
      · have e : stepF z (.sk (l + 1)) c = (some (.sk l), false) := by
          show (if l + 1 ≤ 1 then (some St.tk, true) else (some (St.sk (l + 1 - 1)), false)) = _
          rw [if_neg (by omega)]
          rfl
        rw [e]
        show [] ++ cutsFrom z r (p + 1) (some (.sk l)) = _
        rw [List.nil_append, ih r (p + 1) (by omega), List.length_cons]
        by_cases h : l ≤ r.length
        · rw [if_pos h, if_pos (by omega), List.drop_succ_cons]
          rw [show p + 1 + (l : Int) = p + ((l + 1 : Nat) : Int) by omega]
        · rw [if_neg h, if_neg (by omega)]
theorem rep_split {n m : Nat} (h : m ≤ n) (c : Int) (r : List Int) : List.replicate n c ++ r = List.replicate m c ++ (List.replicate (n - m) c ++ r) := by
  rw [← List.append_assoc, List.replicate_append_replicate]
  congr 2
  omega
theorem sk_part {z : Int} {l n : Nat} {c p : Int} {r : List Int} (h : n < l) : cutsFrom z (List.replicate n c ++ r) p (some (.sk l)) = cutsFrom z r (p + n) (some (.sk (l - n))) := by
  rw [skip_cuts l _ _ (by omega), skip_cuts (l - n) _ _ (by omega), List.length_append, List.length_replicate]
  by_cases h2 : l ≤ n + r.length
  · rw [if_pos h2, if_pos (by omega), List.drop_append, List.length_replicate, List.drop_of_length_le (by rw [List.length_replicate]; omega), List.nil_append]
    rw [show p + (l : Int) = p + (n : Int) + ((l - n : Nat) : Int) by omega]
  · rw [if_neg h2, if_neg (by omega)]
theorem sk_all {z : Int} {l n : Nat} {c p : Int} {r : List Int} (h1 : 1 ≤ l) (h : l ≤ n) : cutsFrom z (List.replicate n c ++ r) p (some (.sk l)) = [p + l] ++ cutsFrom z (List.replicate (n - l) c ++ r) (p + l) (some .tk) := by
  rw [skip_cuts l _ _ h1, List.length_append, List.length_replicate, if_pos (by omega), List.drop_append, List.length_replicate, List.drop_replicate]
  rw [show l - n = 0 by omega]
  rfl
theorem tk_step {z : Int} {c p : Int} {r : List Int} : cutsFrom z (c :: r) p (some .tk) = if c + z < 0 then [] else if c + z = 0 then [p + 1] ++ cutsFrom z r (p + 1) (some .tk) else cutsFrom z r (p + 1) (some (.sk (c + z).toNat)) := by
  rw [cuts_cons]
  by_cases h1 : c + z < 0
  · have e : stepF z .tk c = (none, false) := if_pos h1
    rw [e, if_pos h1]
    show [] ++ cutsFrom z r (p + 1) none = []
    rw [none_cuts]
    rfl
  · by_cases h2 : c + z = 0
    · have e : stepF z .tk c = (some .tk, true) := (if_neg h1).trans (if_pos h2)
      rw [e, if_neg h1, if_pos h2]
      rfl
    · have e : stepF z .tk c = (some (.sk (c + z).toNat), false) := (if_neg h1).trans (if_neg h2)
      rw [e, if_neg h1, if_neg h2]
      rfl
theorem ah_tk {z c : Int} {n : Nat} : aheadF z .tk c n = if c + z < 0 then (1, none, false)
    else if c + z = 0 then (1, some .tk, true)
    else if n = 1 then (1, some (.sk (c + z).toNat), false)
    else if n - 1 < (c + z).toNat then (n, some (.sk ((c + z).toNat - (n - 1))), false)
    else (1 + (c + z).toNat, some .tk, true) := rfl
theorem ah_sk {z c : Int} {l n : Nat} : aheadF z (.sk l) c n = if n < l then (n, some (.sk (l - n)), false) else (l, some .tk, true) := rfl
theorem ahead_ok {z : Int} {s : St} {c p : Int} {n : Nat} {r : List Int} (hn : 1 ≤ n) (hs : St.ok (some s)) :
    1 ≤ (aheadF z s c n).1 ∧ (aheadF z s c n).1 ≤ n ∧ St.ok (aheadF z s c n).2.1 ∧
      cutsFrom z (List.replicate n c ++ r) p (some s) = (if (aheadF z s c n).2.2 = true then [p + ((aheadF z s c n).1 : Int)] else []) ++ cutsFrom z (List.replicate (n - (aheadF z s c n).1) c ++ r) (p + ((aheadF z s c n).1 : Int)) (aheadF z s c n).2.1 := by
  cases s with
  | tk =>
    obtain ⟨m, rfl⟩ : ∃ m, n = m + 1 := ⟨n - 1, by omega⟩
    have e : List.replicate (m + 1) c ++ r = c :: (List.replicate m c ++ r) := rfl
    rw [e, tk_step, ah_tk]
    by_cases h1 : c + z < 0
    · rw [if_pos h1, if_pos h1]
      refine ⟨Nat.le_refl _, by omega, True.intro, ?_⟩
      show [] = [] ++ cutsFrom z _ _ none
      rw [none_cuts]
      rfl
    · rw [if_neg h1, if_neg h1]
      by_cases h2 : c + z = 0
      · rw [if_pos h2, if_pos h2]
        exact ⟨Nat.le_refl _, by omega, True.intro, rfl⟩
      · rw [if_neg h2, if_neg h2]
        have hL : 1 ≤ (c + z).toNat := by omega
        by_cases h3 : m + 1 = 1
        · rw [if_pos h3]
          have : m = 0 := by omega
          subst this
          exact ⟨Nat.le_refl _, by omega, hL, rfl⟩
        · rw [if_neg h3]
          by_cases h4 : m + 1 - 1 < (c + z).toNat
          · rw [if_pos h4]
            refine ⟨by omega, Nat.le_refl _, show 1 ≤ _ by omega, ?_⟩
            show cutsFrom z (List.replicate m c ++ r) (p + 1) _ = [] ++ cutsFrom z (List.replicate (m + 1 - (m + 1)) c ++ r) _ _
            rw [sk_part (by omega), Nat.sub_self]
            show cutsFrom z r (p + 1 + (m : Int)) (some (.sk ((c + z).toNat - m))) = cutsFrom z r (p + ((m + 1 : Nat) : Int)) (some (.sk ((c + z).toNat - m)))
            rw [show p + 1 + (m : Int) = p + ((m + 1 : Nat) : Int) by omega]
          · rw [if_neg h4]
            refine ⟨by omega, by show 1 + _ ≤ _; omega, True.intro, ?_⟩
            rw [sk_all hL (by omega)]
            show [p + 1 + ((c + z).toNat : Int)] ++ cutsFrom z (List.replicate (m - (c + z).toNat) c ++ r) (p + 1 + ((c + z).toNat : Int)) (some .tk) = [p + ((1 + (c + z).toNat : Nat) : Int)] ++ cutsFrom z (List.replicate (m + 1 - (1 + (c + z).toNat)) c ++ r) (p + ((1 + (c + z).toNat : Nat) : Int)) (some .tk)
            rw [show p + 1 + ((c + z).toNat : Int) = p + ((1 + (c + z).toNat : Nat) : Int) by omega, show m + 1 - (1 + (c + z).toNat) = m - (c + z).toNat by omega]
  | sk l =>
    have hl : 1 ≤ l := hs
    rw [ah_sk]
    by_cases h : n < l
    · rw [if_pos h]
      refine ⟨hn, Nat.le_refl _, show 1 ≤ _ by omega, ?_⟩
      rw [sk_part h]
      show _ = [] ++ cutsFrom z (List.replicate (n - n) c ++ r) _ _
      rw [Nat.sub_self]
      rfl
    · rw [if_neg h]
      refine ⟨hl, by show l ≤ n; omega, True.intro, ?_⟩
      exact sk_all hl (by omega)
/-! the law's own -/
def lnext (z : Int) (cs : List Int) (place : Int) : Int := if cs.getD place.toNat 0 + z ≥ 0 then place + 1 + (cs.getD place.toNat 0 + z) else cs.length + 1
def lstep (z : Int) (cs : List Int) (a : Int × List Int) : Int × List Int :=
  if a.1 < cs.length then (lnext z cs a.1, if lnext z cs a.1 ≤ cs.length then a.2 ++ [lnext z cs a.1] else a.2) else a
def litN (z : Int) (cs : List Int) : Nat → Int × List Int
  | 0 => (0, [])
  | k + 1 => lstep z cs (litN z cs k)
def rest (z : Int) (cs : List Int) (p : Int) : List Int := if p ≤ cs.length then cutsFrom z (cs.drop p.toNat) p (some .tk) else []
theorem lstep_ok {z : Int} {cs : List Int} {a : Int × List Int} (h0 : 0 ≤ a.1) : 0 ≤ (lstep z cs a).1 ∧ (a.1 < cs.length → a.1 < (lstep z cs a).1) ∧ (¬ a.1 < cs.length → (lstep z cs a) = a) ∧ (lstep z cs a).2 ++ rest z cs (lstep z cs a).1 = a.2 ++ rest z cs a.1 := by
  unfold lstep
  by_cases h : a.1 < cs.length
  · rw [if_pos h]
    have hi : a.1.toNat < cs.length := by omega
    have hd : cs.drop a.1.toNat = cs[a.1.toNat] :: cs.drop (a.1.toNat + 1) := List.drop_eq_getElem_cons hi
    have hg : cs.getD a.1.toNat 0 = cs[a.1.toNat] := by
      rw [List.getD_eq_getElem?_getD, List.getElem?_eq_getElem hi]
      rfl
    generalize hc : cs[a.1.toNat] = c at hd hg
    have hr : rest z cs a.1 = cutsFrom z (c :: cs.drop (a.1.toNat + 1)) a.1 (some .tk) := by
      unfold rest
      rw [if_pos (by omega), hd]
    have hlen : (cs.drop (a.1.toNat + 1)).length = cs.length - (a.1.toNat + 1) := List.length_drop
    rw [hr, tk_step]
    unfold lnext
    rw [hg]
    by_cases h1 : c + z < 0
    · rw [if_neg (show ¬ (c + z ≥ 0) by omega), if_pos h1]
      refine ⟨by show (0 : Int) ≤ cs.length + 1; omega, fun _ => by show a.1 < cs.length + 1; omega, fun n => absurd h n, ?_⟩
      show (if _ then _ else a.2) ++ rest z cs (cs.length + 1) = _
      rw [if_neg (by omega)]
      unfold rest
      rw [if_neg (by omega)]
    · rw [if_pos (show c + z ≥ 0 by omega), if_neg h1]
      refine ⟨by show 0 ≤ a.1 + 1 + (c + z); omega, fun _ => by show a.1 < a.1 + 1 + (c + z); omega, fun n => absurd h n, ?_⟩
      show (if a.1 + 1 + (c + z) ≤ (cs.length : Int) then a.2 ++ [a.1 + 1 + (c + z)] else a.2) ++ rest z cs (a.1 + 1 + (c + z)) = _
      have hdd : ∀ L : Nat, (L : Int) = c + z → (cs.drop (a.1.toNat + 1)).drop L = cs.drop (a.1 + 1 + (c + z)).toNat := fun L hL => by
        rw [List.drop_drop]
        congr 1
        omega
      by_cases h2 : c + z = 0
      · rw [if_pos h2, if_pos (by omega)]
        unfold rest
        rw [if_pos (by omega), List.append_assoc, ← hdd 0 (by omega), List.drop_zero, h2]
        rw [show a.1 + 1 + (0 : Int) = a.1 + 1 by omega]
      · rw [if_neg h2, skip_cuts _ _ _ (by omega), hlen]
        have hL : (((c + z).toNat : Nat) : Int) = c + z := by omega
        by_cases h3 : a.1 + 1 + (c + z) ≤ (cs.length : Int)
        · rw [if_pos h3, if_pos (by omega)]
          unfold rest
          rw [if_pos h3, List.append_assoc, hdd _ hL, hL]
          rfl
        · rw [if_neg h3, if_neg (by omega)]
          unfold rest
          rw [if_neg h3]
  · rw [if_neg h]
    exact ⟨h0, fun q => absurd q h, fun _ => rfl, rfl⟩
theorem lit_inv {z : Int} {cs : List Int} : ∀ k, 0 ≤ (litN z cs k).1 ∧ ((k : Int) ≤ (litN z cs k).1 ∨ (cs.length : Int) ≤ (litN z cs k).1) ∧ (litN z cs k).2 ++ rest z cs (litN z cs k).1 = cutsFrom z cs 0 (some .tk)
  | 0 => by
    refine ⟨Int.le_refl _, .inl (Int.le_refl _), ?_⟩
    show [] ++ rest z cs 0 = _
    unfold rest
    rw [if_pos (by omega)]
    rfl
  | k + 1 => by
    obtain ⟨h1, h2, h3⟩ := lit_inv (z := z) (cs := cs) k
    obtain ⟨g1, g2, g3, g4⟩ := lstep_ok (z := z) (cs := cs) h1
    refine ⟨g1, ?_, g4.trans h3⟩
    show ((k + 1 : Nat) : Int) ≤ (lstep z cs (litN z cs k)).1 ∨ _
    by_cases h : (litN z cs k).1 < cs.length
    · have := g2 h
      rcases h2 with h2 | h2
      · exact .inl (by omega)
      · omega
    · refine .inr ?_
      show (cs.length : Int) ≤ (lstep z cs (litN z cs k)).1
      rw [g3 h]
      omega
theorem lit_end {z : Int} {cs : List Int} : (litN z cs cs.length).2 = cutsFrom z cs 0 (some .tk) := by
  obtain ⟨h1, h2, h3⟩ := lit_inv (z := z) (cs := cs) cs.length
  have hp : (cs.length : Int) ≤ (litN z cs cs.length).1 := h2.elim id id
  rw [← h3]
  have : rest z cs (litN z cs cs.length).1 = [] := by
    unfold rest
    split
    · rw [List.drop_of_length_le (by omega)]
      rfl
    · rfl
  rw [this, List.append_nil]
theorem cuts_len (z : Int) : ∀ (cs : List Int) (p : Int) (s : Option St), (cutsFrom z cs p s).length ≤ cs.length
  | [], _, _ => Nat.le_refl _
  | _ :: _, _, none => Nat.zero_le _
  | c :: r, p, some s => by
    rw [cuts_cons, List.length_append, List.length_cons]
    have := cuts_len z r (p + 1) (stepF z s c).1
    split
    · show 1 + _ ≤ _; omega
    · show 0 + _ ≤ _; omega
end Jn

/-! A while loop gone through turn by turn, its facts at hand (own). -/
namespace Wh
open PySem L2
def TW (c : TT) (tb : TS) (D : Ends) (m : Nat) : L2.St → Hp → Prop := fun σ H =>
  c σ H fun b H1 => if b = true then ∃ N : L2.St → Hp → Prop, (∀ σ' H', N σ' H' → ∃ m' : _root_.Fin m, TW c tb D m'.1 σ' H') ∧ tb { D with nx := N, ct := N, bk := D.nx } σ H1 else D.nx σ H1
termination_by m
decreasing_by exact m'.2
theorem tw_eq (c : TT) (tb : TS) (D : Ends) (m : Nat) (σ : L2.St) (H : Hp) : TW c tb D m σ H =
    c σ H fun b H1 => if b = true then ∃ N : L2.St → Hp → Prop, (∀ σ' H', N σ' H' → ∃ m', m' < m ∧ TW c tb D m' σ' H') ∧ tb { D with nx := N, ct := N, bk := D.nx } σ H1 else D.nx σ H1 := by
  have e : ∀ σ' H', (∃ m' : _root_.Fin m, TW c tb D m'.1 σ' H') = (∃ m', m' < m ∧ TW c tb D m' σ' H') := fun σ' H' => propext ⟨fun ⟨m', h⟩ => ⟨m'.1, m'.2, h⟩, fun ⟨m', hl, h⟩ => ⟨⟨m', hl⟩, h⟩⟩
  rw [TW]
  simp only [e]
theorem start {c : TT} {tb : TS} {D : Ends} {σ : L2.St} {H : Hp} (m : Nat) (h : TW c tb D m σ H) : tWhile c tb D σ H :=
  ⟨TW c tb D, ⟨m, h⟩, fun m σ H w => by rw [tw_eq] at w; exact w⟩
/-- one turn -/
theorem turn {c : TT} {tb : TS} {D : Ends} {m : Nat} {σ : L2.St} {H : Hp} (h : c σ H fun b H1 => if b = true then ∃ N : L2.St → Hp → Prop, (∀ σ' H', N σ' H' → ∃ m', m' < m ∧ TW c tb D m' σ' H') ∧ tb { D with nx := N, ct := N, bk := D.nx } σ H1 else D.nx σ H1) : TW c tb D m σ H := by
  rw [tw_eq]
  exact h
/-- the test was true -/
theorem go {c : TT} {tb : TS} {D : Ends} {m : Nat} {σ : L2.St} {H : Hp} {p : Prop} (h : tb { D with nx := TW c tb D m, ct := TW c tb D m, bk := D.nx } σ H) :
    if true = true then ∃ N : L2.St → Hp → Prop, (∀ σ' H', N σ' H' → ∃ m', m' < m + 1 ∧ TW c tb D m' σ' H') ∧ tb { D with nx := N, ct := N, bk := D.nx } σ H else p := by
  rw [if_pos rfl]
  exact ⟨TW c tb D m, fun _ _ h => ⟨m, Nat.lt_succ_self m, h⟩, h⟩
theorem go1 {c : TT} {tb : TS} {D : Ends} {m : Nat} {σ : L2.St} {H : Hp} (h : tb { D with nx := TW c tb D m, ct := TW c tb D m, bk := D.nx } σ H) :
    ∃ N : L2.St → Hp → Prop, (∀ σ' H', N σ' H' → ∃ m', m' < m + 1 ∧ TW c tb D m' σ' H') ∧ tb { D with nx := N, ct := N, bk := D.nx } σ H :=
  ⟨TW c tb D m, fun _ _ h => ⟨m, Nat.lt_succ_self m, h⟩, h⟩
/-- the same, the loop's own text kept out of the goals -/
theorem startW {c : TT} {tb : TS} {D : Ends} {σ : L2.St} {H : Hp} (m : Nat) (h : ∀ W : Nat → L2.St → Hp → Prop, (∀ k σ H, (c σ H fun b H1 => if b = true then ∃ N : L2.St → Hp → Prop, (∀ σ' H', N σ' H' → ∃ m', m' < k + 1 ∧ W m' σ' H') ∧ tb { D with nx := N, ct := N, bk := D.nx } σ H1 else D.nx σ H1) → W (k + 1) σ H) → W m σ H) : tWhile c tb D σ H :=
  start m (h (TW c tb D) fun _ _ _ q => turn q)
theorem goW {tb : TS} {D : Ends} {m : Nat} {σ : L2.St} {H : Hp} {W : Nat → L2.St → Hp → Prop} (h : tb { D with nx := W m, ct := W m, bk := D.nx } σ H) :
    ∃ N : L2.St → Hp → Prop, (∀ σ' H', N σ' H' → ∃ m', m' < m + 1 ∧ W m' σ' H') ∧ tb { D with nx := N, ct := N, bk := D.nx } σ H :=
  ⟨W m, fun _ _ h => ⟨m, Nat.lt_succ_self m, h⟩, h⟩
theorem i_seqM {s1 s2 : TS} {f b c : L2.St → Hp → Prop} {r : VK} {σ : L2.St} {H : Hp} (q : s1 ⟨s2 ⟨f, r, b, c⟩, r, b, c⟩ σ H) : tSeq s1 s2 ⟨f, r, b, c⟩ σ H := q
/-- the list with another thing at a place, written out -/
class SetC {α : Type} (l : List α) (i : Nat) (v : α) (l' : outParam (List α)) : Prop where
  is : l.set i v = l'
instance {α : Type} {x v : α} {t : List α} : SetC (x :: t) 0 v (v :: t) := ⟨rfl⟩
instance {α : Type} {x v : α} {t t' : List α} {i : Nat} [h : SetC t i v t'] : SetC (x :: t) (i + 1) v (x :: t') := ⟨congrArg (List.cons _) h.is⟩
theorem i_nameS {i : Nat} {v : V} {σ σ' : L2.St} {H : Hp} {QS : L2.St → Hp → Prop} [r : SetC σ i (some v) σ'] (q : QS σ' H) : gName i v σ H QS := by
  show QS (σ.set i (some v)) H
  rw [r.is]
  exact q
theorem i_set2 {σ σ1 σ2 : L2.St} {i j : Nat} {v w : Option V} {F : L2.St → Hp → Prop} {H : Hp} [r1 : SetC σ i v σ1] [r2 : SetC σ1 j w σ2] (q : F σ2 H) : F ((σ.set i v).set j w) H := by
  rw [r1.is, r2.is]
  exact q
/-! ### guards: a rule is tried where its head stands -/
section
variable {K : PySem.W.Frag} {σ : L2.St} {H : Hp} {Q : VK}
theorem g_ixL {x : V} {i : V} (q : rIxL K x i H Q) : rIxL K x i H Q := q
theorem g_ixT {x : V} {i : V} (q : rIxT K x i H Q) : rIxT K x i H Q := q
theorem g_setL {x i v : V} {QH : Hp → Prop} (q : rSetL x i v H QH) : rSetL x i v H QH := q
theorem g_gtup {n : Nat} {tg : TGs} {v : V} {QS : L2.St → Hp → Prop} (q : gTup K n tg v σ H QS) : gTup K n tg v σ H QS := q
theorem g_ite {c : Bool} {a b : Prop} (q : if c = true then a else b) : if c = true then a else b := q
theorem g_len {v : V} {R : List V → Prop} (q : ∃ p ys, [v] = [V.ref p] ∧ (SqL K H p ys ∨ SqT K H p ys) ∧ R ys) : ∃ p ys, [v] = [V.ref p] ∧ (SqL K H p ys ∨ SqT K H p ys) ∧ R ys := q
theorem g_tyL {v : V} {R : Prop} (q : tyV K "list" v H ∧ R) : tyV K "list" v H ∧ R := q
theorem g_tup {v : V} (q : Nr.rTup K [v] H Q) : Nr.rTup K [v] H Q := q
theorem g_rI {C : Int → Int → Prop} {g : Int → Int → V} {x y : V} (q : rI C g x y H Q) : rI C g x y H Q := q
theorem g_rEq {x y : V} (q : rEq x y H Q) : rEq x y H Q := q
theorem g_rNe {x y : V} (q : rNe x y H Q) : rNe x y H Q := q
theorem g_var {i : Nat} (q : tVar i σ H Q) : tVar i σ H Q := q
end
end Wh

namespace K02
open PySem L2
local macro_rules | `(tactic| walk_at "rd1") => `(tactic| first
  | (with_reducible refine Rd.i_seq ?_) | (with_reducible refine Rd.i_asg ?_) | (with_reducible refine Rd.i_name ?_) | (with_reducible refine Rd.i_nx ?_) | (with_reducible refine Rd.i_rt ?_) | (with_reducible refine Rd.i_next ?_) | (with_reducible refine Rd.i_ct ?_) | (with_reducible refine Rd.i_bk ?_)
  | (with_reducible refine Rd.i_ret ?_) | (with_reducible refine Rd.i_drop ?_) | (with_reducible refine Rd.i_ifS ?_) | (with_reducible refine Rd.i_sub ?_)
  | (with_reducible refine Rd.i_var (by with_unfolding_all exact rfl) ?_) | (with_reducible refine Rd.i_c ?_) | (with_reducible refine Rd.i_op ?_) | (with_reducible refine Rd.i_un ?_)
  | (with_reducible refine Rd.i_rI0 ?_) | (with_reducible refine Rd.i_rI (by with_unfolding_all first | omega | exact Rd.mulL (by omega) (by omega) | exact Rd.mulR (by omega) (by omega) | decide | (refine ⟨?_, ?_⟩ <;> omega) | (refine ⟨?_, ?_, ?_⟩ <;> omega)) ?_)
  | (with_reducible refine Rd.i_rEq (by with_unfolding_all exact rfl) ?_) | (with_reducible refine Rd.i_rNe (by with_unfolding_all exact rfl) ?_)
  | (with_reducible refine Rd.i_test ?_) | (with_reducible refine Rd.i_tB ?_) | (with_reducible refine Rd.i_bl ?_) | (with_reducible refine Rd.i_and ?_) | (with_reducible refine Rd.i_or ?_) | (with_reducible refine Rd.i_not ?_) | (with_reducible refine Rd.i_notV ?_) | (with_reducible refine Rd.i_andV ?_) | (with_reducible refine Rd.i_orV ?_) | (with_reducible refine Rd.i_if ?_) | (with_reducible refine Rd.i_chain ?_)
  | (with_reducible refine Rd.i_call ?_) | (with_reducible refine Rd.i_nil ?_) | (with_reducible refine Rd.i_cons ?_) | (with_reducible refine Rd.i_cb ?_) | (with_reducible refine Rd.i_bm ?_) | (with_reducible refine Rd.i_bm0 ?_) | (with_reducible refine Rd.i_tup ?_) | (with_reducible refine Rd.i_lst ?_)
  | (with_reducible refine Rd.i_int1 ?_) | (with_reducible refine Rd.i_intb ?_) | (with_reducible refine Rd.i_max ?_)
  | (with_reducible refine Rd.i_ixL (SqL.of (by first | assumption | exact upd_same)) (by with_unfolding_all first | exact rfl | exact atI_nat rfl) ?_) | (with_reducible refine Rd.i_ixT (SqT.of (by first | assumption | exact upd_same)) (by with_unfolding_all exact rfl) ?_)
  | (with_reducible refine Rd.i_setL (by first | assumption | exact upd_same) (by with_unfolding_all exact rfl) ?_)
  | (with_reducible refine Xv.i_mkV ?_) | (with_reducible refine Xv.i_xat ?_)
  | (with_reducible refine Rd.i_yes ?_) | (with_reducible refine Rd.i_m1 ?_) | (with_reducible refine Rd.i_m0 ?_) | (with_reducible refine Rd.ite_T ?_) | (with_reducible refine Rd.ite_F ?_) | (with_reducible refine Rd.i_forR ?_) | (with_reducible refine Rd.i_forL ?_) | (with_reducible refine Rd.i_forT ?_)
  | (with_reducible refine Hd.i_rU ?_) | (with_reducible refine Hd.i_pcons ?_) | (with_reducible refine Hd.i_pnil ?_) | (with_reducible refine Hd.i_disp ?_) | (with_reducible refine Hd.i_dget ?_)
  | (with_reducible refine Hd.i_lstRg ?_) | (with_reducible refine Hd.i_rg1 ?_) | (with_reducible refine Hd.i_rg2 ?_) | (with_reducible refine Hd.i_ex1 ?_) | (with_reducible refine Hd.i_ex2 ?_)
  | (with_reducible refine Rd.i_gtup (SqT.of (by assumption)) (by with_unfolding_all exact rfl) ?_) | (with_reducible refine Rd.i_gcons ?_) | (with_reducible refine Rd.i_gnil ?_))
local macro_rules | `(tactic| walk_at "rd") => `(tactic| repeat walk_at "rd1")
def topS (i : Nat) : Stmt := PySem.Challenge.pw_splitalike_k01_cuts_by_lengths.main.body.getD i (.Pass ⟨0, 0, 0, 0⟩)
abbrev s_law_draw : Stmt := topS 50
theorem sc_law_draw : FnScope ["_law_pen", "_law_many", "_law_spot", "_law_at", "_law_cell_here", "_law_mixed"] ["_law_pen", "_law_many"] (defScope s_law_draw) := ⟨rfl, rfl, rfl, by decide +kernel, rfl, by decide +kernel, by decide +kernel⟩

abbrev s_law_word : Stmt := topS 52
theorem sc_law_word : FnScope ["_law_pen", "_law_most", "_law_signs", "_law_k"] ["_law_pen", "_law_most"] (defScope s_law_word) := ⟨rfl, rfl, rfl, by decide +kernel, rfl, by decide +kernel, by decide +kernel⟩

abbrev s_law_names : Stmt := topS 53
theorem sc_law_names : FnScope ["_law_pen", "_law_many", "_law_found", "_law_k", "_law_name", "_law_spare", "_law_word_here", "_law_n"] ["_law_pen", "_law_many"] (defScope s_law_names) := ⟨rfl, rfl, rfl, by decide +kernel, rfl, by decide +kernel, by decide +kernel⟩

structure Gtx (K : PySem.W.Frag) (mg : Str → Option Value) where
  f_law_draw : Addr
  d_law_draw : FuncData
  F_law_draw : Fun K "_law_draw" "_law_draw" s_law_draw f_law_draw d_law_draw
  b_law_draw : Binds K d_law_draw ["_law_pen", "_law_many"] []
  m_law_draw : mg "_law_draw" = some (.ref f_law_draw)
  f_law_word : Addr
  d_law_word : FuncData
  F_law_word : Fun K "_law_word" "_law_word" s_law_word f_law_word d_law_word
  b_law_word : Binds K d_law_word ["_law_pen", "_law_most"] []
  m_law_word : mg "_law_word" = some (.ref f_law_word)
  f_law_names : Addr
  d_law_names : FuncData
  F_law_names : Fun K "_law_names" "_law_names" s_law_names f_law_names d_law_names
  b_law_names : Binds K d_law_names ["_law_pen", "_law_many"] []
  m_law_names : mg "_law_names" = some (.ref f_law_names)
  z_int : mg "int" = none
  z_len : mg "len" = none
  z_max : mg "max" = none
  z_min : mg "min" = none
  z_range : mg "range" = none
  z_list : mg "list" = none
section
variable {P : Program} {w : World} {K : PySem.W.Frag} {mg : Str → Option Value} {base : Heap}
open Evl Hd
def spDraw : Sp := fun vs H Q _ => ∃ (p q : Addr) (m s : Int), vs = [.ref p, .int m] ∧ Pen H p q s ∧ s < 1099511627776 ∧ 0 < m ∧ m < 1073741824 ∧ ∀ r H', 0 ≤ r → r < m → Pen H' p q (s + 1) → But2 p q H H' → Q (.int r) H'
theorem ok_law_draw (T : Gtx K mg) : FnOk P w K mg base CX0 1 T.f_law_draw T.d_law_draw ["_law_pen", "_law_many"] spDraw := by
  refine T.F_law_draw.ok sc_law_draw (fun vs H Q E h => ?_) (fun cdv A outer s H vs Q E hr h => ?_)
  · obtain ⟨p, q, m, s, rfl, _⟩ := h
    rfl
  · obtain ⟨p, q, m, z, rfl, hpen, hz, m0, m1, k⟩ := h
    obtain ⟨z0, ns, hp, hq, hn, hn2⟩ := id hpen
    have hpq := hpen.ne
    refine ⟨_, (pss_cons (ps_set (i := 2) sc_law_draw.nd rfl (Or.inl rfl) (pe_ix ix_list (pv 0) pe_int (fun _ _ => rfl)))
      (pss_cons (ps_asg (pe_op op_add (pv 2) pe_int) (pg_sub (pv 0) pe_int set_list))
      (pss_cons (ps_set (i := 3) sc_law_draw.nd rfl (Or.inl rfl) (pe_op op_modN (pe_callTy call_int1 (by rfl) T.z_int (by decide +kernel) (pa_cons (pv 2) pa_nil)) (pe_callB call_len_seq (by rfl) T.z_len (by decide +kernel) (pa_cons (pe_ix ix_list (pv 0) pe_int (fun _ _ => rfl)) pa_nil))))
      (pss_cons (ps_set (i := 4) sc_law_draw.nd rfl (Or.inl rfl) (pe_callTy call_int1 (by rfl) T.z_int (by decide +kernel) (pa_cons (pe_ix ix_list (pe_ix ix_list (pv 0) pe_int (fun _ _ => rfl)) (pv 3) (fun _ _ => rfl)) pa_nil)))
      (pss_cons (ps_if (pt_cmpR op_ge (pv 4) (pe_op op_pow pe_int pe_int) (nomark _))
        (pss_cons (ps_asg (pe_op op_fdivN (pv 4) (pv 1)) (pg_sub (pe_ix ix_list (pv 0) pe_int (fun _ _ => rfl)) (pv 3) set_list))
        (pss_one (ps_ret (pe_op op_modN (pe_callTy call_int1 (by rfl) T.z_int (by decide +kernel) (pa_cons (pv 4) pa_nil)) (pv 1)))))
        pss_nil)
      (pss_cons (ps_set (i := 5) sc_law_draw.nd rfl (Or.inl rfl) (pe_op op_pow (pe_callTy call_int1 (by rfl) T.z_int (by decide +kernel) (pa_cons (pe_op op_add (pe_op op_add (pe_op op_mul (pe_op op_modN (pe_callTy call_int1 (by rfl) T.z_int (by decide +kernel) (pa_cons (pv 4) pa_nil)) pe_int) pe_int) (pe_op op_mul (pv 2) pe_int)) pe_int) pa_nil)) pe_int))
      (pss_one (ps_ret (pe_op op_modN (pe_op op_fdivN (pe_callTy call_int1 (by rfl) T.z_int (by decide +kernel) (pa_cons (pe_op op_modN (pe_callTy call_int1 (by rfl) T.z_int (by decide +kernel) (pa_cons (pv 5) pa_nil)) pe_int) pa_nil)) pe_int) (pv 1)))))))))), ?_⟩
    walk_at "rd"
    have hq1 : upd H p (.lst ([V.ref q, .int z].set (Int.toNat 1) (.int (z + 1)))) q = some (.lst (ns.map V.int)) := by rw [upd_ne (Ne.symm hpq)]; exact hq
    have hl0 : 0 < ns.length := List.length_pos_iff.mpr hn
    have hlen : (List.map V.int ns).length = ns.length := List.length_map _
    refine Rd.i_len (SqL.of hq1) ?_
    walk_at "rd"
    obtain ⟨j, hj, ej⟩ : ∃ j : Nat, j < ns.length ∧ z.fmod ((List.map V.int ns).length : Int) = (j : Int) := by
      have h1 := Int.fmod_nonneg_of_pos z (b := ((List.map V.int ns).length : Int)) (by omega)
      have h2 := Int.fmod_lt_of_pos z (b := ((List.map V.int ns).length : Int)) (by omega)
      exact ⟨(z.fmod ((List.map V.int ns).length : Int)).toNat, by omega, by omega⟩
    rw [ej]
    have hc : (List.map V.int ns)[j]? = some (V.int (ns[j]'hj)) := by rw [List.getElem?_map, List.getElem?_eq_getElem hj]; rfl
    generalize ns[j]'hj = c at hc
    walk_at "rd"
    refine Rd.i_ixL (SqL.of hq1) (atI_nat hc) ?_
    walk_at "rd"
    refine Rd.ite_d (fun _ => ?_) (fun _ => ?_)
    · walk_at "rd"
      refine Rd.i_setL hq1 (Evl.ixN_nat (by omega)) ?_
      walk_at "rd"
      refine k _ _ (Int.fmod_nonneg_of_pos _ m0) (Int.fmod_lt_of_pos _ m0) ⟨by omega, ns.set j (c.fdiv m), ?_, ?_, ?_, ?_⟩ ?_
      · rw [upd_ne hpq]; exact upd_same
      · rw [List.map_set]; exact upd_same
      · intro e
        have := congrArg List.length e
        rw [List.length_set] at this
        simp only [List.length_nil] at this
        omega
      · rw [List.length_set]; exact hn2
      · intro b b1 b2
        rw [upd_ne b2, upd_ne b1]
    · have f1 : 0 ≤ c.fmod 1000000007 := Int.fmod_nonneg_of_pos c (by decide)
      have f2 : c.fmod 1000000007 < 1000000007 := Int.fmod_lt_of_pos c (by decide)
      walk_at "rd"
      exact k _ _ (Int.fmod_nonneg_of_pos _ m0) (Int.fmod_lt_of_pos _ m0) ⟨by omega, ns, upd_same, hq1, hn, hn2⟩ (fun b b1 b2 => upd_ne b1)
/-- a draw, as its callers use it -/
theorem i_draw {p q : Addr} {m s : Int} {H : Hp} {Q : VK} {E : XK} (hp : Pen H p q s) (hs : s < 1099511627776) (m0 : 0 < m) (m1 : m < 1073741824) (k : ∀ r H', 0 ≤ r → r < m → Pen H' p q (s + 1) → But2 p q H H' → Q (.int r) H') : spDraw [.ref p, .int m] H Q E :=
  ⟨p, q, m, s, rfl, hp, hs, m0, m1, k⟩
def spPick (K : PySem.W.Frag) : Sp := fun vs H Q _ => ∃ (p q r : Addr) (s : Int) (xs : List V), vs = [.ref p, .ref r] ∧ Pen H p q s ∧ s < 1099511627776 ∧ H r = some (.lst xs) ∧ r ≠ p ∧ r ≠ q ∧ 0 < xs.length ∧ xs.length < 1000000 ∧ ∀ i (hi : i < xs.length) H', Pen H' p q (s + 1) → But2 p q H H' → Q (xs[i]'hi) H'
theorem i_pick {p q r : Addr} {s : Int} {xs : List V} {H : Hp} {Q : VK} {E : XK} (hp : Pen H p q s) (hs : s < 1099511627776) (hr : hid [p, q] H r = some (.lst xs)) (l0 : 0 < xs.length) (l1 : xs.length < 1000000) (k : ∀ i (hi : i < xs.length) H', Pen H' p q (s + 1) → But2 p q H H' → Q (xs[i]'hi) H') : spPick K [.ref p, .ref r] H Q E := by
  obtain ⟨h1, h2⟩ := hid_iff.mp hr
  exact ⟨p, q, r, s, xs, rfl, hp, hs, h2, fun e => h1 (by rw [e]; exact List.mem_cons_self), fun e => h1 (by rw [e]; exact List.mem_cons_of_mem _ List.mem_cons_self), l0, l1, k⟩
/-! ### words of letters -/
def AZ (x : Str) : Prop := ∀ c ∈ x.cps.toList, 97 ≤ c ∧ c ≤ 122
theorem abc_at : ∀ j : _root_.Fin 26, (Str.ofString "abcdefghijklmnopqrstuvwxyz").cps.toList[j.1]? = some (97 + j.1) := by decide +kernel
def spWord : Sp := fun vs H Q _ => ∃ (p q : Addr) (m s : Int), vs = [.ref p, .int m] ∧ Pen H p q s ∧ s + 20 < 1099511627776 ∧ 0 < m ∧ m ≤ 12 ∧ ∀ (x : Str) s' H', AZ x → 1 ≤ x.length → (x.length : Int) ≤ m → s ≤ s' → s' ≤ s + 20 → Pen H' p q s' → Ex (hid [p, q] H) (hid [p, q] H') → Q (.str x) H'
theorem ok_law_word (T : Gtx K mg) : FnOk P w K mg base CX0 2 T.f_law_word T.d_law_word ["_law_pen", "_law_most"] spWord := by
  refine T.F_law_word.ok sc_law_word (fun vs H Q E h => ?_) (fun cdv A outer s H vs Q E hr h => ?_)
  · obtain ⟨p, q, m, s, rfl, _⟩ := h
    rfl
  · obtain ⟨p, q, m, z, rfl, hpen, hz, m0, m1, k⟩ := h
    refine ⟨_, (pss_cons (ps_set (i := 2) sc_law_word.nd rfl (Or.inr rfl) pe_str)
      (pss_one (ps_ret (pe_join pe_str (pe_lc rfl sc_law_word.nd (pi_range1 (by rfl) T.z_range (pa_cons (pe_op op_add pe_int (pe_call (ok_law_draw T) (hr.mono (by decide)) rfl T.m_law_draw T.F_law_draw.kp T.b_law_draw .nil pass0 (pa_cons (pv 0) (pa_cons (pv 1) pa_nil)))) pa_nil)) (blkOk_by (own := [("_law_k", 3)]) (N := ["_law_pen", "_law_most", "_law_signs", "_law_k"]) (sc := defScope s_law_word) (by decide +kernel)) (fun _ _ _ _ _ => (pg_name (i := 3) sc_law_word.nd rfl (Or.inl rfl))) (fun _ _ _ _ _ => pts_nil) (fun _ _ _ _ _ => (pe_ix ix_str (pv 2) (pe_call (ok_law_draw T) (hr.mono (by decide)) rfl T.m_law_draw T.F_law_draw.kp T.b_law_draw .nil pass0 (pa_cons (pv 0) (pa_cons pe_int pa_nil))) (fun _ _ => rfl)))))))), ?_⟩
    walk_at "rd"
    refine ⟨⟨_, rfl⟩, ?_⟩
    refine Rd.i_lcR ?_
    walk_at "rd"
    refine i_draw hpen (by omega) (by omega) (by omega) (fun r1 H1 lo1 hi1 pen1 b1 => ?_)
    walk_at "rd"
    refine Rd.lcR (by omega) (by omega) (fun D hD => ⟨fun i H2 => ∃ (cs : List Nat) (s' : Int), H2 D = some (.lst (cs.map fun c => .str ⟨#[c]⟩)) ∧ cs.length = i ∧ (∀ c ∈ cs, 97 ≤ c ∧ c ≤ 122) ∧ Pen H2 p q s' ∧ z + 1 ≤ s' ∧ s' ≤ z + 1 + i ∧ Ex (hid [p, q] H1) (hid [p, q] H2), ?_, ?_, ?_⟩)
    · exact ⟨[], z + 1, upd_same, rfl, fun _ h => (List.not_mem_nil h).elim, pen1.mut (pen1.new hD), by omega, by omega, hid_new hD⟩
    · rintro i H2 hi ⟨cs, s', hDl, hlen, haz, pen2, lo, hi2, ex2⟩
      walk_at "rd"
      refine ⟨rfl, ?_⟩
      walk_at "rd"
      have hDn : D ∉ [p, q] := pen1.new hD
      refine i_draw pen2 (by omega) (by omega) (by omega) (fun r3 H3 lo3 hi3 pen3 b3 => ?_)
      have hat : atI (Str.ofString "abcdefghijklmnopqrstuvwxyz").cps.toList r3 = some (97 + r3.toNat) := by
        have e : r3 = ((r3.toNat : Nat) : Int) := by omega
        rw [e]
        exact atI_nat (abc_at ⟨r3.toNat, by omega⟩)
      refine Rd.i_ixS (by decide) hat ?_
      refine ⟨_, b3.at hDn hDl, small1000 (by rw [List.length_map]; omega), cs ++ [97 + r3.toNat], s' + 1, ?_, by rw [List.length_append, hlen]; rfl, ?_, pen3.mut hDn, by omega, by omega, hid_mut (ex2.trans b3.ex) hD⟩
      · rw [List.map_append]; exact upd_same
      · intro c hc
        rcases List.mem_append.mp hc with hc | hc
        · exact haz c hc
        · rw [List.mem_singleton] at hc
          omega
    · rintro H2 ⟨cs, s', hDl, hlen, haz, pen2, lo, hi2, ex2⟩
      walk_at "rd"
      have hm : (cs.map fun c => V.str ⟨#[c]⟩) = (cs.map fun c => (⟨#[c]⟩ : Str)).map V.str := by rw [List.map_map]; rfl
      refine ⟨_, D, cs.map fun c => (⟨#[c]⟩ : Str), rfl, rfl, .inl (SqL.of (by rw [hDl, hm])), ?_, ?_⟩
      · rw [List.map_map]
        have : (cs.map ((fun x : Str => x.length) ∘ fun c => (⟨#[c]⟩ : Str))).sum = cs.length := by
          clear hlen hDl haz hm
          induction cs with
          | nil => rfl
          | cons c r ih => rw [List.map_cons, List.sum_cons, ih, List.length_cons, Nat.add_comm]; rfl
        rw [this, List.length_map]
        show cs.length + cs.length * 0 ≤ 16777216
        omega
      · rw [join_signs]
        have hsz : (⟨cs.toArray⟩ : Str).length = cs.length := by show cs.toArray.size = _; simp
        refine k _ s' _ (fun c hc => haz c (by simpa using hc)) (by rw [hsz]; omega) (by rw [hsz]; omega) (by omega) (by omega) pen2 (b1.ex.trans ex2)
end
end K02

namespace K02
open PySem L2
local macro_rules | `(tactic| walk_at "rd1") => `(tactic| first
  | (with_reducible refine Rd.i_seq ?_) | (with_reducible refine Rd.i_asg ?_) | (with_reducible refine Rd.i_name ?_) | (with_reducible refine Rd.i_nx ?_) | (with_reducible refine Rd.i_rt ?_) | (with_reducible refine Rd.i_next ?_) | (with_reducible refine Rd.i_ct ?_) | (with_reducible refine Rd.i_bk ?_)
  | (with_reducible refine Rd.i_ret ?_) | (with_reducible refine Rd.i_drop ?_) | (with_reducible refine Rd.i_ifS ?_) | (with_reducible refine Rd.i_sub ?_)
  | (with_reducible refine Rd.i_var (by with_unfolding_all exact rfl) ?_) | (with_reducible refine Rd.i_c ?_) | (with_reducible refine Rd.i_op ?_) | (with_reducible refine Rd.i_un ?_)
  | (with_reducible refine Rd.i_rI0 ?_) | (with_reducible refine Rd.i_rI (by with_unfolding_all first | omega | exact Rd.mulL (by omega) (by omega) | exact Rd.mulR (by omega) (by omega) | decide | (refine ⟨?_, ?_⟩ <;> omega) | (refine ⟨?_, ?_, ?_⟩ <;> omega)) ?_)
  | (with_reducible refine Rd.i_rEq (by with_unfolding_all exact rfl) ?_) | (with_reducible refine Rd.i_rNe (by with_unfolding_all exact rfl) ?_)
  | (with_reducible refine Rd.i_test ?_) | (with_reducible refine Rd.i_tB ?_) | (with_reducible refine Rd.i_bl ?_) | (with_reducible refine Rd.i_and ?_) | (with_reducible refine Rd.i_or ?_) | (with_reducible refine Rd.i_not ?_) | (with_reducible refine Rd.i_notV ?_) | (with_reducible refine Rd.i_andV ?_) | (with_reducible refine Rd.i_orV ?_) | (with_reducible refine Rd.i_if ?_) | (with_reducible refine Rd.i_chain ?_)
  | (with_reducible refine Rd.i_call ?_) | (with_reducible refine Rd.i_nil ?_) | (with_reducible refine Rd.i_cons ?_) | (with_reducible refine Rd.i_cb ?_) | (with_reducible refine Rd.i_bm ?_) | (with_reducible refine Rd.i_bm0 ?_) | (with_reducible refine Rd.i_tup ?_) | (with_reducible refine Rd.i_lst ?_)
  | (with_reducible refine Rd.i_int1 ?_) | (with_reducible refine Rd.i_intb ?_) | (with_reducible refine Rd.i_max ?_)
  | (with_reducible refine Rd.i_ixL (SqL.of (by first | assumption | exact upd_same)) (by with_unfolding_all first | exact rfl | exact atI_nat rfl) ?_) | (with_reducible refine Rd.i_ixT (SqT.of (by first | assumption | exact upd_same)) (by with_unfolding_all exact rfl) ?_)
  | (with_reducible refine Rd.i_setL (by first | assumption | exact upd_same) (by with_unfolding_all exact rfl) ?_)
  | (with_reducible refine Xv.i_mkV ?_) | (with_reducible refine Xv.i_xat ?_)
  | (with_reducible refine Rd.i_yes ?_) | (with_reducible refine Rd.i_m1 ?_) | (with_reducible refine Rd.i_m0 ?_) | (with_reducible refine Rd.ite_T ?_) | (with_reducible refine Rd.ite_F ?_) | (with_reducible refine Rd.i_forR ?_) | (with_reducible refine Rd.i_forL ?_) | (with_reducible refine Rd.i_forT ?_)
  | (with_reducible refine Hd.i_rU ?_) | (with_reducible refine Hd.i_pcons ?_) | (with_reducible refine Hd.i_pnil ?_) | (with_reducible refine Hd.i_disp ?_) | (with_reducible refine Hd.i_dget ?_)
  | (with_reducible refine Hd.i_lstRg ?_) | (with_reducible refine Hd.i_rg1 ?_) | (with_reducible refine Hd.i_rg2 ?_) | (with_reducible refine Hd.i_ex1 ?_) | (with_reducible refine Hd.i_ex2 ?_)
  | (with_reducible refine Rd.i_gtup (SqT.of (by assumption)) (by with_unfolding_all exact rfl) ?_) | (with_reducible refine Rd.i_gcons ?_) | (with_reducible refine Rd.i_gnil ?_))
local macro_rules | `(tactic| walk_at "rd") => `(tactic| repeat walk_at "rd1")
section
variable {P : Program} {w : World} {K : PySem.W.Frag} {mg : Str → Option Value} {base : Heap}
open Evl Hd
/-- a name that may stand -/
structure Nm (x : Str) : Prop where
  az : AZ x
  lo : 1 ≤ x.length
  hi : x.length ≤ 12
def aRep (i : Nat) : Str := strRep (Str.ofString "a") (i + 1)
theorem aRep_nodup : ((List.range 12).map aRep).Nodup := by decide +kernel
theorem aRep_nm : ∀ i : _root_.Fin 12, Nm (aRep i.1) := fun i =>
  ⟨fun c hc => (show ∀ i : _root_.Fin 12, ∀ c ∈ (aRep i.1).cps.toList, 97 ≤ c ∧ c ≤ 122 by decide +kernel) i c hc, (show ∀ i : _root_.Fin 12, 1 ≤ (aRep i.1).length by decide +kernel) i, (show ∀ i : _root_.Fin 12, (aRep i.1).length ≤ 12 by decide +kernel) i⟩
theorem spare_is {ns : List Str} (h : ns.length < 12) : ∃ i, i < 12 ∧ aRep i ∉ ns := by
  apply Classical.byContradiction
  intro hc
  have h2 := nodup_len aRep_nodup (l' := ns) (fun a ha => by
    obtain ⟨i, hi, rfl⟩ := List.mem_map.mp ha
    apply Classical.byContradiction
    intro hn
    exact hc ⟨i, List.mem_range.mp hi, hn⟩)
  rw [List.length_map, List.length_range] at h2
  omega
theorem two {c : Prop} [Decidable c] {A B : VK → XK → Prop} {R : VK → XK → Prop} {Q : VK} {E : XK} (h1 : ∀ Q E, R Q E → A Q E) (h2 : ∀ Q E, R Q E → B Q E) (h : R Q E) : if decide c = true then A Q E else B Q E :=
  Rd.ite_d (fun _ => h1 Q E h) (fun _ => h2 Q E h)
def spNames : Sp := fun vs H Q _ => ∃ (p q : Addr) (n : Nat) (s : Int), vs = [.ref p, .int n] ∧ Pen H p q s ∧ s + 1000 < 1099511627776 ∧ n ≤ 8 ∧ ∀ (ns : List Str) l s' H', ns.length = n → ns.Nodup → (∀ x ∈ ns, Nm x) → hid [p, q] H' l = some (.lst (ns.map V.str)) → H l = none → s ≤ s' → s' ≤ s + 1000 → Pen H' p q s' → Ex (hid [p, q] H) (hid [p, q] H') → Q (.ref l) H'
theorem ok_law_names (T : Gtx K mg) : FnOk P w K mg base CX0 3 T.f_law_names T.d_law_names ["_law_pen", "_law_many"] spNames := by
  refine T.F_law_names.ok sc_law_names (fun vs H Q E h => ?_) (fun cdv A outer s H vs Q E hr h => ?_)
  · obtain ⟨p, q, m, s, rfl, _⟩ := h
    rfl
  · obtain ⟨p, q, n, z, rfl, hpen, hz, hn, k⟩ := h
    refine ⟨_, (pss_cons (ps_set (i := 2) sc_law_names.nd rfl (Or.inr rfl) (pe_lst pa_nil))
      (pss_cons (ps_for PassesOwn.never rfl (pi_range1 (by rfl) T.z_range (pa_cons (pv 1) pa_nil)) (pg_name (i := 3) sc_law_names.nd rfl (Or.inl rfl))
        (pss_cons (ps_set (i := 4) sc_law_names.nd rfl (Or.inl rfl) (pe_call (ok_law_word T) (hr.mono (by decide)) rfl T.m_law_word T.F_law_word.kp T.b_law_word .nil pass0 (pa_cons (pv 0) (pa_cons (pe_ifExp (pt_cmpR op_eq (pe_call (ok_law_draw T) (hr.mono (by decide)) rfl T.m_law_draw T.F_law_draw.kp T.b_law_draw .nil pass0 (pa_cons (pv 0) (pa_cons pe_int pa_nil))) pe_int (nomark _)) pe_int pe_int) pa_nil))))
        (pss_cons (ps_setLc (tt := tTest (tOp (rIn K true) (tVar 6) (tVar 2))) (i := 5) rfl sc_law_names.nd rfl rfl (sw_true rfl rfl rfl (by decide +kernel)) (pi_list (pe_lc rfl sc_law_names.nd (pi_range2 (by rfl) T.z_range (pa_cons pe_int (pa_cons pe_int pa_nil))) (blkOk_by (own := [("_law_n", 7)]) (N := ["_law_pen", "_law_many", "_law_found", "_law_k", "_law_name", "_law_spare", "_law_word_here", "_law_n"]) (sc := defScope s_law_names) (by decide +kernel)) (fun _ _ _ _ _ => (pg_name (i := 7) sc_law_names.nd rfl (Or.inl rfl))) (fun _ _ _ _ _ => pts_nil) (fun _ _ _ _ _ => (pe_op Hd.op_mulS pe_str (pv 7))))) (blkOk_by (own := [("_law_word_here", 6)]) (N := ["_law_pen", "_law_many", "_law_found", "_law_k", "_law_name", "_law_spare", "_law_word_here", "_law_n"]) (sc := defScope s_law_names) (by decide +kernel)) (fun _ _ _ _ _ => (pg_name (i := 6) sc_law_names.nd rfl (Or.inl rfl))) (fun _ _ _ _ _ => (pts_one (pt_cmpR op_notIn_seq (pv 6) (pv 2) (by rfl)))) (fun _ _ _ _ _ => (pv 6)))
        (pss_one (ps_expr (pe_bm PySem.F.plainAttrs_list PySem.F.slot_list_append PySem.F.type_list_append mt_append (pv 2) (pa_cons (pe_ifExp (pt_cmpR op_in_seq (pv 4) (pv 2) (by rfl)) (pe_ix ix_list (pv 5) pe_int (fun _ _ => rfl)) (pv 4)) pa_nil)))))))
      (pss_one (ps_ret (pv 2))))), ?_⟩
    have hS : start ["_law_pen", "_law_many", "_law_found", "_law_k", "_law_name", "_law_spare", "_law_word_here", "_law_n"] [V.ref p, .int n] = [some (.ref p), some (.int n), none, none, none, none, none, none] := rfl
    rw [hS]
    walk_at "rd"
    refine ⟨Nat.zero_le _, fun l hl => ?_⟩
    walk_at "rd"
    refine Rd.forR (by omega) (by omega) (fun i σ H2 => ∃ (ns : List Str) (s' : Int) (u3 u4 u5 u6 u7 : Option V), σ = [some (.ref p), some (.int n), some (.ref l), u3, u4, u5, u6, u7] ∧ H2 l = some (.lst (ns.map V.str)) ∧ ns.length = i ∧ ns.Nodup ∧ (∀ x ∈ ns, Nm x) ∧ Pen H2 p q s' ∧ z ≤ s' ∧ s' ≤ z + 30 * i ∧ Ex (hid [p, q] H) (hid [p, q] H2)) ?_ ?_ ?_
    · exact ⟨[], z, _, _, _, _, _, rfl, upd_same, rfl, .nil, fun _ h => (List.not_mem_nil h).elim, hpen.mut (hpen.new hl), by omega, by omega, hid_new hl⟩
    · rintro i σ H2 hi ⟨ns, s', u3, u4, u5, u6, u7, rfl, hls, hlen, hnd, hnm, pen2, lo, hi2, ex2⟩
      walk_at "rd"
      refine i_draw pen2 (by omega) (by omega) (by omega) (fun r1 H3 lo1 hi1 pen3 b3 => ?_)
      walk_at "rd"
      have hln := hpen.new hl
      have word : ∀ (m : Int), m = 12 ∨ m = 2 → ∀ Q E, (∀ (x : Str) s2 H4, Nm x → s' + 1 ≤ s2 → s2 ≤ s' + 21 → Pen H4 p q s2 → Ex (hid [p, q] H3) (hid [p, q] H4) → Q (.str x) H4) → spWord ([V.ref p, .int m] ++ []) H3 Q E := fun m hm Q E kk =>
        ⟨p, q, m, s' + 1, rfl, pen3, by omega, by omega, by omega, fun x s2 H4 x1 x2 x3 x4 x5 x6 x7 => kk x s2 H4 ⟨x1, x2, by omega⟩ x4 (by omega) x6 x7⟩
      refine two (R := fun Q E => ∀ (x : Str) s2 H4, Nm x → s' + 1 ≤ s2 → s2 ≤ s' + 21 → Pen H4 p q s2 → Ex (hid [p, q] H3) (hid [p, q] H4) → Q (.str x) H4) (fun Q E h => word 12 (.inl rfl) Q E h) (fun Q E h => word 2 (.inr rfl) Q E h) (fun x s2 H4 hx lo2 hi3 pen4 ex4 => ?_)
      walk_at "rd"
      have hl3 : hid [p, q] H3 l = some (.lst (ns.map V.str)) := hid_iff.mpr ⟨hln, b3.at hln hls⟩
      have hl4 := hid_get (ex4 _ _ hl3)
      refine Evl.el_lcNL (xs := given 12 (fun _ => true) (fun i => .str (aRep i))) (fun i => !decide (aRep i ∈ ns)) (fun i => .str (aRep i)) (el_lcR2 (m := 1) (n := 13) (fun _ => true) (fun i => .str (aRep i)) (ea_cons ev_c (ea_cons ev_c ea_nil)) ⟨by decide, by decide⟩ ⟨by decide, by decide⟩ (by intro x; rfl) (fun _ _ _ _ => Xv.et_yes) (fun i H5 e5 hi5 _ => ?_)) (by decide +kernel) (by intro x; rfl) (fun i x H5 e5 hx5 => ?_) (fun i x H5 e5 hx5 _ => ?_) _ (Ex.refl _) _ (fun ls H6 n6 e6 h6 => ?_)
      · refine ev_op ev_c (ev_var rfl) (fun H7 e7 Q7 q7 => ⟨_, _, rfl, rfl, by omega, by omega, by decide, ?_⟩)
        have : (1 + (i : Int)).toNat = i + 1 := by omega
        rw [this]
        exact q7 H7 (Ex.refl _)
      · have hi12 : i < 12 := by
          have := (List.getElem?_eq_some_iff.mp hx5).1
          have h12 : (given 12 (fun _ => true) (fun i => V.str (aRep i))).length = 12 := by decide +kernel
          omega
        have hx5' : x = .str (aRep i) := by
          have h12 : (given 12 (fun _ => true) (fun i => V.str (aRep i))) = (List.range 12).map fun i => V.str (aRep i) := by decide +kernel
          rw [h12, List.getElem?_map, List.getElem?_range hi12] at hx5
          exact (Option.some.inj hx5).symm
        subst hx5'
        refine et_test (ev_op (ev_var rfl) (ev_var rfl) (fun H7 e7 Q7 q7 => i_ninS (.inl (sq_of (e7 _ _ (e5 _ _ hl4)))) (q7 H7 (Ex.refl _))))
      · have hi12 : i < 12 := by
          have := (List.getElem?_eq_some_iff.mp hx5).1
          have h12 : (given 12 (fun _ => true) (fun i => V.str (aRep i))).length = 12 := by decide +kernel
          omega
        have hx5' : x = .str (aRep i) := by
          have h12 : (given 12 (fun _ => true) (fun i => V.str (aRep i))) = (List.range 12).map fun i => V.str (aRep i) := by decide +kernel
          rw [h12, List.getElem?_map, List.getElem?_range hi12] at hx5
          exact (Option.some.inj hx5).symm
        subst hx5'
        exact ev_var rfl
      · have h12 : (given 12 (fun _ => true) (fun i => V.str (aRep i))).length = 12 := by decide +kernel
        rw [h12] at h6
        obtain ⟨i0, hi0, hni0⟩ := spare_is (ns := ns) (by omega)
        obtain ⟨j, hj, hfj, hg0, hgl⟩ := given_mem (f := fun i => !decide (aRep i ∈ ns)) (v := fun i => V.str (aRep i)) hi0 (by simpa using hni0)
        have hnj : aRep j ∉ ns := by simpa using hfj
        have hl6 := e6 _ _ hl4
        have fin : ∀ y : Str, Nm y → y ∉ ns → ∀ (u3 u4 u5 u6 u7 : Option V), ∃ (ns' : List Str) (s3 : Int) (u3' u4' u5' u6' u7' : Option V), [some (V.ref p), some (V.int n), some (V.ref l), u3, u4, u5, u6, u7] = [some (V.ref p), some (V.int n), some (V.ref l), u3', u4', u5', u6', u7'] ∧ upd H6 l (.lst (ns.map V.str ++ [.str y])) l = some (.lst (ns'.map V.str)) ∧ ns'.length = i + 1 ∧ ns'.Nodup ∧ (∀ x ∈ ns', Nm x) ∧ Pen (upd H6 l (.lst (ns.map V.str ++ [.str y]))) p q s3 ∧ z ≤ s3 ∧ s3 ≤ z + 30 * ((i + 1 : Nat) : Int) ∧ Ex (hid [p, q] H) (hid [p, q] (upd H6 l (.lst (ns.map V.str ++ [.str y])))) := fun y hy hyn u3 u4 u5 u6 u7 =>
          ⟨ns ++ [y], s2, u3, u4, u5, u6, u7, rfl, by rw [List.map_append]; exact upd_same, by rw [List.length_append, hlen]; rfl, by
            rw [List.nodup_append]
            refine ⟨hnd, List.nodup_cons.mpr ⟨List.not_mem_nil, .nil⟩, fun a ha b hb e => ?_⟩
            rw [List.mem_singleton] at hb
            rw [e, hb] at ha
            exact hyn ha, fun x hx => by
            rcases List.mem_append.mp hx with hx | hx
            · exact hnm x hx
            · rw [List.mem_singleton] at hx
              rw [hx]
              exact hy, (pen4.ex e6).mut hln, by omega, by omega, hid_mut (((ex2.trans b3.ex).trans ex4).trans (hid_ex e6)) hl⟩
        walk_at "rd"
        refine ⟨.inl ⟨rfl, _, SqL.of hl6⟩, ?_⟩
        walk_at "rd"
        refine i_inS (.inl (SqL.of hl6)) ?_
        walk_at "rd"
        refine Rd.ite_d (fun hin => ?_) (fun hin => ?_)
        · walk_at "rd"
          refine Rd.i_ixL (SqL.of h6) (atI_nat (j := 0) hg0) ?_
          walk_at "rd"
          refine Rd.i_append hl6 (small1000 (by rw [List.length_map]; omega)) ?_
          walk_at "rd"
          exact fin _ (aRep_nm ⟨j, hj⟩) hnj _ _ _ _ _
        · walk_at "rd"
          refine Rd.i_append hl6 (small1000 (by rw [List.length_map]; omega)) ?_
          walk_at "rd"
          exact fin _ hx hin _ _ _ _ _
    · rintro σ H2 ⟨ns, s', u3, u4, u5, u6, u7, rfl, hls, hlen, hnd, hnm, pen2, lo, hi2, ex2⟩
      walk_at "rd"
      exact k ns l s' H2 (by omega) hnd hnm (hid_iff.mpr ⟨hpen.new hl, hls⟩) hl lo (by omega) pen2 ex2
end
end K02

namespace K02
open PySem L2
local macro_rules | `(tactic| walk_at "rd1") => `(tactic| first
  | (with_reducible refine Rd.i_seq ?_) | (with_reducible refine Rd.i_asg ?_) | (with_reducible refine Rd.i_name ?_) | (with_reducible refine Rd.i_nx ?_) | (with_reducible refine Rd.i_rt ?_) | (with_reducible refine Rd.i_next ?_) | (with_reducible refine Rd.i_ct ?_) | (with_reducible refine Rd.i_bk ?_)
  | (with_reducible refine Rd.i_ret ?_) | (with_reducible refine Rd.i_drop ?_) | (with_reducible refine Rd.i_ifS ?_) | (with_reducible refine Rd.i_sub ?_)
  | (with_reducible refine Rd.i_var (by with_unfolding_all exact rfl) ?_) | (with_reducible refine Rd.i_c ?_) | (with_reducible refine Rd.i_op ?_) | (with_reducible refine Rd.i_un ?_)
  | (with_reducible refine Rd.i_rI0 ?_) | (with_reducible refine Rd.i_rI (by with_unfolding_all first | omega | exact Rd.mulL (by omega) (by omega) | exact Rd.mulR (by omega) (by omega) | decide | (refine ⟨?_, ?_⟩ <;> omega) | (refine ⟨?_, ?_, ?_⟩ <;> omega)) ?_)
  | (with_reducible refine Rd.i_rEq (by with_unfolding_all exact rfl) ?_) | (with_reducible refine Rd.i_rNe (by with_unfolding_all exact rfl) ?_)
  | (with_reducible refine Rd.i_test ?_) | (with_reducible refine Rd.i_tB ?_) | (with_reducible refine Rd.i_bl ?_) | (with_reducible refine Rd.i_and ?_) | (with_reducible refine Rd.i_or ?_) | (with_reducible refine Rd.i_not ?_) | (with_reducible refine Rd.i_notV ?_) | (with_reducible refine Rd.i_andV ?_) | (with_reducible refine Rd.i_orV ?_) | (with_reducible refine Rd.i_if ?_) | (with_reducible refine Rd.i_chain ?_)
  | (with_reducible refine Rd.i_call ?_) | (with_reducible refine Rd.i_nil ?_) | (with_reducible refine Rd.i_cons ?_) | (with_reducible refine Rd.i_cb ?_) | (with_reducible refine Rd.i_bm ?_) | (with_reducible refine Rd.i_bm0 ?_) | (with_reducible refine Rd.i_tup ?_) | (with_reducible refine Rd.i_lst ?_)
  | (with_reducible refine Rd.i_int1 ?_) | (with_reducible refine Rd.i_intb ?_) | (with_reducible refine Rd.i_max ?_)
  | (with_reducible refine Rd.i_ixL (SqL.of (by first | assumption | exact upd_same)) (by with_unfolding_all first | exact rfl | exact atI_nat rfl) ?_) | (with_reducible refine Rd.i_ixT (SqT.of (by first | assumption | exact upd_same)) (by with_unfolding_all exact rfl) ?_)
  | (with_reducible refine Rd.i_setL (by first | assumption | exact upd_same) (by with_unfolding_all exact rfl) ?_)
  | (with_reducible refine Xv.i_mkV ?_) | (with_reducible refine Xv.i_xat ?_)
  | (with_reducible refine Rd.i_yes ?_) | (with_reducible refine Rd.i_m1 ?_) | (with_reducible refine Rd.i_m0 ?_) | (with_reducible refine Rd.ite_T ?_) | (with_reducible refine Rd.ite_F ?_) | (with_reducible refine Rd.i_forR ?_) | (with_reducible refine Rd.i_forL ?_) | (with_reducible refine Rd.i_forT ?_)
  | (with_reducible refine Hd.i_rU ?_) | (with_reducible refine Hd.i_pcons ?_) | (with_reducible refine Hd.i_pnil ?_) | (with_reducible refine Hd.i_disp ?_) | (with_reducible refine Hd.i_dget ?_)
  | (with_reducible refine Hd.i_lstRg ?_) | (with_reducible refine Hd.i_rg1 ?_) | (with_reducible refine Hd.i_rg2 ?_) | (with_reducible refine Hd.i_ex1 ?_) | (with_reducible refine Hd.i_ex2 ?_)
  | (with_reducible refine Rd.i_gtup (SqT.of (by assumption)) (by with_unfolding_all exact rfl) ?_) | (with_reducible refine Rd.i_gcons ?_) | (with_reducible refine Rd.i_gnil ?_))
local macro_rules | `(tactic| walk_at "rd") => `(tactic| repeat walk_at "rd1")
section
variable {P : Program} {w : World} {K : PySem.W.Frag} {mg : Str → Option Value} {base : Heap}
open Evl Hd
abbrev lkL : List Str := ["take", "take", "take", "take", "case", "case", "rest", "cap", "jump"]
abbrev qtL : List Str := ["skip", "skip", "skip", "cut", "cut", "upto", "upto", "set", "refuse"]
/-- the words of lines that read, of silent ones -/
def Lk (x : Str) : Prop := x ∈ (["take", "case", "rest", "cap", "jump"] : List Str)
def Qt (x : Str) : Prop := x ∈ (["skip", "cut", "upto", "set", "refuse"] : List Str)
instance (x : Str) : Decidable (Lk x) := inferInstanceAs (Decidable (x ∈ _))
instance (x : Str) : Decidable (Qt x) := inferInstanceAs (Decidable (x ∈ _))
theorem lk_of : ∀ x ∈ lkL, Lk x := by decide +kernel
theorem qt_of : ∀ x ∈ qtL, Qt x := by decide +kernel
structure Wds (ws : List Str) : Prop where
  all : ∀ x ∈ ws, Lk x ∨ Qt x
  beg : (∃ x, ws[0]? = some x ∧ Lk x) ∨ (2 < ws.length ∧ (∃ x, ws[0]? = some x ∧ x ∈ (["set", "upto"] : List Str)) ∧ ∃ x, ws[1]? = some x ∧ Lk x)
theorem i_pickS {p q r : Addr} {s : Int} {ns : List Str} {H : Hp} {Q : VK} {E : XK} (hp : Pen H p q s) (hs : s < 1099511627776) (hr : hid [p, q] H r = some (.lst (ns.map V.str))) (l0 : 0 < ns.length) (l1 : ns.length < 1000000) (k : ∀ x ∈ ns, ∀ H', Pen H' p q (s + 1) → But2 p q H H' → Q (.str x) H') : spPick K ([V.ref p, V.ref r] ++ []) H Q E :=
  i_pick hp hs hr (by rw [List.length_map]; exact l0) (by rw [List.length_map]; exact l1) (fun i hi H' a b => by
    rw [List.getElem_map]
    exact k _ (List.getElem_mem _) H' a b)
/-- what is free behind a draw was free before it -/
theorem fresh_hid {p q a : Addr} {H H' : Hp} (b : But2 p q H H') (hn : a ∉ [p, q]) (h : H' a = none) : H a = none := by
  rw [← b a (fun z => hn (by rw [z]; exact List.mem_cons_self)) (fun z => hn (by rw [z]; exact List.mem_cons_of_mem _ List.mem_cons_self))]
  exact h
def WInv (p q a1 a2 l : Addr) (n : Nat) (z : Int) (H : Hp) (i : Nat) (σ : L2.St) (H2 : Hp) : Prop := ∃ (ws : List Str) (s' : Int) (u5 : Option V), σ = [some (.ref p), some (.int n), some (.ref a1), some (.ref a2), some (.ref l), u5] ∧ H2 l = some (.lst (ws.map V.str)) ∧ ws.length = i + 1 ∧ (∀ x ∈ ws, Lk x ∨ Qt x) ∧ (∃ x, ws[0]? = some x ∧ Lk x) ∧ Pen H2 p q s' ∧ z ≤ s' ∧ s' ≤ z + 1 + 2 * i ∧ Ex (hid [p, q] H) (hid [p, q] H2) ∧ hid [p, q] H2 a1 = some (.lst (lkL.map V.str)) ∧ hid [p, q] H2 a2 = some (.lst (qtL.map V.str))
def WMid (p q a1 a2 l : Addr) (n : Nat) (z c : Int) (H : Hp) (σ : L2.St) (H2 : Hp) : Prop := ∃ (ws : List Str) (s' : Int) (u5 : Option V), σ = [some (.ref p), some (.int n), some (.ref a1), some (.ref a2), some (.ref l), u5] ∧ H2 l = some (.lst (ws.map V.str)) ∧ ws.length = n ∧ (∀ x ∈ ws, Lk x ∨ Qt x) ∧ (∃ x, ws[0]? = some x ∧ Lk x) ∧ Pen H2 p q s' ∧ z ≤ s' ∧ s' ≤ z + c ∧ Ex (hid [p, q] H) (hid [p, q] H2)
theorem ixN_of {m : Nat} {i : Int} {j : Nat} (h : i = (j : Int)) (hj : j < m) : ixN m i = some j := by rw [h]; exact Evl.ixN_nat hj
theorem set_str (ws : List Str) (j : Nat) (x : Str) : (ws.map V.str).set j (.str x) = (ws.set j x).map V.str := by rw [List.map_set]
theorem mem_set_or {α : Type} {l : List α} {j : Nat} {x y : α} (h : y ∈ l.set j x) : y ∈ l ∨ y = x := List.mem_or_eq_of_mem_set h
theorem qt_cut : Qt "cut" := by decide +kernel
theorem qt_skip : Qt "skip" := by decide +kernel
/-- a silent word is set behind the first -/
theorem wmid_set {p q a1 a2 l : Addr} {n j : Nat} {z c : Int} {H H3 : Hp} {ws : List Str} {s' : Int} {u5 : Option V} {x : Str} (hlen : ws.length = n) (hall : ∀ x ∈ ws, Lk x ∨ Qt x) (hbeg : ∃ x, ws[0]? = some x ∧ Lk x) (hj : 1 ≤ j) (hx : Qt x)
    (pen : Pen H3 p q s') (lo : z ≤ s') (hi : s' ≤ z + c) (hl : H l = none) (hln : l ∉ [p, q]) (ex : Ex (hid [p, q] H) (hid [p, q] H3)) :
    WMid p q a1 a2 l n z c H [some (.ref p), some (.int n), some (.ref a1), some (.ref a2), some (.ref l), u5] (upd H3 l (.lst ((ws.map V.str).set j (.str x)))) := by
  refine ⟨ws.set j x, s', u5, rfl, by rw [set_str]; exact upd_same, by rw [List.length_set]; exact hlen, fun y hy => ?_, ?_, pen.mut hln, lo, hi, hid_mut ex hl⟩
  · rcases mem_set_or hy with hy | hy
    · exact hall y hy
    · rw [hy]; exact .inr hx
  · obtain ⟨y, h1, h2⟩ := hbeg
    exact ⟨y, by rw [List.getElem?_set_ne (by omega)]; exact h1, h2⟩
def wAt (ws : List Str) (i : Nat) : Str := ws.getD i (Str.ofString "")
theorem wAt_some {ws : List Str} {i : Nat} {x : Str} (h : ws[i]? = some x) : wAt ws i = x := by
  unfold wAt
  rw [List.getD_eq_getElem?_getD, h]
  rfl
theorem wAt_get {ws : List Str} {i : Nat} (h : i < ws.length) : (ws.map V.str)[i]? = some (.str (wAt ws i)) := by
  rw [List.getElem?_map, List.getElem?_eq_getElem h, wAt_some (List.getElem?_eq_getElem h)]
  rfl
theorem wAt_mem {ws : List Str} {i : Nat} (h : i < ws.length) : wAt ws i ∈ ws := by
  rw [wAt_some (List.getElem?_eq_getElem h)]
  exact List.getElem_mem h
theorem ev_w {σ : L2.St} {H : Hp} {ta tb : TE} {lw : Addr} {ws : List Str} {i : Nat} {z : Int} (hv : Ev ta σ H (.ref lw)) (hi : Ev tb σ H (.int z)) (e : z = (i : Int)) (h : SqL K H lw (ws.map V.str)) (hlt : i < ws.length) : Ev (tOp (rIxL K) ta tb) σ H (.str (wAt ws i)) :=
  ev_op hv hi (rv_ixL h (at_of e (wAt_get hlt)))
theorem rv_inS {σ : L2.St} {H : Hp} {p : Addr} {a : Str} {ns : List Str} (h : SqL K H p (ns.map V.str) ∨ SqT K H p (ns.map V.str)) : RV (rIn K false) (.str a) (.ref p) H (.bl (decide (a ∈ ns))) := fun H1 e Q q =>
  i_inS (h.elim (fun h => .inl (ex_l e h)) (fun h => .inr (ex_t e h))) (q H1 (Ex.refl _))
theorem rv_ninS {σ : L2.St} {H : Hp} {p : Addr} {a : Str} {ns : List Str} (h : SqL K H p (ns.map V.str) ∨ SqT K H p (ns.map V.str)) : RV (rIn K true) (.str a) (.ref p) H (.bl (!decide (a ∈ ns))) := fun H1 e Q q =>
  i_ninS (h.elim (fun h => .inl (ex_l e h)) (fun h => .inr (ex_t e h))) (q H1 (Ex.refl _))
abbrev lk5 : List Str := ["take", "case", "rest", "cap", "jump"]
def GMid (p q lw lk : Addr) (ws : List Str) (at_ : Nat) (z : Int) (H1 : Hp) (B : Nat) (Pg : Nat → Prop) (σ : L2.St) (H' : Hp) : Prop := ∃ (sp' : Addr) (xs : List V) (s' : Int) (u5 u6 u7 : Option V), σ = [some (.ref p), some (.ref lw), some (.int at_), some (.ref lk), some (.ref sp'), u5, u6, u7] ∧
  hid [p, q] H' sp' = some (.lst xs) ∧ AllG ws.length Pg xs ∧ 0 < xs.length ∧ xs.length ≤ B ∧ Pen H' p q s' ∧ z ≤ s' ∧ s' ≤ z + 5 ∧ Ex (hid [p, q] H1) (hid [p, q] H')
def NMid (p q lw lk : Addr) (ws : List Str) (at_ : Nat) (z : Int) (pos : Bool) (H1 : Hp) (σ : L2.St) (H' : Hp) : Prop := ∃ (nr : Addr) (xs : List V) (s' : Int) (u4 u5 u6 : Option V), σ = [some (.ref p), some (.ref lw), some (.int at_), some (.ref lk), u4, u5, u6, some (.ref nr)] ∧
  hid [p, q] H' nr = some (.lst xs) ∧ AllG ws.length (fun _ => True) xs ∧ (pos = true → 0 < xs.length) ∧ xs.length ≤ 500 ∧ Pen H' p q s' ∧ z ≤ s' ∧ s' ≤ z + 5 ∧ Ex (hid [p, q] H1) (hid [p, q] H')
/-- a pick of a place -/
theorem i_pickG {p q r : Addr} {s : Int} {n : Nat} {Pg : Nat → Prop} {xs : List V} {H : Hp} {Q : VK} {E : XK} (hp : Pen H p q s) (hs : s < 1099511627776) (hr : hid [p, q] H r = some (.lst xs)) (l0 : 0 < xs.length) (l1 : xs.length ≤ 500) (hg : AllG n Pg xs) (k : ∀ g : Nat, g < n → Pg g → ∀ H', Pen H' p q (s + 1) → But2 p q H H' → Q (.int g) H') : spPick K ([V.ref p, V.ref r] ++ []) H Q E :=
  i_pick hp hs hr l0 (by omega) (fun i hi H' a b => by
    obtain ⟨g, e, h1, h2⟩ := hg _ (List.getElem_mem hi)
    rw [e]
    exact k g h1 h2 H' a b)
theorem i_pickI {p q r : Addr} {s : Int} {ns : List Int} {H : Hp} {Q : VK} {E : XK} (hp : Pen H p q s) (hs : s < 1099511627776) (hr : hid [p, q] H r = some (.lst (ns.map V.int))) (l0 : 0 < ns.length) (l1 : ns.length < 1000000) (k : ∀ x ∈ ns, ∀ H', Pen H' p q (s + 1) → But2 p q H H' → Q (.int x) H') : spPick K ([V.ref p, V.ref r] ++ []) H Q E :=
  i_pick hp hs hr (by rw [List.length_map]; exact l0) (by rw [List.length_map]; exact l1) (fun i hi H' a b => by
    rw [List.getElem_map]
    exact k _ (List.getElem_mem _) H' a b)
/-- where a line of words may go -/
def Gok (ws : List Str) (at_ g : Nat) : Prop := g < ws.length ∧ (¬ Lk (wAt ws at_) → Lk (wAt ws g) ∨ (0 < at_ ∧ at_ < g))
/-- a way as a tuple at hand -/
def WayAt (H : Hp) (ns : List Str) (v : V) (y : Int × Nat) : Prop := ∃ a, v = .ref a ∧ H a = some (.tup [.int y.1, .str (wAt ns y.2)])
theorem WayAt.mono {H H' : Hp} {ns : List Str} {v : V} {y : Int × Nat} (e : Ex H H') (h : WayAt H ns v y) : WayAt H' ns v y := by
  obtain ⟨a, h1, h2⟩ := h
  exact ⟨a, h1, e _ _ h2⟩
abbrev WaysAt (H : Hp) (ns : List Str) : List V → List (Int × Nat) → Prop := Paired (WayAt H ns)
theorem paired_mono {α β : Type} {F G : α → β → Prop} (h : ∀ a b, F a b → G a b) : ∀ {l : List α} {m : List β}, Paired F l m → Paired G l m
  | _, _, .nil => .nil
  | _, _, .cons r t => .cons (h _ _ r) (paired_mono h t)
theorem paired_app {α β : Type} {F : α → β → Prop} : ∀ {l l' : List α} {m m' : List β}, Paired F l m → Paired F l' m' → Paired F (l ++ l') (m ++ m')
  | _, _, _, _, .nil, s => s
  | _, _, _, _, .cons r t, s => .cons r (paired_app t s)
def vals (s t : Int) (m : Nat) : List Int := (List.range m).map fun (k : Nat) => (s + t * (k : Int)).fmod 6
theorem vals5 : ∀ s : _root_.Fin 6, ∀ t ∈ ([1, 5] : List Int), (vals (s.1 : Int) t 5).Nodup := by decide +kernel
theorem vals_nodup {s t : Int} {m : Nat} (hs : 0 ≤ s) (hs6 : s < 6) (ht : t ∈ ([1, 5] : List Int)) (hm : m ≤ 5) : (vals s t m).Nodup := by
  have h := vals5 ⟨s.toNat, by omega⟩ t ht
  have e : ((s.toNat : Nat) : Int) = s := by omega
  simp only [e] at h
  exact h.sublist ((List.range_sublist.mpr hm).map _)
theorem vals_in {s t : Int} {m : Nat} : ∀ v ∈ vals s t m, 0 ≤ v ∧ v ≤ 5 := fun v hv => by
  obtain ⟨k, _, rfl⟩ := List.mem_map.mp hv
  have h1 := Int.fmod_nonneg_of_pos (s + t * (k : Int)) (b := 6) (by decide)
  have h2 := Int.fmod_lt_of_pos (s + t * (k : Int)) (b := 6) (by decide)
  exact ⟨h1, by omega⟩
theorem vals_succ (s t : Int) (i : Nat) : vals s t (i + 1) = vals s t i ++ [(s + t * (i : Int)).fmod 6] := by
  unfold vals
  rw [List.range_succ, List.map_append]
  rfl
/-- a line, its goals by their places -/
inductive Li where
  | case (wy : List (Int × Nat)) (o : Nat)
  | take (o : Nat)
  | num (w : Str) (c : Int) (o : Nat)
  | upto (c : Int) (a b : Nat)
  | fin (w : Str)
/-- a line as a tuple at hand, its ways a list -/
def LiAt (H : Hp) (ns : List Str) (v : V) : Li → Prop
  | .case wy o => ∃ t l ts, v = .ref t ∧ H t = some (.tup [.str "case", .ref l, .str (wAt ns o)]) ∧ H l = some (.lst ts) ∧ WaysAt H ns ts wy
  | .take o => ∃ t, v = .ref t ∧ H t = some (.tup [.str "take", .str (wAt ns o)])
  | .num w c o => ∃ t, v = .ref t ∧ H t = some (.tup [.str w, .int c, .str (wAt ns o)])
  | .upto c a b => ∃ t, v = .ref t ∧ H t = some (.tup [.str "upto", .int c, .str (wAt ns a), .str (wAt ns b)])
  | .fin w => ∃ t, v = .ref t ∧ H t = some (.tup [.str w])
theorem LiAt.mono {H H' : Hp} {ns : List Str} {v : V} (e : Ex H H') : ∀ {li : Li}, LiAt H ns v li → LiAt H' ns v li
  | .case wy o, ⟨t, l, ts, h1, h2, h3, h4⟩ => ⟨t, l, ts, h1, e _ _ h2, e _ _ h3, paired_mono (fun _ _ h => h.mono e) h4⟩
  | .take o, ⟨t, h1, h2⟩ => ⟨t, h1, e _ _ h2⟩
  | .num w c o, ⟨t, h1, h2⟩ => ⟨t, h1, e _ _ h2⟩
  | .upto c a b, ⟨t, h1, h2⟩ => ⟨t, h1, e _ _ h2⟩
  | .fin w, ⟨t, h1, h2⟩ => ⟨t, h1, e _ _ h2⟩
/-- the bounds of a number behind its word -/
def NumOk (w : Str) (c : Int) : Prop := (w = "rest" ∧ 2 ≤ c ∧ c ≤ 4) ∨ (w = "cap" ∧ 0 ≤ c ∧ c ≤ 5) ∨ (w = "jump" ∧ 1 ≤ c ∧ c ≤ 4) ∨ (w = "set" ∧ 0 ≤ c ∧ c ≤ 5) ∨ (w = "skip" ∧ -3 ≤ c ∧ c ≤ 4)
def LiOk (ws : List Str) (at_ : Nat) : Li → Prop
  | .case wy o => wAt ws at_ = "case" ∧ (wy.map (·.1)).Nodup ∧ (∀ y ∈ wy, 0 ≤ y.1 ∧ y.1 ≤ 5 ∧ Gok ws at_ y.2) ∧ wy.length ≤ 5 ∧ Gok ws at_ o
  | .take o => wAt ws at_ = "take" ∧ Gok ws at_ o
  | .num w c o => wAt ws at_ = w ∧ NumOk w c ∧ Gok ws at_ o
  | .upto c a b => wAt ws at_ = "upto" ∧ 0 ≤ c ∧ c ≤ 5 ∧ Gok ws at_ a ∧ Gok ws at_ b
  | .fin w => wAt ws at_ = w ∧ (w = "cut" ∨ w = "refuse")
abbrev lowK : List (Key × V) := [(Sum.inr "rest", .int 2), (Sum.inr "cap", .int 0), (Sum.inr "jump", .int 1), (Sum.inr "set", .int 0), (Sum.inr "skip", .int (-3))]
abbrev manyK : List (Key × V) := [(Sum.inr "rest", .int 3), (Sum.inr "cap", .int 6), (Sum.inr "jump", .int 4), (Sum.inr "set", .int 6), (Sum.inr "skip", .int 8)]
theorem num_of {x : Str} (h : x ∈ (["rest", "cap", "jump", "set", "skip"] : List Str)) : ∃ lo mn : Int, valV (mergeK [] lowK) (Sum.inr x) = some (.int lo) ∧ valV (mergeK [] manyK) (Sum.inr x) = some (.int mn) ∧ 0 < mn ∧ mn < 10 ∧ ∀ r, 0 ≤ r → r < mn → NumOk x (lo + r) := by
  rcases List.mem_cons.mp h with rfl | h
  · exact ⟨2, 3, by decide +kernel, by decide +kernel, by decide, by decide, fun r h0 h1 => .inl ⟨rfl, by omega, by omega⟩⟩
  rcases List.mem_cons.mp h with rfl | h
  · exact ⟨0, 6, by decide +kernel, by decide +kernel, by decide, by decide, fun r h0 h1 => .inr (.inl ⟨rfl, by omega, by omega⟩)⟩
  rcases List.mem_cons.mp h with rfl | h
  · exact ⟨1, 4, by decide +kernel, by decide +kernel, by decide, by decide, fun r h0 h1 => .inr (.inr (.inl ⟨rfl, by omega, by omega⟩))⟩
  rcases List.mem_cons.mp h with rfl | h
  · exact ⟨0, 6, by decide +kernel, by decide +kernel, by decide, by decide, fun r h0 h1 => .inr (.inr (.inr (.inl ⟨rfl, by omega, by omega⟩)))⟩
  rcases List.mem_cons.mp h with rfl | h
  · exact ⟨-3, 8, by decide +kernel, by decide +kernel, by decide, by decide, fun r h0 h1 => .inr (.inr (.inr (.inr ⟨rfl, by omega, by omega⟩)))⟩
  · cases h
theorem ten {x : Str} (h : Lk x ∨ Qt x) (h1 : x ∉ (["cut", "refuse"] : List Str)) (h2 : x ≠ "take") (h3 : x ≠ "case") (h4 : x ≠ "upto") : x ∈ (["rest", "cap", "jump", "set", "skip"] : List Str) := by
  unfold Lk Qt at h
  simp only [List.mem_cons, List.not_mem_nil, or_false] at h h1 ⊢
  rcases h with (h | h | h | h | h) | (h | h | h | h | h)
  · exact absurd h h2
  · exact absurd h h3
  · exact .inl h
  · exact .inr (.inl h)
  · exact .inr (.inr (.inl h))
  · exact .inr (.inr (.inr (.inr h)))
  · exact absurd (.inl h) h1
  · exact absurd h h4
  · exact .inr (.inr (.inr (.inl h)))
  · exact absurd (.inr h) h1
def numbered (ls : List Li) : List (Nat × Li) := (List.range ls.length).zip ls
/-- the list within a line's tuple is new -/
def LNew (H : Hp) (v : V) (H' : Hp) : Prop := ∀ t x l y, v = .ref t → H' t = some (.tup [x, .ref l, y]) → H l = none
theorem lnew_of {H H' : Hp} {t : Addr} {xs : List V} (h : H' t = some (.tup xs)) (hn : ∀ x l y, xs ≠ [x, V.ref l, y]) : LNew H (.ref t) H' := fun t' x l y e h' => by
  cases e
  rw [h] at h'
  cases h'
  exact absurd rfl (hn x l y)
theorem li_hid {p q D : Addr} {H : Hp} {ts : List V} {ns : List Str} {v : V} (hD : H D = some (.lst ts)) (hn : ∀ t x l y, v = .ref t → H t = some (.tup [x, .ref l, y]) → l ≠ D) : ∀ {li : Li}, LiAt (hid [p, q] H) ns v li → LiAt (hid [p, q, D] H) ns v li := by
  have tp : ∀ {t xs}, hid [p, q] H t = some (.tup xs) → hid [p, q, D] H t = some (.tup xs) := fun {t xs} h => hid_iff.mpr ⟨nin3 (nin h) (ne_of (hid_get h) hD (fun z => by cases z)), hid_get h⟩
  intro li h
  cases li with
  | case wy o =>
    obtain ⟨t, l, lt, h1, h2, h3, h4⟩ := h
    exact ⟨t, l, lt, h1, tp h2, hid_iff.mpr ⟨nin3 (nin h3) (hn _ _ _ _ h1 (hid_get h2)), hid_get h3⟩, paired_mono (fun v y ⟨a, b, c⟩ => ⟨a, b, tp c⟩) h4⟩
  | take o => exact ⟨h.choose, h.choose_spec.1, tp h.choose_spec.2⟩
  | num w c o => exact ⟨h.choose, h.choose_spec.1, tp h.choose_spec.2⟩
  | upto c a b => exact ⟨h.choose, h.choose_spec.1, tp h.choose_spec.2⟩
  | fin w => exact ⟨h.choose, h.choose_spec.1, tp h.choose_spec.2⟩
theorem numbered_app (ls : List Li) (li : Li) : numbered (ls ++ [li]) = numbered ls ++ [(ls.length, li)] := by
  unfold numbered
  rw [List.length_append]
  show (List.range (ls.length + 1)).zip (ls ++ [li]) = _
  rw [List.range_succ, List.zip_append (by rw [List.length_range])]
  rfl
/-- a drawn reader's lines: names, words, lines by places -/
structure Drawn (ns ws : List Str) (ls : List Li) : Prop where
  len : ns.length = ws.length
  lenL : ls.length = ws.length
  pos : 1 ≤ ws.length
  most : ws.length ≤ 8
  nd : ns.Nodup
  nm : ∀ x ∈ ns, Nm x
  wds : Wds ws
  ok : ∀ i li, ls[i]? = some li → LiOk ws i li
/-- the pair of a name and a line -/
def PairAt (H : Hp) (ns : List Str) (v : V) (y : Nat × Li) : Prop := ∃ t x, v = .ref t ∧ H t = some (.tup [.str (wAt ns y.1), x]) ∧ LiAt H ns x y.2
theorem PairAt.mono {H H' : Hp} {ns : List Str} {v : V} {y : Nat × Li} (e : Ex H H') (h : PairAt H ns v y) : PairAt H' ns v y := by
  obtain ⟨t, x, h1, h2, h3⟩ := h
  exact ⟨t, x, h1, e _ _ h2, h3.mono e⟩
end
end K02

namespace K02
open PySem L2
local macro_rules | `(tactic| walk_at "rd1") => `(tactic| first
  | (with_reducible refine Rd.i_seq ?_) | (with_reducible refine Rd.i_asg ?_) | (with_reducible refine Rd.i_name ?_) | (with_reducible refine Rd.i_nx ?_) | (with_reducible refine Rd.i_rt ?_) | (with_reducible refine Rd.i_next ?_) | (with_reducible refine Rd.i_ct ?_) | (with_reducible refine Rd.i_bk ?_)
  | (with_reducible refine Rd.i_ret ?_) | (with_reducible refine Rd.i_drop ?_) | (with_reducible refine Rd.i_ifS ?_) | (with_reducible refine Rd.i_sub ?_)
  | (with_reducible refine Rd.i_var (by with_unfolding_all exact rfl) ?_) | (with_reducible refine Rd.i_c ?_) | (with_reducible refine Rd.i_op ?_) | (with_reducible refine Rd.i_un ?_)
  | (with_reducible refine Rd.i_rI0 ?_) | (with_reducible refine Rd.i_rI (by with_unfolding_all first | omega | exact Rd.mulL (by omega) (by omega) | exact Rd.mulR (by omega) (by omega) | decide | (refine ⟨?_, ?_⟩ <;> omega) | (refine ⟨?_, ?_, ?_⟩ <;> omega)) ?_)
  | (with_reducible refine Rd.i_rEq (by with_unfolding_all exact rfl) ?_) | (with_reducible refine Rd.i_rNe (by with_unfolding_all exact rfl) ?_)
  | (with_reducible refine Rd.i_test ?_) | (with_reducible refine Rd.i_tB ?_) | (with_reducible refine Rd.i_bl ?_) | (with_reducible refine Rd.i_and ?_) | (with_reducible refine Rd.i_or ?_) | (with_reducible refine Rd.i_not ?_) | (with_reducible refine Rd.i_notV ?_) | (with_reducible refine Rd.i_andV ?_) | (with_reducible refine Rd.i_orV ?_) | (with_reducible refine Rd.i_if ?_) | (with_reducible refine Rd.i_chain ?_)
  | (with_reducible refine Rd.i_call ?_) | (with_reducible refine Rd.i_nil ?_) | (with_reducible refine Rd.i_cons ?_) | (with_reducible refine Rd.i_cb ?_) | (with_reducible refine Rd.i_bm ?_) | (with_reducible refine Rd.i_bm0 ?_) | (with_reducible refine Rd.i_tup ?_) | (with_reducible refine Rd.i_lst ?_)
  | (with_reducible refine Rd.i_int1 ?_) | (with_reducible refine Rd.i_intb ?_) | (with_reducible refine Rd.i_max ?_)
  | (with_reducible refine Rd.i_ixL (SqL.of (by first | assumption | exact upd_same)) (by with_unfolding_all first | exact rfl | exact atI_nat rfl) ?_) | (with_reducible refine Rd.i_ixT (SqT.of (by first | assumption | exact upd_same)) (by with_unfolding_all exact rfl) ?_)
  | (with_reducible refine Rd.i_setL (by first | assumption | exact upd_same) (by with_unfolding_all exact rfl) ?_)
  | (with_reducible refine Xv.i_mkV ?_) | (with_reducible refine Xv.i_xat ?_)
  | (with_reducible refine Rd.i_yes ?_) | (with_reducible refine Rd.i_m1 ?_) | (with_reducible refine Rd.i_m0 ?_) | (with_reducible refine Rd.ite_T ?_) | (with_reducible refine Rd.ite_F ?_) | (with_reducible refine Rd.i_forR ?_) | (with_reducible refine Rd.i_forL ?_) | (with_reducible refine Rd.i_forT ?_)
  | (with_reducible refine Hd.i_rU ?_) | (with_reducible refine Hd.i_pcons ?_) | (with_reducible refine Hd.i_pnil ?_) | (with_reducible refine Hd.i_disp ?_) | (with_reducible refine Hd.i_dget ?_)
  | (with_reducible refine Hd.i_lstRg ?_) | (with_reducible refine Hd.i_rg1 ?_) | (with_reducible refine Hd.i_rg2 ?_) | (with_reducible refine Hd.i_ex1 ?_) | (with_reducible refine Hd.i_ex2 ?_)
  | (with_reducible refine Rd.i_gtup (SqT.of (by first | assumption | exact upd_same)) (by with_unfolding_all exact rfl) ?_) | (with_reducible refine Rd.i_gcons ?_) | (with_reducible refine Rd.i_gnil ?_)
  | (with_reducible refine Rd.i_lenT (SqT.of (by first | assumption | exact upd_same)) ?_) | (with_reducible refine Rd.i_len (SqL.of (by first | assumption | exact upd_same)) ?_)
  | (with_reducible refine Nr.ite_eF (by first | decide +kernel | with_unfolding_all exact rfl) ?_) | (with_reducible refine Nr.ite_eT (by first | decide +kernel | with_unfolding_all exact rfl) ?_)
  | (with_reducible refine Nr.i_tyL (by first | assumption | exact upd_same) ?_)
  | (with_reducible refine Nr.i_tupT (SqT.of (by first | assumption | exact upd_same)) ?_)
  | (with_reducible refine Nr.i_sl ?_) | (with_reducible refine Nr.i_part ?_) | (with_reducible refine Nr.i_nop ?_) | (with_reducible refine Nr.i_star ?_)
  | fail "stop")
local macro_rules | `(tactic| walk_at "rd") => `(tactic| repeat walk_at "rd1")
abbrev s_is_name : Stmt := topS 20
theorem sc_is_name : FnScope ["text", "letter"] ["text"] (defScope s_is_name) := ⟨rfl, rfl, rfl, by decide +kernel, rfl, by decide +kernel, by decide +kernel⟩

abbrev s_within : Stmt := topS 21
theorem sc_within : FnScope ["number", "bounds"] ["number", "bounds"] (defScope s_within) := ⟨rfl, rfl, rfl, by decide +kernel, rfl, by decide +kernel, by decide +kernel⟩

abbrev s_are_ways : Stmt := topS 22
theorem sc_are_ways : FnScope ["ways", "values", "way"] ["ways"] (defScope s_are_ways) := ⟨rfl, rfl, rfl, by decide +kernel, rfl, by decide +kernel, by decide +kernel⟩

abbrev s_has_form : Stmt := topS 23
theorem sc_has_form : FnScope ["line", "word"] ["line"] (defScope s_has_form) := ⟨rfl, rfl, rfl, by decide +kernel, rfl, by decide +kernel, by decide +kernel⟩

abbrev s_frozen : Stmt := topS 24
theorem sc_frozen : FnScope ["line", "way"] ["line"] (defScope s_frozen) := ⟨rfl, rfl, rfl, by decide +kernel, rfl, by decide +kernel, by decide +kernel⟩

abbrev s_goals : Stmt := topS 25
theorem sc_goals : FnScope ["line", "_", "name"] ["line"] (defScope s_goals) := ⟨rfl, rfl, rfl, by decide +kernel, rfl, by decide +kernel, by decide +kernel⟩

abbrev s_check_forms : Stmt := topS 26
theorem sc_check_forms : FnScope ["lines", "names", "number", "name", "line"] ["lines"] (defScope s_check_forms) := ⟨rfl, rfl, rfl, by decide +kernel, rfl, by decide +kernel, by decide +kernel⟩

abbrev s_check_goals : Stmt := topS 27
theorem sc_check_goals : FnScope ["lines", "names", "name", "_", "number", "line", "goal"] ["lines"] (defScope s_check_goals) := ⟨rfl, rfl, rfl, by decide +kernel, rfl, by decide +kernel, by decide +kernel⟩

abbrev s_silent_ways : Stmt := topS 28
theorem sc_silent_ways : FnScope ["lines", "name", "line"] ["lines"] (defScope s_silent_ways) := ⟨rfl, rfl, rfl, by decide +kernel, rfl, by decide +kernel, by decide +kernel⟩

abbrev s_reached : Stmt := topS 29
theorem sc_reached : FnScope ["ways", "names", "found", "ahead", "name"] ["ways", "names"] (defScope s_reached) := ⟨rfl, rfl, rfl, by decide +kernel, rfl, by decide +kernel, by decide +kernel⟩

abbrev s_check_rings : Stmt := topS 30
theorem sc_check_rings : FnScope ["lines", "ways", "number", "name", "_"] ["lines"] (defScope s_check_rings) := ⟨rfl, rfl, rfl, by decide +kernel, rfl, by decide +kernel, by decide +kernel⟩

abbrev s_check_begin : Stmt := topS 31
theorem sc_check_begin : FnScope ["lines", "begun", "number", "name", "line"] ["lines"] (defScope s_check_begin) := ⟨rfl, rfl, rfl, by decide +kernel, rfl, by decide +kernel, by decide +kernel⟩

abbrev s_Reader___init : Stmt := inClass (topS 19) 0
theorem sc_Reader___init : FnScope ["self", "lines", "name", "line"] ["self", "lines"] (defScope s_Reader___init) := ⟨rfl, rfl, rfl, by decide +kernel, rfl, by decide +kernel, by decide +kernel⟩

abbrev entT : List (Str × Int) := [("case", 3), ("take", 2), ("rest", 3), ("cap", 3), ("jump", 3), ("set", 3), ("upto", 4), ("skip", 3), ("cut", 1), ("refuse", 1)]
abbrev bndT : List (Str × Int × Int) := [("rest", 2, 4), ("cap", 0, 5), ("jump", 1, 4), ("set", 0, 5), ("upto", 0, 5), ("skip", -3, 4)]
structure Ptx (w : World) (K : PySem.W.Frag) (mg : Str → Option Value) where
  f_is_name : Addr
  d_is_name : FuncData
  F_is_name : Fun K "is_name" "is_name" s_is_name f_is_name d_is_name
  b_is_name : Binds K d_is_name ["text"] []
  m_is_name : mg "is_name" = some (.ref f_is_name)
  f_within : Addr
  d_within : FuncData
  F_within : Fun K "_within" "_within" s_within f_within d_within
  b_within : Binds K d_within ["number", "bounds"] []
  m_within : mg "_within" = some (.ref f_within)
  f_are_ways : Addr
  d_are_ways : FuncData
  F_are_ways : Fun K "_are_ways" "_are_ways" s_are_ways f_are_ways d_are_ways
  b_are_ways : Binds K d_are_ways ["ways"] []
  m_are_ways : mg "_are_ways" = some (.ref f_are_ways)
  f_has_form : Addr
  d_has_form : FuncData
  F_has_form : Fun K "_has_form" "_has_form" s_has_form f_has_form d_has_form
  b_has_form : Binds K d_has_form ["line"] []
  m_has_form : mg "_has_form" = some (.ref f_has_form)
  f_frozen : Addr
  d_frozen : FuncData
  F_frozen : Fun K "_frozen" "_frozen" s_frozen f_frozen d_frozen
  b_frozen : Binds K d_frozen ["line"] []
  m_frozen : mg "_frozen" = some (.ref f_frozen)
  f_goals : Addr
  d_goals : FuncData
  F_goals : Fun K "_goals" "_goals" s_goals f_goals d_goals
  b_goals : Binds K d_goals ["line"] []
  m_goals : mg "_goals" = some (.ref f_goals)
  f_check_forms : Addr
  d_check_forms : FuncData
  F_check_forms : Fun K "_check_forms" "_check_forms" s_check_forms f_check_forms d_check_forms
  b_check_forms : Binds K d_check_forms ["lines"] []
  m_check_forms : mg "_check_forms" = some (.ref f_check_forms)
  f_check_goals : Addr
  d_check_goals : FuncData
  F_check_goals : Fun K "_check_goals" "_check_goals" s_check_goals f_check_goals d_check_goals
  b_check_goals : Binds K d_check_goals ["lines"] []
  m_check_goals : mg "_check_goals" = some (.ref f_check_goals)
  f_silent_ways : Addr
  d_silent_ways : FuncData
  F_silent_ways : Fun K "_silent_ways" "_silent_ways" s_silent_ways f_silent_ways d_silent_ways
  b_silent_ways : Binds K d_silent_ways ["lines"] []
  m_silent_ways : mg "_silent_ways" = some (.ref f_silent_ways)
  f_reached : Addr
  d_reached : FuncData
  F_reached : Fun K "_reached" "_reached" s_reached f_reached d_reached
  b_reached : Binds K d_reached ["ways", "names"] []
  m_reached : mg "_reached" = some (.ref f_reached)
  f_check_rings : Addr
  d_check_rings : FuncData
  F_check_rings : Fun K "_check_rings" "_check_rings" s_check_rings f_check_rings d_check_rings
  b_check_rings : Binds K d_check_rings ["lines"] []
  m_check_rings : mg "_check_rings" = some (.ref f_check_rings)
  f_check_begin : Addr
  d_check_begin : FuncData
  F_check_begin : Fun K "_check_begin" "_check_begin" s_check_begin f_check_begin d_check_begin
  b_check_begin : Binds K d_check_begin ["lines"] []
  m_check_begin : mg "_check_begin" = some (.ref f_check_begin)
  a_ENTRIES : Addr
  es_E : Array DictEntry
  n_E : Nat
  m_ENTRIES : mg "ENTRIES" = some (.ref a_ENTRIES)
  kd_E : KDict K w a_ENTRIES es_E n_E
  v_E : ∀ x n, (x, n) ∈ entT → KDct K w a_ENTRIES x (.int n)
  a_BOUNDS : Addr
  es_B : Array DictEntry
  n_B : Nat
  m_BOUNDS : mg "BOUNDS" = some (.ref a_BOUNDS)
  kd_B : KDict K w a_BOUNDS es_B n_B
  v_B : ∀ x lo hi, (x, lo, hi) ∈ bndT → ∃ a, KDct K w a_BOUNDS x (.ref a) ∧ ∀ H, SqT K H a [.int lo, .int hi]
  o_B : ∀ x, x ∈ (["case", "take", "cut", "refuse"] : List Str) → PySem.W.nsIn K a_BOUNDS x = some none
  a_VALUES : Addr
  m_VALUES : mg "VALUES" = some (.ref a_VALUES)
  q_VALUES : ∀ H, SqT K H a_VALUES [.int 0, .int 5]
  a_READING : Addr
  m_READING : mg "READING" = some (.ref a_READING)
  q_READING : ∀ H, SqT K H a_READING [.str "case", .str "take", .str "rest", .str "cap", .str "jump"]
  a_NEVER_FIRST : Addr
  m_NEVER_FIRST : mg "NEVER_FIRST" = some (.ref a_NEVER_FIRST)
  q_NEVER_FIRST : ∀ H, SqT K H a_NEVER_FIRST [.str "cut", .str "skip", .str "refuse"]
  t_L : Tok
  t_M : Tok
  t_N : Tok
  m_MOST_LINES : mg "MOST_LINES" = some (.int 8 t_L)
  m_MOST_LETTERS : mg "MOST_LETTERS" = some (.int 12 t_M)
  m_LETTERS : mg "LETTERS" = some (.str "abcdefghijklmnopqrstuvwxyz" t_N)
  z_len : mg "len" = none
  z_all : mg "all" = none
  z_list : mg "list" = none
  z_tuple : mg "tuple" = none
  z_enumerate : mg "enumerate" = none
  z_isinstance : mg "isinstance" = none
  c_Reader : Addr
  m_Reader : mg "Reader" = some (.ref c_Reader)
  cl_Reader : Cls K c_Reader
  n_lines : NoAttr K c_Reader "lines"
  f_Reader___init : Addr
  d_Reader___init : FuncData
  F_Reader___init : Fun K "__init__" "Reader.__init__" s_Reader___init f_Reader___init d_Reader___init
  b_Reader___init : Binds K d_Reader___init ["self", "lines"] []
  mk_Reader : Mk K c_Reader f_Reader___init
section
variable {P : Program} {w : World} {K : PySem.W.Frag} {mg : Str → Option Value} {base : Heap}
open Evl Hd
theorem i_lcS' {σ : L2.St} {H : Hp} {te e : TE} {g : TG} {t : TT} {vs : List Nat} {Q : VK} (q : te σ H fun v H1 => ∃ x, v = .str x ∧ Rd.LcAsk (Its x) g t e vs σ Q H1) : tLc (iStr te) g t e vs σ H Q := q
theorem ex_mut {H0 H : Hp} {D : Addr} {o : HO} (e : Ex H0 H) (n : H0 D = none) : Ex H0 (upd H D o) := fun b u h => by
  rw [upd_ne (ne_of_none h n)]
  exact e b u h
theorem paired_get {α β : Type} {F : α → β → Prop} {l : List α} {m : List β} (h : Paired F l m) : ∀ {i : Nat} {x : α}, l[i]? = some x → ∃ y, m[i]? = some y ∧ F x y := by
  induction h with
  | nil => intro i x hx; simp at hx
  | cons r t ih =>
    intro i x hx
    cases i with
    | zero => cases hx; exact ⟨_, rfl, r⟩
    | succ i => exact ih hx
theorem take_nodup {α β : Type} {f : α → β} {l : List α} {i : Nat} {y : α} (hnd : (l.map f).Nodup) (hy : l[i]? = some y) : f y ∉ (l.take i).map f := fun hm => by
  obtain ⟨hi, hyi⟩ := List.getElem?_eq_some_iff.mp hy
  have hd : l.drop i = y :: l.drop (i + 1) := by rw [List.drop_eq_getElem_cons hi, hyi]
  rw [← List.take_append_drop i l, hd, List.map_append, List.map_cons] at hnd
  exact (List.nodup_append.mp hnd).2.2 _ hm _ List.mem_cons_self rfl
theorem paired_len {α β : Type} {F : α → β → Prop} : ∀ {l : List α} {m : List β}, Paired F l m → l.length = m.length
  | _, _, .nil => rfl
  | _, _, .cons _ t => congrArg (· + 1) (paired_len t)
theorem az_in : ∀ c : _root_.Fin 26, (97 + c.1) ∈ (Str.ofString "abcdefghijklmnopqrstuvwxyz").cps.toList := by decide +kernel
def spIsName : Sp := fun vs H Q _ => ∃ x : Str, vs = [.str x] ∧ Nm x ∧ ∀ H', Ex H H' → Q (.bl true) H'
theorem ok_is_name (T : Ptx w K mg) : FnOk P w K mg base CX0 1 T.f_is_name T.d_is_name ["text"] spIsName := by
  refine T.F_is_name.ok sc_is_name (fun vs H Q E h => ?_) (fun cdv A outer s H vs Q E hr h => ?_)
  · obtain ⟨x, rfl, _⟩ := h
    rfl
  · obtain ⟨x, rfl, hx, k⟩ := h
    refine ⟨_, (pss_one (ps_ret (pe_and (pe_chain op_le op_le pe_int (pe_callB call_len_str (by rfl) T.z_len (by decide +kernel) (pa_cons (pv 0) pa_nil)) (pe_glob (v := .int 12) rfl T.m_MOST_LETTERS ⟨_, rfl⟩)) (pe_one (pe_callB (cr_all rfl) (by rfl) T.z_all (by decide +kernel) (pa_cons (pe_lc rfl sc_is_name.nd (pi_str (pv 0)) (blkOk_by (own := [("letter", 1)]) (N := ["text", "letter"]) (sc := defScope s_is_name) (by decide +kernel)) (fun _ _ _ _ _ => (pg_name (i := 1) sc_is_name.nd rfl (Or.inl rfl))) (fun _ _ _ _ _ => pts_nil) (fun _ _ _ _ _ => (pe_cmpR op_in_sign (pv 1) (pe_glob (v := .str "abcdefghijklmnopqrstuvwxyz") rfl T.m_LETTERS ⟨_, rfl⟩) (by rfl)))) pa_nil)))))), ?_⟩
    have hS : start ["text", "letter"] [V.str x] = [some (.str x), none] := rfl
    rw [hS]
    walk_at "rd"
    refine ⟨x, rfl, Nat.le_trans hx.hi (by decide), ?_⟩
    walk_at "rd"
    rw [show decide ((1 : Int) ≤ (x.length : Int)) = true from decide_eq_true (by have := hx.lo; omega)]
    walk_at "rd"
    rw [show decide ((x.length : Int) ≤ 12) = true from decide_eq_true (by have := hx.hi; omega)]
    walk_at "rd"
    refine i_lcS' ?_
    walk_at "rd"
    refine ⟨x, rfl, fun D hD => lc_it walk_str (fun i H2 => H2 D = some (.lst ((List.replicate i true).map V.bl)) ∧ Ex H H2) ⟨upd_same, Ex.new hD⟩ (fun _ _ _ _ => trivial) ?_ ?_⟩
    · rintro i v H2 H3 hi ⟨hDl, ex2⟩ ⟨rfl, c, hc, rfl⟩
      have hmem : c ∈ x.cps.toList := by
        rw [← Array.getElem?_toList] at hc
        exact List.mem_of_getElem? hc
      have hcin : c ∈ (Str.ofString "abcdefghijklmnopqrstuvwxyz").cps.toList := by
        obtain ⟨h1, h2⟩ := hx.az c hmem
        have := az_in ⟨c - 97, by omega⟩
        rwa [show 97 + (c - 97) = c by omega] at this
      walk_at "rd"
      refine ⟨rfl, ?_⟩
      walk_at "rd"
      refine ⟨c, _, rfl, rfl, ?_⟩
      rw [decide_eq_true hcin]
      have h12 := hx.hi
      refine ⟨_, hDl, small1000 (by rw [List.length_map, List.length_replicate]; have : x.cps.size = x.length := rfl; omega), ?_, ex_mut ex2 hD⟩
      rw [upd_same, List.replicate_succ', List.map_append]
      rfl
    · rintro H2 ⟨hDl, ex2⟩
      walk_at "rd"
      refine ⟨D, _, rfl, SqL.of hDl, ?_⟩
      rw [show (List.replicate x.cps.size true).all id = true from List.all_eq_true.mpr fun y hy => by rw [List.eq_of_mem_replicate hy]; rfl]
      exact k _ ex2
def spWithin (K : PySem.W.Frag) : Sp := fun vs H Q _ => ∃ (c lo hi : Int) (b : Addr), vs = [.int c, .ref b] ∧ SqT K H b [.int lo, .int hi] ∧ Q (.bl (decide (lo ≤ c) && decide (c ≤ hi))) H
theorem ok_within (T : Ptx w K mg) : FnOk P w K mg base CX0 1 T.f_within T.d_within ["number", "bounds"] (spWithin K) := by
  refine T.F_within.ok sc_within (fun vs H Q E h => ?_) (fun cdv A outer s H vs Q E hr h => ?_)
  · obtain ⟨c, lo, hi, b, rfl, _⟩ := h
    rfl
  · obtain ⟨c, lo, hi, b, rfl, hb, k⟩ := h
    refine ⟨_, (pss_one (ps_ret (pe_chain op_le op_le (pe_ix ix_tup (pv 1) pe_int (fun _ _ => rfl)) (pv 0) (pe_ix ix_tup (pv 1) pe_int (fun _ _ => rfl))))), ?_⟩
    have hS : start ["number", "bounds"] [V.int c, .ref b] = [some (.int c), some (.ref b)] := rfl
    rw [hS]
    walk_at "rd"
    refine Rd.i_ixT hb (v := .int lo) rfl ?_
    walk_at "rd"
    by_cases h1 : lo ≤ c
    · rw [decide_eq_true h1] at k ⊢
      walk_at "rd"
      refine Rd.i_ixT hb (v := .int hi) rfl ?_
      walk_at "rd"
      exact k
    · rw [decide_eq_false h1] at k ⊢
      walk_at "rd"
      exact k
def spAreWays (K : PySem.W.Frag) : Sp := fun vs H Q _ => ∃ (l : Addr) (ts : List V) (ns : List Str) (wy : List (Int × Nat)), vs = [.ref l] ∧ Nr.Sq K H l ts ∧ WaysAt H ns ts wy ∧ (wy.map (·.1)).Nodup ∧ (∀ y ∈ wy, 0 ≤ y.1 ∧ y.1 ≤ 5) ∧ wy.length ≤ 5 ∧ ∀ H', Ex H H' → Q (.bl true) H'
theorem ok_are_ways (T : Ptx w K mg) : FnOk P w K mg base CX0 2 T.f_are_ways T.d_are_ways ["ways"] (spAreWays K) := by
  refine T.F_are_ways.ok sc_are_ways (fun vs H Q E h => ?_) (fun cdv A outer s H vs Q E hr h => ?_)
  · obtain ⟨l, ts, ns, wy, rfl, _⟩ := h
    rfl
  · obtain ⟨l, ts, ns, wy, rfl, hl, hts, hnd, hb, hlen, k⟩ := h
    refine ⟨_, (pss_cons (ps_set (i := 1) sc_are_ways.nd rfl (Or.inl rfl) (pe_lst pa_nil))
      (pss_cons (ps_for PassesOwn.never rfl (Nr.pi_seq (pv 0)) (pg_name (i := 2) sc_are_ways.nd rfl (Or.inl rfl))
        (pss_cons (ps_if (PW.pt (pw_or (pt_cmpR op_ne (pe_callB call_len_seq (by rfl) T.z_len (by decide +kernel) (pa_cons (pv 2) pa_nil)) pe_int (nomark _)) (pw_or (pt_not (pt_val (pe_call (ok_within T) (hr.mono (by decide)) rfl T.m_within T.F_within.kp T.b_within .nil pass0 (pa_cons (pe_ix ix_tup (pv 2) pe_int (fun _ _ => rfl)) (pa_cons (pe_glob (v := .ref T.a_VALUES) rfl T.m_VALUES rfl) pa_nil))))) (pw_or1 (pt_cmpR op_in_seq (pe_ix ix_tup (pv 2) pe_int (fun _ _ => rfl)) (pv 1) (by rfl))))))
          (pss_one (ps_ret pe_bl))
          pss_nil)
        (pss_one (ps_expr (pe_bm PySem.F.plainAttrs_list PySem.F.slot_list_append PySem.F.type_list_append mt_append (pv 1) (pa_cons (pe_ix ix_tup (pv 2) pe_int (fun _ _ => rfl)) pa_nil))))))
      (pss_one (ps_ret pe_bl)))), ?_⟩
    have hS : start ["ways", "values", "way"] [V.ref l] = [some (.ref l), none, none] := rfl
    rw [hS]
    walk_at "rd"
    refine ⟨Nat.zero_le _, fun vl nvl => ?_⟩
    walk_at "rd"
    refine Nr.i_forS ?_
    walk_at "rd"
    refine Nr.forS hl (fun i σ H2 => ∃ u : Option V, σ = [some (.ref l), some (.ref vl), u] ∧ H2 vl = some (.lst (((wy.take i).map (·.1)).map V.int)) ∧ Ex H H2) ⟨_, rfl, upd_same, Ex.new nvl⟩ (fun _ _ _ ⟨_, _, _, e⟩ => e) ?_ ?_
    · rintro i x _ H2 hx ⟨u, rfl, hv, ex2⟩
      obtain ⟨y, hy, a, rfl, ha⟩ := paired_get hts hx
      have hym : y ∈ wy := List.mem_of_getElem? hy
      have ha2 : H2 a = some (.tup [.int y.1, .str (wAt ns y.2)]) := ex2 _ _ ha
      walk_at "rd"
      refine ⟨y.1, 0, 5, T.a_VALUES, rfl, T.q_VALUES _, ?_⟩
      rw [decide_eq_true (hb y hym).1, decide_eq_true (hb y hym).2]
      walk_at "rd"
      refine ⟨vl, _, rfl, .inl (SqL.of hv), rfl, flat_int _, ?_⟩
      rw [inV_int]
      have hnew : y.1 ∉ (wy.take i).map (·.1) := take_nodup hnd hy
      rw [decide_eq_false hnew]
      walk_at "rd"
      refine Rd.i_append hv (small1000 (by rw [List.length_map, List.length_map, List.length_take]; omega)) ?_
      walk_at "rd"
      refine ⟨_, rfl, ?_, ex_mut ex2 nvl⟩
      rw [upd_same, List.take_succ, hy, List.map_append, List.map_append]
      rfl
    · rintro _ H2 ⟨u, rfl, _, ex2⟩
      walk_at "rd"
      exact k _ ex2
/-- a line at hand: its ways a list or a tuple -/
def LnAt (K : PySem.W.Frag) (H : Hp) (ns : List Str) (v : V) : Li → Prop
  | .case wy o => ∃ t l ts, v = .ref t ∧ H t = some (.tup [.str "case", .ref l, .str (wAt ns o)]) ∧ Nr.Sq K H l ts ∧ WaysAt H ns ts wy
  | .take o => ∃ t, v = .ref t ∧ H t = some (.tup [.str "take", .str (wAt ns o)])
  | .num w c o => ∃ t, v = .ref t ∧ H t = some (.tup [.str w, .int c, .str (wAt ns o)])
  | .upto c a b => ∃ t, v = .ref t ∧ H t = some (.tup [.str "upto", .int c, .str (wAt ns a), .str (wAt ns b)])
  | .fin w => ∃ t, v = .ref t ∧ H t = some (.tup [.str w])
/-- its ways a tuple -/
def LtAt (H : Hp) (ns : List Str) (v : V) : Li → Prop
  | .case wy o => ∃ t l ts, v = .ref t ∧ H t = some (.tup [.str "case", .ref l, .str (wAt ns o)]) ∧ H l = some (.tup ts) ∧ WaysAt H ns ts wy
  | .take o => ∃ t, v = .ref t ∧ H t = some (.tup [.str "take", .str (wAt ns o)])
  | .num w c o => ∃ t, v = .ref t ∧ H t = some (.tup [.str w, .int c, .str (wAt ns o)])
  | .upto c a b => ∃ t, v = .ref t ∧ H t = some (.tup [.str "upto", .int c, .str (wAt ns a), .str (wAt ns b)])
  | .fin w => ∃ t, v = .ref t ∧ H t = some (.tup [.str w])
theorem LiAt.ln {H : Hp} {ns : List Str} {v : V} : ∀ {li : Li}, LiAt H ns v li → LnAt K H ns v li
  | .case _ _, ⟨t, l, ts, h1, h2, h3, h4⟩ => ⟨t, l, ts, h1, h2, .inl (SqL.of h3), h4⟩
  | .take _, h => h
  | .num _ _ _, h => h
  | .upto _ _ _, h => h
  | .fin _, h => h
theorem LtAt.ln {H : Hp} {ns : List Str} {v : V} : ∀ {li : Li}, LtAt H ns v li → LnAt K H ns v li
  | .case _ _, ⟨t, l, ts, h1, h2, h3, h4⟩ => ⟨t, l, ts, h1, h2, .inr (SqT.of h3), h4⟩
  | .take _, h => h
  | .num _ _ _, h => h
  | .upto _ _ _, h => h
  | .fin _, h => h
theorem LnAt.mono {H H' : Hp} {ns : List Str} {v : V} (e : Ex H H') : ∀ {li : Li}, LnAt K H ns v li → LnAt K H' ns v li
  | .case _ _, ⟨t, l, ts, h1, h2, h3, h4⟩ => ⟨t, l, ts, h1, e _ _ h2, h3.mono e, paired_mono (fun _ _ h => h.mono e) h4⟩
  | .take _, ⟨t, h1, h2⟩ => ⟨t, h1, e _ _ h2⟩
  | .num _ _ _, ⟨t, h1, h2⟩ => ⟨t, h1, e _ _ h2⟩
  | .upto _ _ _, ⟨t, h1, h2⟩ => ⟨t, h1, e _ _ h2⟩
  | .fin _, ⟨t, h1, h2⟩ => ⟨t, h1, e _ _ h2⟩
theorem LtAt.mono {H H' : Hp} {ns : List Str} {v : V} (e : Ex H H') : ∀ {li : Li}, LtAt H ns v li → LtAt H' ns v li
  | .case _ _, ⟨t, l, ts, h1, h2, h3, h4⟩ => ⟨t, l, ts, h1, e _ _ h2, e _ _ h3, paired_mono (fun _ _ h => h.mono e) h4⟩
  | .take _, ⟨t, h1, h2⟩ => ⟨t, h1, e _ _ h2⟩
  | .num _ _ _, ⟨t, h1, h2⟩ => ⟨t, h1, e _ _ h2⟩
  | .upto _ _ _, ⟨t, h1, h2⟩ => ⟨t, h1, e _ _ h2⟩
  | .fin _, ⟨t, h1, h2⟩ => ⟨t, h1, e _ _ h2⟩
/-- the fields of a line, one after the other -/
def LnF (K : PySem.W.Frag) (H : Hp) (ns : List Str) (v : V) (li : Li) (w : Str) (n : Nat) : Prop := ∃ t xs, v = .ref t ∧ H t = some (.tup xs) ∧ xs.length = n ∧ xs[0]? = some (.str w)
def liW : Li → Str
  | .case _ _ => "case"
  | .take _ => "take"
  | .num w _ _ => w
  | .upto _ _ _ => "upto"
  | .fin w => w
def LiFm : Li → Prop
  | .case wy _ => (wy.map (·.1)).Nodup ∧ (∀ y ∈ wy, 0 ≤ y.1 ∧ y.1 ≤ 5) ∧ wy.length ≤ 5
  | .take _ => True
  | .num w c _ => NumOk w c
  | .upto c _ _ => 0 ≤ c ∧ c ≤ 5
  | .fin w => w = "cut" ∨ w = "refuse"
theorem LiOk.fm {ws : List Str} {i : Nat} : ∀ {li : Li}, LiOk ws i li → LiFm li
  | .case _ _, ⟨_, h1, h2, h3, _⟩ => ⟨h1, fun y hy => ⟨(h2 y hy).1, (h2 y hy).2.1⟩, h3⟩
  | .take _, _ => trivial
  | .num _ _ _, ⟨_, h, _⟩ => h
  | .upto _ _ _, ⟨_, h1, h2, _⟩ => ⟨h1, h2⟩
  | .fin _, ⟨_, h⟩ => h
theorem LiOk.wd {ws : List Str} {i : Nat} : ∀ {li : Li}, LiOk ws i li → liW li = wAt ws i
  | .case _ _, ⟨h, _⟩ => h.symm
  | .take _, ⟨h, _⟩ => h.symm
  | .num _ _ _, ⟨h, _⟩ => h.symm
  | .upto _ _ _, ⟨h, _⟩ => h.symm
  | .fin _, ⟨h, _⟩ => h.symm
theorem num_bnd {x : Str} {c : Int} (h : NumOk x c) : (x, (3 : Int)) ∈ entT ∧ (∃ lo hi, (x, lo, hi) ∈ bndT ∧ lo ≤ c ∧ c ≤ hi) ∧ x ≠ "case" := by
  rcases h with ⟨rfl, h1, h2⟩ | ⟨rfl, h1, h2⟩ | ⟨rfl, h1, h2⟩ | ⟨rfl, h1, h2⟩ | ⟨rfl, h1, h2⟩
  · exact ⟨by decide +kernel, ⟨2, 4, by decide +kernel, h1, h2⟩, by decide +kernel⟩
  · exact ⟨by decide +kernel, ⟨0, 5, by decide +kernel, h1, h2⟩, by decide +kernel⟩
  · exact ⟨by decide +kernel, ⟨1, 4, by decide +kernel, h1, h2⟩, by decide +kernel⟩
  · exact ⟨by decide +kernel, ⟨0, 5, by decide +kernel, h1, h2⟩, by decide +kernel⟩
  · exact ⟨by decide +kernel, ⟨-3, 4, by decide +kernel, h1, h2⟩, by decide +kernel⟩
theorem nsIn_of {a : Addr} {x : Str} {v : V} (h : KDct K w a x v) : ∃ r, PySem.W.nsIn K a x = some r ∧ r.isSome = true := by
  obtain ⟨es, n, u, _, _, e, _⟩ := h
  exact ⟨_, e, rfl⟩
theorem i_ixD {a : Addr} {x : Str} {v : V} {H : Hp} {Q : VK} (h : KDct K w a x v) (q : Q v H) : rIxD K w (.ref a) (.str x) H Q := ⟨a, x, v, rfl, rfl, h, q⟩
def spHasForm (K : PySem.W.Frag) : Sp := fun vs H Q _ => ∃ (v : V) (ns : List Str) (li : Li), vs = [v] ∧ LnAt K H ns v li ∧ LiFm li ∧ ∀ H', Ex H H' → Q (.bl true) H'
theorem ok_has_form (T : Ptx w K mg) : FnOk P w K mg base CX0 3 T.f_has_form T.d_has_form ["line"] (spHasForm K) := by
  refine T.F_has_form.ok sc_has_form (fun vs H Q E h => ?_) (fun cdv A outer s H vs Q E hr h => ?_)
  · obtain ⟨v, ns, li, rfl, _⟩ := h
    rfl
  · obtain ⟨v, ns, li, rfl, hv, hf, k⟩ := h
    refine ⟨_, (pss_cons (ps_if (PW.pt (pw_or (pt_cmpR op_eq (pe_callB call_len_seq (by rfl) T.z_len (by decide +kernel) (pa_cons (pv 0) pa_nil)) pe_int (nomark _)) (pw_or (pt_cmpR (op_notIn_kd T.kd_E) (pe_ix ix_tup (pv 0) pe_int (fun _ _ => rfl)) (pe_glob (v := .ref T.a_ENTRIES) rfl T.m_ENTRIES rfl) (by rfl)) (pw_or1 (pt_cmpR op_ne (pe_callB call_len_seq (by rfl) T.z_len (by decide +kernel) (pa_cons (pv 0) pa_nil)) (pe_ix ix_kdict (pe_glob (v := .ref T.a_ENTRIES) rfl T.m_ENTRIES rfl) (pe_ix ix_tup (pv 0) pe_int (fun _ _ => rfl)) (fun _ _ => rfl)) (nomark _))))))
        (pss_one (ps_ret pe_bl))
        pss_nil)
      (pss_cons (ps_set (i := 1) sc_has_form.nd rfl (Or.inl rfl) (pe_ix ix_tup (pv 0) pe_int (fun _ _ => rfl)))
      (pss_cons (ps_if (pt_cmpR op_eq (pv 1) pe_str (nomark _))
        (pss_one (ps_ret (pe_call (ok_are_ways T) (hr.mono (by decide)) rfl T.m_are_ways T.F_are_ways.kp T.b_are_ways .nil pass0 (pa_cons (pe_ix ix_tup (pv 0) pe_int (fun _ _ => rfl)) pa_nil))))
        pss_nil)
      (pss_one (ps_ret (pe_or (pe_cmpR (op_notIn_kd T.kd_B) (pv 1) (pe_glob (v := .ref T.a_BOUNDS) rfl T.m_BOUNDS rfl) (by rfl)) (pe_one (pe_call (ok_within T) (hr.mono (by decide)) rfl T.m_within T.F_within.kp T.b_within .nil pass0 (pa_cons (pe_ix ix_tup (pv 0) pe_int (fun _ _ => rfl)) (pa_cons (pe_ix ix_kdict (pe_glob (v := .ref T.a_BOUNDS) rfl T.m_BOUNDS rfl) (pv 1) (fun _ _ => rfl)) pa_nil)))))))))), ?_⟩
    have hS : start ["line", "word"] [v] = [some v, none] := rfl
    rw [hS]
    cases li with
    | case wy o =>
      obtain ⟨t, l, ts, rfl, ht, hl, hts⟩ := hv
      walk_at "rd"
      have vE := T.v_E "case" 3 (by decide +kernel)
      obtain ⟨r0, e1, e2⟩ := nsIn_of vE
      refine ⟨_, _, rfl, rfl, e1, ?_⟩
      rw [e2]
      walk_at "rd"
      refine i_ixD vE ?_
      walk_at "rd"
      exact ⟨l, ts, ns, wy, rfl, hl, hts, hf.1, hf.2.1, hf.2.2, k⟩
    | take o =>
      obtain ⟨t, rfl, ht⟩ := hv
      walk_at "rd"
      have vE := T.v_E "take" 2 (by decide +kernel)
      obtain ⟨r0, e1, e2⟩ := nsIn_of vE
      refine ⟨_, _, rfl, rfl, e1, ?_⟩
      rw [e2]
      walk_at "rd"
      refine i_ixD vE ?_
      walk_at "rd"
      refine ⟨_, _, rfl, rfl, T.o_B "take" (by decide +kernel), ?_⟩
      walk_at "rd"
      exact k _ (Ex.refl _)
    | num x c o =>
      obtain ⟨t, rfl, ht⟩ := hv
      obtain ⟨hE, ⟨lo, hi, hB, h1, h2⟩, hx⟩ := num_bnd hf
      walk_at "rd"
      have vE := T.v_E x 3 hE
      obtain ⟨r0, e1, e2⟩ := nsIn_of vE
      refine ⟨_, _, rfl, rfl, e1, ?_⟩
      rw [e2]
      walk_at "rd"
      refine i_ixD vE ?_
      walk_at "rd"
      refine Rd.ite_d (fun h => absurd (V.str.inj h) hx) (fun _ => ?_)
      obtain ⟨ab, vB, hab⟩ := T.v_B x lo hi hB
      obtain ⟨r1, e3, e4⟩ := nsIn_of vB
      walk_at "rd"
      refine ⟨_, _, rfl, rfl, e3, ?_⟩
      rw [e4]
      walk_at "rd"
      refine i_ixD vB ?_
      walk_at "rd"
      refine ⟨c, lo, hi, ab, rfl, hab _, ?_⟩
      rw [decide_eq_true h1, decide_eq_true h2]
      exact k _ (Ex.refl _)
    | upto c a b =>
      obtain ⟨t, rfl, ht⟩ := hv
      walk_at "rd"
      have vE := T.v_E "upto" 4 (by decide +kernel)
      obtain ⟨r0, e1, e2⟩ := nsIn_of vE
      refine ⟨_, _, rfl, rfl, e1, ?_⟩
      rw [e2]
      walk_at "rd"
      refine i_ixD vE ?_
      walk_at "rd"
      obtain ⟨ab, vB, hab⟩ := T.v_B "upto" 0 5 (by decide +kernel)
      obtain ⟨r1, e3, e4⟩ := nsIn_of vB
      refine ⟨_, _, rfl, rfl, e3, ?_⟩
      rw [e4]
      walk_at "rd"
      refine i_ixD vB ?_
      walk_at "rd"
      refine ⟨c, 0, 5, ab, rfl, hab _, ?_⟩
      rw [decide_eq_true hf.1, decide_eq_true hf.2]
      exact k _ (Ex.refl _)
    | fin x =>
      obtain ⟨t, rfl, ht⟩ := hv
      have hx : x ≠ "case" ∧ (x, (1 : Int)) ∈ entT ∧ x ∈ (["case", "take", "cut", "refuse"] : List Str) := by
        rcases hf with rfl | rfl
        · exact ⟨by decide +kernel, by decide +kernel, by decide +kernel⟩
        · exact ⟨by decide +kernel, by decide +kernel, by decide +kernel⟩
      walk_at "rd"
      have vE := T.v_E x 1 hx.2.1
      obtain ⟨r0, e1, e2⟩ := nsIn_of vE
      refine ⟨_, _, rfl, rfl, e1, ?_⟩
      rw [e2]
      walk_at "rd"
      refine i_ixD vE ?_
      walk_at "rd"
      refine Rd.ite_d (fun h => absurd (V.str.inj h) hx.1) (fun _ => ?_)
      walk_at "rd"
      refine ⟨_, _, rfl, rfl, T.o_B x hx.2.2, ?_⟩
      walk_at "rd"
      exact k _ (Ex.refl _)
/-- what a line is frozen to -/
def spFrozen (K : PySem.W.Frag) : Sp := fun vs H Q _ => ∃ (v : V) (ns : List Str) (li : Li), vs = [v] ∧ LnAt K H ns v li ∧ LiFm li ∧ ∀ v' H', Ex H H' → LtAt H' ns v' li → Q v' H'
theorem ok_frozen (T : Ptx w K mg) : FnOk P w K mg base CX0 3 T.f_frozen T.d_frozen ["line"] (spFrozen K) := by
  refine T.F_frozen.ok sc_frozen (fun vs H Q E h => ?_) (fun cdv A outer s H vs Q E hr h => ?_)
  · obtain ⟨v, ns, li, rfl, _⟩ := h
    rfl
  · obtain ⟨v, ns, li, rfl, hv, hf, k⟩ := h
    refine ⟨_, (pss_cons (ps_if (pt_cmpR op_eq (pe_ix ix_tup (pv 0) pe_int (fun _ _ => rfl)) pe_str (nomark _))
        (pss_one (ps_ret (pe_tup (pa_cons pe_str (pa_cons (pe_callTy Nr.call_tupR (by rfl) T.z_tuple (by decide +kernel) (pa_cons (pe_lc (te := tCB (Nr.rTup K) (tCons (tVar 1) tNil)) rfl sc_frozen.nd (Nr.pi_seq (pe_ix ix_tup (pv 0) pe_int (fun _ _ => rfl))) (blkOk_by (own := [("way", 1)]) (N := ["line", "way"]) (sc := defScope s_frozen) (by decide +kernel)) (fun _ _ _ _ _ => (pg_name (i := 1) sc_frozen.nd rfl (Or.inl rfl))) (fun _ _ _ _ _ => pts_nil) (fun _ _ _ _ _ => (pe_callTy Nr.call_tupR (by rfl) T.z_tuple (by decide +kernel) (pa_cons (pv 1) pa_nil)))) pa_nil)) (pa_cons (pe_ix ix_tup (pv 0) pe_int (fun _ _ => rfl)) pa_nil))))))
        pss_nil)
      (pss_one (ps_ret (pe_callTy Nr.call_tupR (by rfl) T.z_tuple (by decide +kernel) (pa_cons (pv 0) pa_nil))))), ?_⟩
    have hS : start ["line", "way"] [v] = [some v, none] := rfl
    rw [hS]
    cases li with
    | case wy o =>
      obtain ⟨t, l, ts, rfl, ht, hl, hts⟩ := hv
      have hlt := hf.2.2
      walk_at "rd"
      refine Nr.i_lcS ?_
      walk_at "rd"
      refine Nr.lcS hl (Ex.refl _) (fun D hD => ⟨fun i H2 => H2 D = some (.lst (ts.take i)) ∧ Ex H H2, ⟨upd_same, Ex.new hD⟩, fun _ _ h => h.2, ?_, ?_⟩)
      · rintro i x H2 hx ⟨hDl, ex2⟩
        obtain ⟨y, hy, a, rfl, ha⟩ := paired_get hts hx
        have ha2 : H2 a = some (.tup [.int y.1, .str (wAt ns y.2)]) := ex2 _ _ ha
        walk_at "rd"
        refine ⟨rfl, ?_⟩
        walk_at "rd"
        refine ⟨_, hDl, small1000 (by rw [List.length_take, paired_len hts]; omega), ?_, ex_mut ex2 hD⟩
        rw [upd_same, List.take_succ, hx]
        rfl
      · rintro H2 ⟨hDl, ex2⟩
        walk_at "rd"
        rw [List.take_length] at hDl
        refine Nr.i_tupL (SqL.of hDl) (fun b hb => ?_)
        have e3 := ex2.trans (Ex.new (o := .tup ts) hb)
        have ht3 : upd H2 b (.tup ts) t = some (.tup [.str "case", .ref l, .str (wAt ns o)]) := e3 _ _ ht
        walk_at "rd"
        refine ⟨by show 3 ≤ sizeLine; decide, fun p hp => ?_⟩
        walk_at "rd"
        have e4 := Ex.new (o := .tup [.str "case", .ref b, .str (wAt ns o)]) hp
        exact k _ _ (e3.trans e4) ⟨p, b, ts, rfl, upd_same, e4 _ _ upd_same, paired_mono (fun _ _ h => h.mono (e3.trans e4)) hts⟩
    | take o =>
      obtain ⟨t, rfl, ht⟩ := hv
      walk_at "rd"
      exact k _ _ (Ex.refl _) ⟨t, rfl, ht⟩
    | num x c o =>
      obtain ⟨t, rfl, ht⟩ := hv
      walk_at "rd"
      refine Rd.ite_d (fun h => absurd (V.str.inj h) (num_bnd hf).2.2) (fun _ => ?_)
      walk_at "rd"
      exact k _ _ (Ex.refl _) ⟨t, rfl, ht⟩
    | upto c a b =>
      obtain ⟨t, rfl, ht⟩ := hv
      walk_at "rd"
      exact k _ _ (Ex.refl _) ⟨t, rfl, ht⟩
    | fin x =>
      obtain ⟨t, rfl, ht⟩ := hv
      walk_at "rd"
      refine Rd.ite_d (fun h => ?_) (fun _ => ?_)
      · rcases hf with rfl | rfl
        · exact absurd (V.str.inj h) (by decide +kernel)
        · exact absurd (V.str.inj h) (by decide +kernel)
      walk_at "rd"
      exact k _ _ (Ex.refl _) ⟨t, rfl, ht⟩
end
end K02

namespace K02
open PySem L2
local macro_rules | `(tactic| walk_at "rd1") => `(tactic| first
  | (with_reducible refine Rd.i_seq ?_) | (with_reducible refine Rd.i_asg ?_) | (with_reducible refine Rd.i_name ?_) | (with_reducible refine Rd.i_nx ?_) | (with_reducible refine Rd.i_rt ?_) | (with_reducible refine Rd.i_next ?_) | (with_reducible refine Rd.i_ct ?_) | (with_reducible refine Rd.i_bk ?_)
  | (with_reducible refine Rd.i_ret ?_) | (with_reducible refine Rd.i_drop ?_) | (with_reducible refine Rd.i_ifS ?_) | (with_reducible refine Rd.i_sub ?_)
  | (with_reducible refine Rd.i_var (by with_unfolding_all exact rfl) ?_) | (with_reducible refine Rd.i_c ?_) | (with_reducible refine Rd.i_op ?_) | (with_reducible refine Rd.i_un ?_)
  | (with_reducible refine Rd.i_rI0 ?_) | (with_reducible refine Rd.i_rI (by with_unfolding_all first | omega | exact Rd.mulL (by omega) (by omega) | exact Rd.mulR (by omega) (by omega) | decide | (refine ⟨?_, ?_⟩ <;> omega) | (refine ⟨?_, ?_, ?_⟩ <;> omega)) ?_)
  | (with_reducible refine Rd.i_rEq (by with_unfolding_all exact rfl) ?_) | (with_reducible refine Rd.i_rNe (by with_unfolding_all exact rfl) ?_)
  | (with_reducible refine Rd.i_test ?_) | (with_reducible refine Rd.i_tB ?_) | (with_reducible refine Rd.i_bl ?_) | (with_reducible refine Rd.i_and ?_) | (with_reducible refine Rd.i_or ?_) | (with_reducible refine Rd.i_not ?_) | (with_reducible refine Rd.i_notV ?_) | (with_reducible refine Rd.i_andV ?_) | (with_reducible refine Rd.i_orV ?_) | (with_reducible refine Rd.i_if ?_) | (with_reducible refine Rd.i_chain ?_)
  | (with_reducible refine Rd.i_call ?_) | (with_reducible refine Rd.i_nil ?_) | (with_reducible refine Rd.i_cons ?_) | (with_reducible refine Rd.i_cb ?_) | (with_reducible refine Rd.i_bm ?_) | (with_reducible refine Rd.i_bm0 ?_) | (with_reducible refine Rd.i_tup ?_) | (with_reducible refine Rd.i_lst ?_)
  | (with_reducible refine Rd.i_int1 ?_) | (with_reducible refine Rd.i_intb ?_) | (with_reducible refine Rd.i_max ?_)
  | (with_reducible refine Rd.i_ixL (SqL.of (by first | assumption | exact upd_same)) (by with_unfolding_all first | exact rfl | exact atI_nat rfl) ?_) | (with_reducible refine Rd.i_ixT (SqT.of (by first | assumption | exact upd_same)) (by with_unfolding_all exact rfl) ?_)
  | (with_reducible refine Rd.i_setL (by first | assumption | exact upd_same) (by with_unfolding_all exact rfl) ?_)
  | (with_reducible refine Xv.i_mkV ?_) | (with_reducible refine Xv.i_xat ?_)
  | (with_reducible refine Rd.i_yes ?_) | (with_reducible refine Rd.i_m1 ?_) | (with_reducible refine Rd.i_m0 ?_) | (with_reducible refine Rd.ite_T ?_) | (with_reducible refine Rd.ite_F ?_) | (with_reducible refine Rd.i_forR ?_) | (with_reducible refine Rd.i_forL ?_) | (with_reducible refine Rd.i_forT ?_)
  | (with_reducible refine Hd.i_rU ?_) | (with_reducible refine Hd.i_pcons ?_) | (with_reducible refine Hd.i_pnil ?_) | (with_reducible refine Hd.i_disp ?_) | (with_reducible refine Hd.i_dget ?_)
  | (with_reducible refine Hd.i_lstRg ?_) | (with_reducible refine Hd.i_rg1 ?_) | (with_reducible refine Hd.i_rg2 ?_) | (with_reducible refine Hd.i_ex1 ?_) | (with_reducible refine Hd.i_ex2 ?_)
  | (with_reducible refine Rd.i_gtup (SqT.of (by first | assumption | exact upd_same)) (by with_unfolding_all exact rfl) ?_) | (with_reducible refine Rd.i_gcons ?_) | (with_reducible refine Rd.i_gnil ?_)
  | (with_reducible refine Rd.i_lenT (SqT.of (by first | assumption | exact upd_same)) ?_) | (with_reducible refine Rd.i_len (SqL.of (by first | assumption | exact upd_same)) ?_)
  | (with_reducible refine Nr.ite_eF (by first | decide +kernel | with_unfolding_all exact rfl) ?_) | (with_reducible refine Nr.ite_eT (by first | decide +kernel | with_unfolding_all exact rfl) ?_)
  | (with_reducible refine Nr.i_tyL (by first | assumption | exact upd_same) ?_)
  | (with_reducible refine Nr.i_tupT (SqT.of (by first | assumption | exact upd_same)) ?_)
  | (with_reducible refine Nr.i_sl ?_) | (with_reducible refine Nr.i_part ?_) | (with_reducible refine Nr.i_nop ?_) | (with_reducible refine Nr.i_star ?_)
  | fail "stop")
local macro_rules | `(tactic| walk_at "rd") => `(tactic| repeat walk_at "rd1")
section
variable {P : Program} {w : World} {K : PySem.W.Frag} {mg : Str → Option Value} {base : Heap}
open Evl Hd
/-- the goals of a line by their places -/
def liG : Li → List Nat
  | .case wy o => wy.map (·.2) ++ [o]
  | .take o => [o]
  | .num _ _ o => [o]
  | .upto _ a b => [a, b]
  | .fin _ => []
def gV (ns : List Str) (l : List Nat) : List V := l.map fun o => .str (wAt ns o)
def spGoals (K : PySem.W.Frag) : Sp := fun vs H Q _ => ∃ (v : V) (ns : List Str) (li : Li), vs = [v] ∧ LtAt H ns v li ∧ LiFm li ∧ ∀ l H', Ex H H' → H l = none → H' l = some (.lst (gV ns (liG li))) → Q (.ref l) H'
theorem ok_goals (T : Ptx w K mg) : FnOk P w K mg base CX0 3 T.f_goals T.d_goals ["line"] (spGoals K) := by
  refine T.F_goals.ok sc_goals (fun vs H Q E h => ?_) (fun cdv A outer s H vs Q E hr h => ?_)
  · obtain ⟨v, ns, li, rfl, _⟩ := h
    rfl
  · obtain ⟨v, ns, li, rfl, hv, hf, k⟩ := h
    refine ⟨_, (pss_cons (ps_if (pt_cmpR op_eq (pe_ix ix_tup (pv 0) pe_int (fun _ _ => rfl)) pe_str (nomark _))
        (pss_one (ps_ret (pe_lst (Nr.pa_star (pe_lc (g := gTup K 2 (gCons (gName 1) (gCons (gName 2) gNil))) rfl sc_goals.nd (pi_tup (pe_ix ix_tup (pv 0) pe_int (fun _ _ => rfl))) (blkOk_by (own := [("_", 1), ("name", 2)]) (N := ["line", "_", "name"]) (sc := defScope s_goals) (by decide +kernel)) (fun _ _ _ _ _ => (pg_tup (by rfl) (pgs_cons (pg_name (i := 1) sc_goals.nd rfl (Or.inl rfl)) (pgs_cons (pg_name (i := 2) sc_goals.nd rfl (Or.inl rfl)) pgs_nil)))) (fun _ _ _ _ _ => pts_nil) (fun _ _ _ _ _ => (pv 2))) (pa_cons (pe_ix ix_tup (pv 0) pe_int (fun _ _ => rfl)) pa_nil)))))
        pss_nil)
      (pss_cons (ps_if (pt_cmpR (op_in_kd T.kd_B) (pe_ix ix_tup (pv 0) pe_int (fun _ _ => rfl)) (pe_glob (v := .ref T.a_BOUNDS) rfl T.m_BOUNDS rfl) (by rfl))
        (pss_one (ps_ret (pe_callTy call_list_of (by rfl) T.z_list (by decide +kernel) (pa_cons (pe_slice sl_tup (pv 0) (po_some pe_int) po_none) pa_nil))))
        pss_nil)
      (pss_one (ps_ret (pe_callTy call_list_of (by rfl) T.z_list (by decide +kernel) (pa_cons (pe_slice sl_tup (pv 0) (po_some pe_int) po_none) pa_nil)))))), ?_⟩
    have hS : start ["line", "_", "name"] [v] = [some v, none, none] := rfl
    rw [hS]
    have hcut : ∀ (t2 : Addr) (H2 : Hp) (ys : List V), Ex H H2 → ys = gV ns (liG li) → ∀ l, H2 l = none → Q (.ref l) (upd H2 l (.lst ys)) := fun t2 H2 ys e2 ey l hl => k l _ (e2.trans (Ex.new hl)) (fresh_back e2 hl) (by rw [← ey]; exact upd_same)
    cases li with
    | case wy o =>
      obtain ⟨t, l, ts, rfl, ht, hl, hts⟩ := hv
      have hlt := hf.2.2
      have hlen := paired_len hts
      walk_at "rd"
      refine Rd.i_lcT ?_
      walk_at "rd"
      refine Rd.lcT (xs := ts) (SqT.of hl) (fun D hD => ⟨fun i H2 => H2 D = some (.lst (gV ns ((wy.take i).map (·.2)))) ∧ Ex H H2, ⟨upd_same, Ex.new hD⟩, fun i H2 _ h => SqT.of (h.2 _ _ hl), ?_, ?_⟩)
      · rintro i x H2 hx ⟨hDl, ex2⟩
        obtain ⟨y, hy, a, rfl, ha⟩ := paired_get hts hx
        have ha2 : H2 a = some (.tup [.int y.1, .str (wAt ns y.2)]) := ex2 _ _ ha
        walk_at "rd"
        refine ⟨rfl, ?_⟩
        walk_at "rd"
        refine ⟨_, hDl, small1000 (by unfold gV; rw [List.length_map, List.length_map, List.length_take]; omega), ?_, ex_mut ex2 hD⟩
        rw [upd_same, List.take_succ, hy]
        unfold gV
        rw [List.map_append, List.map_append]
        rfl
      · rintro H2 ⟨hDl, ex2⟩
        rw [hlen, List.take_length] at hDl
        refine ⟨D, _, rfl, SqL.of hDl, ?_⟩
        have ht3 := ex2 _ _ ht
        walk_at "rd"
        refine ⟨by rw [List.length_append]; unfold gV; rw [List.length_map, List.length_map]; show wy.length + 1 ≤ sizeLine; exact Nat.le_trans (by omega : wy.length + 1 ≤ 6) (by decide), fun p hp => ?_⟩
        walk_at "rd"
        refine k p _ (ex2.trans (Ex.new hp)) (fresh_back ex2 hp) ?_
        rw [upd_same]
        unfold gV liG
        rw [List.map_append]
        rfl
    | take o =>
      obtain ⟨t, rfl, ht⟩ := hv
      walk_at "rd"
      refine ⟨_, _, rfl, rfl, T.o_B "take" (by decide +kernel), ?_⟩
      walk_at "rd"
      refine Nr.i_slT (SqT.of ht) (fun h => absurd (show (1 : Nat) = 0 from h.1) (by decide)) (fun p hp => ?_)
      walk_at "rd"
      exact hcut p _ _ (Ex.new hp) rfl
    | num x c o =>
      obtain ⟨t, rfl, ht⟩ := hv
      obtain ⟨hE, ⟨lo, hi, hB, h1, h2⟩, hx⟩ := num_bnd hf
      obtain ⟨ab, vB, hab⟩ := T.v_B x lo hi hB
      obtain ⟨r1, e3, e4⟩ := nsIn_of vB
      walk_at "rd"
      refine Rd.ite_d (fun h => absurd (V.str.inj h) hx) (fun _ => ?_)
      walk_at "rd"
      refine ⟨_, _, rfl, rfl, e3, ?_⟩
      rw [e4]
      walk_at "rd"
      refine Nr.i_slT (SqT.of ht) (fun h => absurd (show (2 : Nat) = 0 from h.1) (by decide)) (fun p hp => ?_)
      walk_at "rd"
      exact hcut p _ _ (Ex.new hp) rfl
    | upto c a b =>
      obtain ⟨t, rfl, ht⟩ := hv
      obtain ⟨ab, vB, hab⟩ := T.v_B "upto" 0 5 (by decide +kernel)
      obtain ⟨r1, e3, e4⟩ := nsIn_of vB
      walk_at "rd"
      refine ⟨_, _, rfl, rfl, e3, ?_⟩
      rw [e4]
      walk_at "rd"
      refine Nr.i_slT (SqT.of ht) (fun h => absurd (show (2 : Nat) = 0 from h.1) (by decide)) (fun p hp => ?_)
      walk_at "rd"
      exact hcut p _ _ (Ex.new hp) rfl
    | fin x =>
      obtain ⟨t, rfl, ht⟩ := hv
      have hx : x ≠ "case" ∧ x ∈ (["case", "take", "cut", "refuse"] : List Str) := by
        rcases hf with rfl | rfl
        · exact ⟨by decide +kernel, by decide +kernel⟩
        · exact ⟨by decide +kernel, by decide +kernel⟩
      walk_at "rd"
      refine Rd.ite_d (fun h => absurd (V.str.inj h) hx.1) (fun _ => ?_)
      walk_at "rd"
      refine ⟨_, _, rfl, rfl, T.o_B x hx.2, ?_⟩
      walk_at "rd"
      refine Nr.i_slT (SqT.of ht) (fun h => absurd (show (1 : Nat) = 0 from h.1) (by decide)) (fun p hp => ?_)
      walk_at "rd"
      exact hcut p _ _ (Ex.new hp) rfl
end
end K02

namespace K02
open PySem L2
local macro_rules | `(tactic| walk_at "rd1") => `(tactic| first
  | (with_reducible refine Rd.i_seq ?_) | (with_reducible refine Rd.i_asg ?_) | (with_reducible refine Rd.i_name ?_) | (with_reducible refine Rd.i_nx ?_) | (with_reducible refine Rd.i_rt ?_) | (with_reducible refine Rd.i_next ?_) | (with_reducible refine Rd.i_ct ?_) | (with_reducible refine Rd.i_bk ?_)
  | (with_reducible refine Rd.i_ret ?_) | (with_reducible refine Rd.i_drop ?_) | (with_reducible refine Rd.i_ifS ?_) | (with_reducible refine Rd.i_sub ?_)
  | (with_reducible refine Rd.i_var (by with_unfolding_all exact rfl) ?_) | (with_reducible refine Rd.i_c ?_) | (with_reducible refine Rd.i_op ?_) | (with_reducible refine Rd.i_un ?_)
  | (with_reducible refine Rd.i_rI0 ?_) | (with_reducible refine Rd.i_rI (by with_unfolding_all first | omega | exact Rd.mulL (by omega) (by omega) | exact Rd.mulR (by omega) (by omega) | decide | (refine ⟨?_, ?_⟩ <;> omega) | (refine ⟨?_, ?_, ?_⟩ <;> omega)) ?_)
  | (with_reducible refine Rd.i_rEq (by with_unfolding_all exact rfl) ?_) | (with_reducible refine Rd.i_rNe (by with_unfolding_all exact rfl) ?_)
  | (with_reducible refine Rd.i_test ?_) | (with_reducible refine Rd.i_tB ?_) | (with_reducible refine Rd.i_bl ?_) | (with_reducible refine Rd.i_and ?_) | (with_reducible refine Rd.i_or ?_) | (with_reducible refine Rd.i_not ?_) | (with_reducible refine Rd.i_notV ?_) | (with_reducible refine Rd.i_andV ?_) | (with_reducible refine Rd.i_orV ?_) | (with_reducible refine Rd.i_if ?_) | (with_reducible refine Rd.i_chain ?_)
  | (with_reducible refine Rd.i_call ?_) | (with_reducible refine Rd.i_nil ?_) | (with_reducible refine Rd.i_cons ?_) | (with_reducible refine Rd.i_cb ?_) | (with_reducible refine Rd.i_bm ?_) | (with_reducible refine Rd.i_bm0 ?_) | (with_reducible refine Rd.i_tup ?_) | (with_reducible refine Rd.i_lst ?_)
  | (with_reducible refine Rd.i_int1 ?_) | (with_reducible refine Rd.i_intb ?_) | (with_reducible refine Rd.i_max ?_)
  | (with_reducible refine Rd.i_ixL (SqL.of (by first | assumption | exact upd_same)) (by with_unfolding_all first | exact rfl | exact atI_nat rfl) ?_) | (with_reducible refine Rd.i_ixT (SqT.of (by first | assumption | exact upd_same)) (by with_unfolding_all exact rfl) ?_)
  | (with_reducible refine Rd.i_setL (by first | assumption | exact upd_same) (by with_unfolding_all exact rfl) ?_)
  | (with_reducible refine Xv.i_mkV ?_) | (with_reducible refine Xv.i_xat ?_)
  | (with_reducible refine Rd.i_yes ?_) | (with_reducible refine Rd.i_m1 ?_) | (with_reducible refine Rd.i_m0 ?_) | (with_reducible refine Rd.ite_T ?_) | (with_reducible refine Rd.ite_F ?_) | (with_reducible refine Rd.i_forR ?_) | (with_reducible refine Rd.i_forL ?_) | (with_reducible refine Rd.i_forT ?_)
  | (with_reducible refine Hd.i_rU ?_) | (with_reducible refine Hd.i_pcons ?_) | (with_reducible refine Hd.i_pnil ?_) | (with_reducible refine Hd.i_disp ?_) | (with_reducible refine Hd.i_dget ?_)
  | (with_reducible refine Hd.i_lstRg ?_) | (with_reducible refine Hd.i_rg1 ?_) | (with_reducible refine Hd.i_rg2 ?_) | (with_reducible refine Hd.i_ex1 ?_) | (with_reducible refine Hd.i_ex2 ?_)
  | (with_reducible refine Rd.i_gtup (SqT.of (by first | assumption | exact upd_same)) (by with_unfolding_all exact rfl) ?_) | (with_reducible refine Rd.i_gcons ?_) | (with_reducible refine Rd.i_gnil ?_)
  | (with_reducible refine Rd.i_lenT (SqT.of (by first | assumption | exact upd_same)) ?_) | (with_reducible refine Rd.i_len (SqL.of (by first | assumption | exact upd_same)) ?_)
  | (with_reducible refine Nr.ite_eF (by first | decide +kernel | with_unfolding_all exact rfl) ?_) | (with_reducible refine Nr.ite_eT (by first | decide +kernel | with_unfolding_all exact rfl) ?_)
  | (with_reducible refine Nr.i_tyL (by first | assumption | exact upd_same) ?_)
  | (with_reducible refine Nr.i_tupT (SqT.of (by first | assumption | exact upd_same)) ?_)
  | (with_reducible refine Nr.i_sl ?_) | (with_reducible refine Nr.i_part ?_) | (with_reducible refine Nr.i_nop ?_) | (with_reducible refine Nr.i_star ?_)
  | fail "stop")
local macro_rules | `(tactic| walk_at "rd") => `(tactic| repeat walk_at "rd1")
section
variable {P : Program} {w : World} {K : PySem.W.Frag} {mg : Str → Option Value} {base : Heap}
open Evl Hd
/-- a name and a line in a pair -/
def PrAt (F : Hp → List Str → V → Li → Prop) (H : Hp) (ns : List Str) (v : V) (y : Nat × Li) : Prop := ∃ t x, v = .ref t ∧ H t = some (.tup [.str (wAt ns y.1), x]) ∧ F H ns x y.2
abbrev PrN (K : PySem.W.Frag) (H : Hp) (ns : List Str) := PrAt (LnAt K) H ns
abbrev PrT (H : Hp) (ns : List Str) := PrAt LtAt H ns
theorem PrAt.mono {F : Hp → List Str → V → Li → Prop} (hF : ∀ {H H' : Hp} {ns v li}, Ex H H' → F H ns v li → F H' ns v li) {H H' : Hp} {ns : List Str} {v : V} {y : Nat × Li} (e : Ex H H') (h : PrAt F H ns v y) : PrAt F H' ns v y := by
  obtain ⟨t, x, h1, h2, h3⟩ := h
  exact ⟨t, x, h1, e _ _ h2, hF e h3⟩
theorem num_get {ls : List Li} {i : Nat} {y : Nat × Li} (h : (numbered ls)[i]? = some y) : y.1 = i ∧ ls[i]? = some y.2 := by
  unfold numbered at h
  rw [List.getElem?_zip_eq_some] at h
  obtain ⟨h1, h2⟩ := h
  rw [List.getElem?_range] at h1
  · exact ⟨(Option.some.inj h1).symm, h2⟩
  · exact (List.getElem?_eq_some_iff.mp h2).1
theorem num_len (ls : List Li) : (numbered ls).length = ls.length := by
  unfold numbered
  rw [List.length_zip, List.length_range, Nat.min_self]
theorem i_forE {σ : L2.St} {H : Hp} {A : TA} {g : TG} {s : TS} {D : Ends} (q : A σ H fun vs H1 => ∃ a xs, vs = [.ref a] ∧ SqL K H1 a xs ∧ Rd.ForAsk (Ite K a) g s D σ H1) : tFor (iEnum K A) g s D σ H := q
theorem i_forET {σ : L2.St} {H : Hp} {A : TA} {g : TG} {s : TS} {D : Ends} (q : A σ H fun vs H1 => ∃ a xs, vs = [.ref a] ∧ SqT K H1 a xs ∧ Rd.ForAsk (En.IteT K a) g s D σ H1) : tFor (En.iEnumT K A) g s D σ H := q
theorem walk_enumT {a : Addr} {xs : List V} : Walk (En.IteT K a) xs.length (fun H => SqT K H a xs) (YPair (fun i => some (.int (i : Nat))) (fun i => xs[i]?)) := by
  refine ⟨fun i _ hi q => ⟨xs, xs[i], q, by simp [hi]⟩, fun _ q => ⟨xs, q, Nat.le_refl _⟩, fun i H v H' _ q y => ?_⟩
  obtain ⟨t, x, h1, h2, h3, h4⟩ := y
  exact ⟨t, .int (i : Nat), x, h1, h2, h3, rfl, h4 xs q⟩
/-- what the forms of handed lines must be -/
structure Fms (ns : List Str) (ls : List Li) : Prop where
  len : ns.length = ls.length
  most : ls.length ≤ 8
  pos : 1 ≤ ls.length
  nd : ns.Nodup
  nm : ∀ x ∈ ns, Nm x
  fm : ∀ li ∈ ls, LiFm li
theorem wAt_take {ns : List Str} {i : Nat} (hi : i < ns.length) : (ns.take (i + 1)) = ns.take i ++ [wAt ns i] := by
  rw [List.take_succ, List.getElem?_eq_getElem hi, wAt_some (List.getElem?_eq_getElem hi)]
  rfl
theorem wAt_new {ns : List Str} {i : Nat} (hn : ns.Nodup) (hi : i < ns.length) : wAt ns i ∉ ns.take i := by
  have := take_nodup (f := fun x : Str => x) (l := ns) (by rw [List.map_id']; exact hn) (List.getElem?_eq_getElem hi)
  rw [List.map_id'] at this
  rw [wAt_some (List.getElem?_eq_getElem hi)]
  exact this
def spCF (K : PySem.W.Frag) : Sp := fun vs H Q _ => ∃ (l : Addr) (ts : List V) (ns : List Str) (ls : List Li), vs = [.ref l] ∧ H l = some (.lst ts) ∧ Paired (PrN K H ns) ts (numbered ls) ∧ Fms ns ls ∧ ∀ H', Ex H H' → Q .non H'
theorem ok_check_forms (T : Ptx w K mg) : FnOk P w K mg base CX0 4 T.f_check_forms T.d_check_forms ["lines"] (spCF K) := by
  refine T.F_check_forms.ok sc_check_forms (fun vs H Q E h => ?_) (fun cdv A outer s H vs Q E hr h => ?_)
  · obtain ⟨l, ts, ns, ls, rfl, _⟩ := h
    rfl
  · obtain ⟨l, ts, ns, ls, rfl, hl, hts, hF, k⟩ := h
    refine ⟨_, (pss_cons (ps_set (i := 1) sc_check_forms.nd rfl (Or.inl rfl) (pe_lst pa_nil))
      (pss_one (ps_for PassesOwn.never rfl (pi_enum (by rfl) T.z_enumerate (pa_cons (pv 0) pa_nil)) (pg_tup (by rfl) (pgs_cons (pg_name (i := 2) sc_check_forms.nd rfl (Or.inl rfl)) (pgs_cons (pg_tup (by rfl) (pgs_cons (pg_name (i := 3) sc_check_forms.nd rfl (Or.inl rfl)) (pgs_cons (pg_name (i := 4) sc_check_forms.nd rfl (Or.inl rfl)) pgs_nil))) pgs_nil)))
        (pss_cons (ps_if (PW.pt (pw_or (pt_not (pt_val (pe_call (ok_is_name T) (hr.mono (by decide)) rfl T.m_is_name T.F_is_name.kp T.b_is_name .nil pass0 (pa_cons (pv 3) pa_nil)))) (pw_or (pt_cmpR op_in_seq (pv 3) (pv 1) (by rfl)) (pw_or1 (pt_not (pt_val (pe_call (ok_has_form T) (hr.mono (by decide)) rfl T.m_has_form T.F_has_form.kp T.b_has_form .nil pass0 (pa_cons (pv 4) pa_nil))))))))
          (pss_one ps_never)
          pss_nil)
        (pss_one (ps_expr (pe_bm PySem.F.plainAttrs_list PySem.F.slot_list_append PySem.F.type_list_append mt_append (pv 1) (pa_cons (pv 3) pa_nil)))))))), ?_⟩
    have hS : start ["lines", "names", "number", "name", "line"] [V.ref l] = [some (.ref l), none, none, none, none] := rfl
    rw [hS]
    have htl : ts.length = ls.length := by rw [paired_len hts, num_len]
    walk_at "rd"
    refine ⟨Nat.zero_le _, fun nl nnl => ?_⟩
    walk_at "rd"
    refine i_forE ?_
    walk_at "rd"
    have hl1 : upd H nl (.lst []) l = some (.lst ts) := (Ex.new (o := .lst []) nnl) _ _ hl
    refine ⟨l, ts, rfl, SqL.of hl1, ?_⟩
    refine for_it walk_enum (fun i σ H2 => ∃ u2 u3 u4 : Option V, σ = [some (.ref l), some (.ref nl), u2, u3, u4] ∧ H2 nl = some (.lst ((ns.take i).map V.str)) ∧ Ex H H2) ⟨_, _, _, rfl, upd_same, Ex.new nnl⟩ (fun i σ H2 _ ⟨_, _, _, _, _, e⟩ => SqL.of (e _ _ hl)) ?_ ?_
    · rintro i v _ H2 H3 hi ⟨u2, u3, u4, rfl, hnl, ex2⟩ ⟨t, x, y, rfl, ht, rfl, hx, hy⟩
      cases hx
      obtain ⟨⟨j, li⟩, hj, t2, lx, rfl, ht2, hli⟩ := paired_get hts hy
      obtain ⟨rfl, hj2⟩ := num_get hj
      have hlt : j < ls.length := (List.getElem?_eq_some_iff.mp hj2).1
      have hln : j < ns.length := by rw [hF.len]; exact hlt
      have e3 : Ex H2 (upd H2 t (.tup [.int (j : Nat), .ref t2])) := Ex.new ht
      have ht3 := e3 _ _ (ex2 _ _ ht2)
      have hnl3 := e3 _ _ hnl
      walk_at "rd"
      refine ⟨wAt ns j, rfl, hF.nm _ (wAt_mem hln), fun H4 ex4 => ?_⟩
      walk_at "rd"
      refine i_inS (.inl (SqL.of (ex4 _ _ hnl3))) ?_
      rw [decide_eq_false (wAt_new hF.nd hln)]
      walk_at "rd"
      have ex04 := (ex2.trans e3).trans ex4
      refine ⟨lx, ns, li, rfl, hli.mono ex04, hF.fm _ (List.mem_of_getElem? hj2), fun H5 ex5 => ?_⟩
      walk_at "rd"
      have hnl5 := ex5 _ _ (ex4 _ _ hnl3)
      refine Nr.i_tyL hnl5 ?_
      walk_at "rd"
      refine Rd.i_append hnl5 (small1000 (by rw [List.length_map, List.length_take]; have := hF.most; omega)) ?_
      walk_at "rd"
      refine ⟨_, _, _, rfl, ?_, ex_mut (ex04.trans ex5) nnl⟩
      rw [upd_same, wAt_take hln, List.map_append]
      rfl
    · rintro _ H2 ⟨u2, u3, u4, rfl, hnl, ex2⟩
      walk_at "rd"
      exact k _ ex2
end
end K02

namespace K02
open PySem L2
local macro_rules | `(tactic| walk_at "rd1") => `(tactic| first
  | (with_reducible refine Rd.i_seq ?_) | (with_reducible refine Rd.i_asg ?_) | (with_reducible refine Rd.i_name ?_) | (with_reducible refine Rd.i_nx ?_) | (with_reducible refine Rd.i_rt ?_) | (with_reducible refine Rd.i_next ?_) | (with_reducible refine Rd.i_ct ?_) | (with_reducible refine Rd.i_bk ?_)
  | (with_reducible refine Rd.i_ret ?_) | (with_reducible refine Rd.i_drop ?_) | (with_reducible refine Rd.i_ifS ?_) | (with_reducible refine Rd.i_sub ?_)
  | (with_reducible refine Rd.i_var (by with_unfolding_all exact rfl) ?_) | (with_reducible refine Rd.i_c ?_) | (with_reducible refine Rd.i_op ?_) | (with_reducible refine Rd.i_un ?_)
  | (with_reducible refine Rd.i_rI0 ?_) | (with_reducible refine Rd.i_rI (by with_unfolding_all first | omega | exact Rd.mulL (by omega) (by omega) | exact Rd.mulR (by omega) (by omega) | decide | (refine ⟨?_, ?_⟩ <;> omega) | (refine ⟨?_, ?_, ?_⟩ <;> omega)) ?_)
  | (with_reducible refine Rd.i_rEq (by with_unfolding_all exact rfl) ?_) | (with_reducible refine Rd.i_rNe (by with_unfolding_all exact rfl) ?_)
  | (with_reducible refine Rd.i_test ?_) | (with_reducible refine Rd.i_tB ?_) | (with_reducible refine Rd.i_bl ?_) | (with_reducible refine Rd.i_and ?_) | (with_reducible refine Rd.i_or ?_) | (with_reducible refine Rd.i_not ?_) | (with_reducible refine Rd.i_notV ?_) | (with_reducible refine Rd.i_andV ?_) | (with_reducible refine Rd.i_orV ?_) | (with_reducible refine Rd.i_if ?_) | (with_reducible refine Rd.i_chain ?_)
  | (with_reducible refine Rd.i_call ?_) | (with_reducible refine Rd.i_nil ?_) | (with_reducible refine Rd.i_cons ?_) | (with_reducible refine Rd.i_cb ?_) | (with_reducible refine Rd.i_bm ?_) | (with_reducible refine Rd.i_bm0 ?_) | (with_reducible refine Rd.i_tup ?_) | (with_reducible refine Rd.i_lst ?_)
  | (with_reducible refine Rd.i_int1 ?_) | (with_reducible refine Rd.i_intb ?_) | (with_reducible refine Rd.i_max ?_)
  | (with_reducible refine Rd.i_ixL (SqL.of (by first | assumption | exact upd_same)) (by with_unfolding_all first | exact rfl | exact atI_nat rfl) ?_) | (with_reducible refine Rd.i_ixT (SqT.of (by first | assumption | exact upd_same)) (by with_unfolding_all exact rfl) ?_)
  | (with_reducible refine Rd.i_setL (by first | assumption | exact upd_same) (by with_unfolding_all exact rfl) ?_)
  | (with_reducible refine Xv.i_mkV ?_) | (with_reducible refine Xv.i_xat ?_)
  | (with_reducible refine Rd.i_yes ?_) | (with_reducible refine Rd.i_m1 ?_) | (with_reducible refine Rd.i_m0 ?_) | (with_reducible refine Rd.ite_T ?_) | (with_reducible refine Rd.ite_F ?_) | (with_reducible refine Rd.i_forR ?_) | (with_reducible refine Rd.i_forL ?_) | (with_reducible refine Rd.i_forT ?_)
  | (with_reducible refine Hd.i_rU ?_) | (with_reducible refine Hd.i_pcons ?_) | (with_reducible refine Hd.i_pnil ?_) | (with_reducible refine Hd.i_disp ?_) | (with_reducible refine Hd.i_dget ?_)
  | (with_reducible refine Hd.i_lstRg ?_) | (with_reducible refine Hd.i_rg1 ?_) | (with_reducible refine Hd.i_rg2 ?_) | (with_reducible refine Hd.i_ex1 ?_) | (with_reducible refine Hd.i_ex2 ?_)
  | (with_reducible refine Rd.i_gtup (SqT.of (by first | assumption | exact upd_same)) (by with_unfolding_all exact rfl) ?_) | (with_reducible refine Rd.i_gcons ?_) | (with_reducible refine Rd.i_gnil ?_)
  | (with_reducible refine Rd.i_lenT (SqT.of (by first | assumption | exact upd_same)) ?_) | (with_reducible refine Rd.i_len (SqL.of (by first | assumption | exact upd_same)) ?_)
  | (with_reducible refine Nr.ite_eF (by first | decide +kernel | with_unfolding_all exact rfl) ?_) | (with_reducible refine Nr.ite_eT (by first | decide +kernel | with_unfolding_all exact rfl) ?_)
  | (with_reducible refine Nr.i_tyL (by first | assumption | exact upd_same) ?_)
  | (with_reducible refine Nr.i_tupT (SqT.of (by first | assumption | exact upd_same)) ?_)
  | (with_reducible refine Nr.i_sl ?_) | (with_reducible refine Nr.i_part ?_) | (with_reducible refine Nr.i_nop ?_) | (with_reducible refine Nr.i_star ?_)
  | fail "stop")
local macro_rules | `(tactic| walk_at "rd") => `(tactic| repeat walk_at "rd1")
section
variable {P : Program} {w : World} {K : PySem.W.Frag} {mg : Str → Option Value} {base : Heap}
open Evl Hd
theorem PrT.mono' {H H' : Hp} {ns : List Str} {v : V} {y : Nat × Li} (e : Ex H H') (h : PrT H ns v y) : PrT H' ns v y := PrAt.mono (fun e h => h.mono e) e h
theorem PrN.mono' {H H' : Hp} {ns : List Str} {v : V} {y : Nat × Li} (e : Ex H H') (h : PrN K H ns v y) : PrN K H' ns v y := PrAt.mono (fun e h => h.mono e) e h
theorem take_all {α : Type} {l : List α} {n : Nat} (h : l.length = n) : l.take n = l := by rw [← h, List.take_length]
theorem map_take_succ {α : Type} {f : α → V} {l : List α} {i : Nat} {x : α} (h : l[i]? = some x) : (l.take (i + 1)).map f = (l.take i).map f ++ [f x] := by
  rw [List.take_succ, h, List.map_append]
  rfl
theorem liG_len {li : Li} (h : LiFm li) : (liG li).length ≤ 6 := by
  cases li with
  | case wy o =>
    have := h.2.2
    show (wy.map (·.2) ++ [o]).length ≤ 6
    rw [List.length_append, List.length_map]
    show wy.length + 1 ≤ 6
    omega
  | take o => show 1 ≤ 6; decide
  | num w c o => show 1 ≤ 6; decide
  | upto c a b => show 2 ≤ 6; decide
  | fin w => show 0 ≤ 6; decide
/-- the lines kept: a tuple of pairs -/
structure Kept (H : Hp) (l : Addr) (ts : List V) (ns : List Str) (ls : List Li) : Prop where
  at_ : H l = some (.tup ts)
  prs : Paired (PrT H ns) ts (numbered ls)
  fms : Fms ns ls
theorem Kept.mono {H H' : Hp} {l : Addr} {ts : List V} {ns : List Str} {ls : List Li} (e : Ex H H') (h : Kept H l ts ns ls) : Kept H' l ts ns ls := ⟨e _ _ h.at_, paired_mono (fun _ _ h => h.mono' e) h.prs, h.fms⟩
theorem Kept.len {H : Hp} {l : Addr} {ts : List V} {ns : List Str} {ls : List Li} (h : Kept H l ts ns ls) : ts.length = ls.length := by rw [paired_len h.prs, num_len]
theorem Kept.get {H : Hp} {l : Addr} {ts : List V} {ns : List Str} {ls : List Li} (h : Kept H l ts ns ls) {i : Nat} {x : V} (hx : ts[i]? = some x) : ∃ t y li, x = .ref t ∧ H t = some (.tup [.str (wAt ns i), y]) ∧ LtAt H ns y li ∧ ls[i]? = some li ∧ i < ns.length ∧ LiFm li := by
  obtain ⟨⟨j, li⟩, hj, t2, lx, rfl, ht2, hli⟩ := paired_get h.prs hx
  obtain ⟨rfl, hj2⟩ := num_get hj
  exact ⟨t2, lx, li, rfl, ht2, hli, hj2, by rw [h.fms.len]; exact (List.getElem?_eq_some_iff.mp hj2).1, h.fms.fm _ (List.mem_of_getElem? hj2)⟩
def spCG : Sp := fun vs H Q _ => ∃ (l : Addr) (ts : List V) (ns : List Str) (ls : List Li), vs = [.ref l] ∧ Kept H l ts ns ls ∧ (∀ li ∈ ls, ∀ g ∈ liG li, g < ns.length) ∧ ∀ H', Ex H H' → Q .non H'
theorem ok_check_goals (T : Ptx w K mg) : FnOk P w K mg base CX0 4 T.f_check_goals T.d_check_goals ["lines"] spCG := by
  refine T.F_check_goals.ok sc_check_goals (fun vs H Q E h => ?_) (fun cdv A outer s H vs Q E hr h => ?_)
  · obtain ⟨l, ts, ns, ls, rfl, _⟩ := h
    rfl
  · obtain ⟨l, ts, ns, ls, rfl, hk, hg, k⟩ := h
    refine ⟨_, (pss_cons (ps_set (i := 1) sc_check_goals.nd rfl (Or.inr rfl) (pe_lc (g := gTup K 2 (gCons (gName 2) (gCons (gName 3) gNil))) rfl sc_check_goals.nd (pi_tup (pv 0)) (blkOk_by (own := [("name", 2), ("_", 3)]) (N := ["lines", "names", "name", "_", "number", "line", "goal"]) (sc := defScope s_check_goals) (by decide +kernel)) (fun _ _ _ _ _ => (pg_tup (by rfl) (pgs_cons (pg_name (i := 2) sc_check_goals.nd rfl (Or.inl rfl)) (pgs_cons (pg_name (i := 3) sc_check_goals.nd rfl (Or.inl rfl)) pgs_nil)))) (fun _ _ _ _ _ => pts_nil) (fun _ _ _ _ _ => (pv 2))))
      (pss_one (ps_for PassesOwn.never rfl (En.pi_enumT (by rfl) T.z_enumerate (pa_cons (pv 0) pa_nil)) (pg_tup (by rfl) (pgs_cons (pg_name (i := 4) sc_check_goals.nd rfl (Or.inl rfl)) (pgs_cons (pg_tup (by rfl) (pgs_cons (pg_name (i := 3) sc_check_goals.nd rfl (Or.inl rfl)) (pgs_cons (pg_name (i := 5) sc_check_goals.nd rfl (Or.inl rfl)) pgs_nil))) pgs_nil)))
        (pss_one (ps_if (pt_not (pt_val (pe_callB (cr_all rfl) (by rfl) T.z_all (by decide +kernel) (pa_cons (pe_lc (te := tOp (rIn K false) (tVar 6) (tVar 1)) rfl sc_check_goals.nd (pi_list (pe_call (ok_goals T) (hr.mono (by decide)) rfl T.m_goals T.F_goals.kp T.b_goals .nil pass0 (pa_cons (pv 5) pa_nil))) (blkOk_by (own := [("goal", 6)]) (N := ["lines", "names", "name", "_", "number", "line", "goal"]) (sc := defScope s_check_goals) (by decide +kernel)) (fun _ _ _ _ _ => (pg_name (i := 6) sc_check_goals.nd rfl (Or.inl rfl))) (fun _ _ _ _ _ => pts_nil) (fun _ _ _ _ _ => (pe_cmpR op_in_seq (pv 6) (pv 1) (by rfl)))) pa_nil))))
          (pss_one ps_never)
          pss_nil))))), ?_⟩
    have hS : start ["lines", "names", "name", "_", "number", "line", "goal"] [V.ref l] = [some (.ref l), none, none, none, none, none, none] := rfl
    rw [hS]
    have htl := hk.len
    have hl := hk.at_
    walk_at "rd"
    refine Rd.i_lcT ?_
    walk_at "rd"
    refine Rd.lcT (xs := ts) (SqT.of hl) (fun D hD => ⟨fun i H2 => H2 D = some (.lst ((ns.take i).map V.str)) ∧ Ex H H2, ⟨upd_same, Ex.new hD⟩, fun i H2 _ h => SqT.of (h.2 _ _ hl), ?_, ?_⟩)
    · rintro i x H2 hx ⟨hDl, ex2⟩
      obtain ⟨t, y, li, rfl, ht, hy, hli, hin, hfm⟩ := (hk.mono ex2).get hx
      walk_at "rd"
      refine ⟨rfl, ?_⟩
      walk_at "rd"
      refine ⟨_, hDl, small1000 (by rw [List.length_map, List.length_take]; have := hk.fms.most; have := hk.fms.len; omega), ?_, ex_mut ex2 hD⟩
      rw [upd_same, wAt_take hin, List.map_append]
      rfl
    · rintro H2 ⟨hDl, ex2⟩
      rw [take_all (by rw [htl, hk.fms.len])] at hDl
      have hl2 := ex2 _ _ hl
      walk_at "rd"
      refine i_forET ?_
      walk_at "rd"
      refine ⟨l, ts, rfl, SqT.of hl2, ?_⟩
      refine for_it walk_enumT (fun i σ H3 => ∃ u2 u3 u4 u5 u6 : Option V, σ = [some (.ref l), some (.ref D), u2, u3, u4, u5, u6] ∧ Ex H2 H3) ⟨_, _, _, _, _, rfl, Ex.refl _⟩ (fun i σ H3 _ ⟨_, _, _, _, _, _, e⟩ => SqT.of (e _ _ hl2)) ?_ ?_
      · rintro i v _ H3 H4 hi ⟨u2, u3, u4, u5, u6, rfl, ex3⟩ ⟨t, x, y, rfl, ht, rfl, hx, hy⟩
        cases hx
        have e4 : Ex H3 (upd H3 t (.tup [.int (i : Nat), y])) := Ex.new ht
        obtain ⟨t2, lx, li, rfl, ht2, hlx, hli, hin, hfm⟩ := (hk.mono ((ex2.trans ex3).trans e4)).get hy
        have hD4 := e4 _ _ (ex3 _ _ hDl)
        walk_at "rd"
        refine Rd.i_lcL ?_
        walk_at "rd"
        refine ⟨lx, ns, li, rfl, hlx, hfm, fun gl H5 ex5 ngl hgl => ?_⟩
        have hD5 := ex5 _ _ hD4
        refine Rd.lcL (xs := gV ns (liG li)) (SqL.of hgl) (fun D2 hD2 => ⟨fun j H6 => H6 D2 = some (.lst ((List.replicate j true).map V.bl)) ∧ Ex H5 H6, ⟨upd_same, Ex.new hD2⟩, fun j H6 _ h => SqL.of (h.2 _ _ hgl), ?_, ?_⟩)
        · rintro j z H6 hz ⟨hD6, ex6⟩
          unfold gV at hz
          rw [List.getElem?_map] at hz
          obtain ⟨g, hg2, rfl⟩ := Option.map_eq_some_iff.mp hz
          have hj := (List.getElem?_eq_some_iff.mp hg2).1
          have hgn := hg li (List.mem_of_getElem? hli) g (List.mem_of_getElem? hg2)
          walk_at "rd"
          refine ⟨rfl, ?_⟩
          walk_at "rd"
          refine i_inS (.inl (SqL.of (ex6 _ _ hD5))) ?_
          rw [decide_eq_true (wAt_mem hgn)]
          refine ⟨_, hD6, small1000 ?_, ?_, ex_mut ex6 hD2⟩
          · rw [List.length_map, List.length_replicate]
            have := liG_len hfm
            omega
          · rw [upd_same, List.replicate_succ', List.map_append]
            rfl
        · rintro H6 ⟨hD6, ex6⟩
          walk_at "rd"
          refine ⟨D2, _, rfl, SqL.of hD6, ?_⟩
          rw [show (List.replicate (gV ns (liG li)).length true).all id = true from List.all_eq_true.mpr fun y hy => by rw [List.eq_of_mem_replicate hy]; rfl]
          walk_at "rd"
          exact ⟨_, _, _, _, _, rfl, (ex3.trans e4).trans (ex5.trans ex6)⟩
      · rintro _ H3 ⟨u2, u3, u4, u5, u6, rfl, ex3⟩
        walk_at "rd"
        exact k _ (ex2.trans ex3)
/-- what a dict of silent ways holds -/
def WyAt (H : Hp) (d : Addr) (ns : List Str) (ls : List Li) (n : Nat) : Prop := ∃ kvs : List (Key × V), H d = some (.dK kvs) ∧ kvs.length ≤ n ∧ ∀ x : Str, valV kvs (Sum.inr x) = none ∨ ∃ i li l, i < n ∧ ls[i]? = some li ∧ i < ns.length ∧ x = wAt ns i ∧ ¬ Lk (liW li) ∧ LiFm li ∧ valV kvs (Sum.inr x) = some (.ref l) ∧ H l = some (.lst (gV ns (liG li)))
theorem WyAt.mono {H H' : Hp} {d : Addr} {ns : List Str} {ls : List Li} {n : Nat} (e : Ex H H') : WyAt H d ns ls n → WyAt H' d ns ls n := fun ⟨kvs, h1, h2, h3⟩ => ⟨kvs, e _ _ h1, h2, fun x => (h3 x).imp id fun ⟨i, li, l, a, b, c, d, e', f, g, h⟩ => ⟨i, li, l, a, b, c, d, e', f, g, e _ _ h⟩⟩
theorem lk_in {x : Str} (h : Lk x) : x ∈ (["case", "take", "rest", "cap", "jump"] : List Str) := by
  unfold Lk at h
  simp only [List.mem_cons, List.not_mem_nil, or_false] at h ⊢
  rcases h with h | h | h | h | h
  · exact .inr (.inl h)
  · exact .inl h
  · exact .inr (.inr (.inl h))
  · exact .inr (.inr (.inr (.inl h)))
  · exact .inr (.inr (.inr (.inr h)))
theorem LtAt.word {H : Hp} {ns : List Str} {v : V} : ∀ {li : Li}, LtAt H ns v li → ∃ t xs, v = .ref t ∧ H t = some (.tup (.str (liW li) :: xs))
  | .case _ _, ⟨t, l, ts, h1, h2, h3, h4⟩ => ⟨t, _, h1, h2⟩
  | .take _, ⟨t, h1, h2⟩ => ⟨t, _, h1, h2⟩
  | .num _ _ _, ⟨t, h1, h2⟩ => ⟨t, _, h1, h2⟩
  | .upto _ _ _, ⟨t, h1, h2⟩ => ⟨t, _, h1, h2⟩
  | .fin _, ⟨t, h1, h2⟩ => ⟨t, _, h1, h2⟩
theorem dcT {i : Nat} {a : Addr} {xs : List V} {g : TG} {t : TT} {tk tv : TE} {vs : List Nat} {σ : L2.St} {H : Hp} {Q : VK} (hi : σ[i]? = some (some (.ref a))) (h : SqT K H a xs) (q : ∀ D, H D = none → ∃ Pv : Nat → Hp → Prop, Pv 0 (upd H D (.dK [])) ∧ (∀ i H, i ≤ xs.length → Pv i H → SqT K H a xs) ∧
    (∀ i x H, xs[i]? = some x → Pv i H → g x (wipe σ vs) H fun σ2 H2 => wipe σ2 vs = wipe σ vs ∧ t σ2 H2 fun b H3 => if b = true then tk σ2 H3 fun y H4 => tv σ2 H4 fun z H5 => ∃ kvs k, y = kV k ∧ H5 D = some (.dK kvs) ∧ kvs.length < sizeLine ∧ Pv (i + 1) (upd H5 D (.dK (putK kvs k z))) else Pv (i + 1) H3) ∧ ∀ H, Pv xs.length H → Q (.ref D) H) : tDc (iTup K (tVar i)) g t tk tv vs σ H Q :=
  Exists.intro (.ref a) ⟨hi, a, rfl, ⟨xs, h⟩, fun D hD => let ⟨Pv, p0, pl, ps, pd⟩ := q D hD; dc_tup (xs := xs) (Qd := fun H => Q (.ref D) H) Pv p0 pl ps pd⟩
def spSW : Sp := fun vs H Q _ => ∃ (l : Addr) (ts : List V) (ns : List Str) (ls : List Li), vs = [.ref l] ∧ Kept H l ts ns ls ∧ ∀ d H', Ex H H' → WyAt H' d ns ls ls.length → Q (.ref d) H'
theorem ok_silent_ways (T : Ptx w K mg) : FnOk P w K mg base CX0 4 T.f_silent_ways T.d_silent_ways ["lines"] spSW := by
  refine T.F_silent_ways.ok sc_silent_ways (fun vs H Q E h => ?_) (fun cdv A outer s H vs Q E hr h => ?_)
  · obtain ⟨l, ts, ns, ls, rfl, _⟩ := h
    rfl
  · obtain ⟨l, ts, ns, ls, rfl, hk, k⟩ := h
    refine ⟨_, (pss_one (ps_ret (pe_dc (g := gTup K 2 (gCons (gName 1) (gCons (gName 2) gNil))) (tv := tCall (spGoals K) [] E0 (tCons (tVar 2) tNil)) (tt := tTest (tOp (rIn K true) (tOp (rIxT K) (tVar 2) (tC (.int 0))) (tC (.ref T.a_READING)))) rfl sc_silent_ways.nd (pi_tup (pv 0)) (blkOk_by (own := [("name", 1), ("line", 2)]) (N := ["lines", "name", "line"]) (sc := defScope s_silent_ways) (by decide +kernel)) (fun _ _ _ _ _ => (pg_tup (by rfl) (pgs_cons (pg_name (i := 1) sc_silent_ways.nd rfl (Or.inl rfl)) (pgs_cons (pg_name (i := 2) sc_silent_ways.nd rfl (Or.inl rfl)) pgs_nil)))) (fun _ _ _ _ _ => (pts_one (pt_cmpR op_notIn_seq (pe_ix ix_tup (pv 2) pe_int (fun _ _ => rfl)) (pe_glob (v := .ref T.a_READING) rfl T.m_READING rfl) (by rfl)))) (fun _ _ _ _ _ => (pv 1)) (fun _ _ _ _ _ => (pe_call (ok_goals T) (hr.mono (by decide)) rfl T.m_goals T.F_goals.kp T.b_goals .nil pass0 (pa_cons (pv 2) pa_nil)))))), ?_⟩
    have hS : start ["lines", "name", "line"] [V.ref l] = [some (.ref l), none, none] := rfl
    rw [hS]
    have htl := hk.len
    have hl := hk.at_
    walk_at "rd"
    refine dcT (xs := ts) rfl (SqT.of hl) (fun D hD => ⟨fun i H2 => WyAt H2 D ns ls i ∧ Ex H H2, ⟨⟨[], upd_same, Nat.le_refl _, fun x => .inl rfl⟩, Ex.new hD⟩, fun i H2 _ h => SqT.of (h.2 _ _ hl), ?_, ?_⟩)
    · rintro i x H2 hx ⟨⟨kvs, hDd, hlen, hkv⟩, ex2⟩
      obtain ⟨t, y, li, rfl, ht, hy, hli, hin, hfm⟩ := (hk.mono ex2).get hx
      obtain ⟨t2, xs, rfl, ht2⟩ := hy.word
      have hil := (List.getElem?_eq_some_iff.mp hli).1
      have hm8 := hk.fms.most
      walk_at "rd"
      refine ⟨rfl, ?_⟩
      walk_at "rd"
      refine Rd.i_ixT (SqT.of ht2) (atI_nat (j := 0) rfl) ?_
      walk_at "rd"
      refine i_ninS (ns := ["case", "take", "rest", "cap", "jump"]) (.inr (T.q_READING _)) ?_
      walk_at "rd"
      refine Rd.ite_nd (fun hlk => ?_) (fun hnl => ?_)
      · refine ⟨⟨kvs, hDd, by omega, fun x => (hkv x).imp id fun ⟨j, h⟩ => ⟨j, h.choose, h.choose_spec.choose, ?_⟩⟩, ex2⟩
        obtain ⟨h1, h2⟩ := h.choose_spec.choose_spec
        exact ⟨by omega, h2⟩
      · walk_at "rd"
        refine ⟨_, ns, li, rfl, hy, hfm, fun gl H5 ex5 ngl hgl => ?_⟩
        have hD5 := ex5 _ _ hDd
        have glD : gl ≠ D := fun e => by rw [e, hDd] at ngl; cases ngl
        refine ⟨kvs, Sum.inr (wAt ns i), rfl, hD5, Nat.lt_of_le_of_lt hlen (Nat.lt_of_le_of_lt (by omega : i ≤ 8) (by decide)), ⟨_, upd_same, ?_, fun x => ?_⟩, ex_mut (ex2.trans ex5) hD⟩
        · exact Nat.le_trans (length_putK _ _ _) (by omega)
        · rw [valV_put]
          by_cases hxw : x = wAt ns i
          · subst hxw
            rw [if_pos rfl]
            refine .inr ⟨i, li, gl, by omega, hli, hin, rfl, fun hlk => hnl (lk_in hlk), hfm, rfl, ?_⟩
            rw [upd_ne glD]
            exact hgl
          · rw [if_neg fun e => hxw (Sum.inr.inj e)]
            refine (hkv x).imp id fun ⟨j, lj, l2, h1, h2, h3, h4, h5, h6, h7, h8⟩ => ⟨j, lj, l2, by omega, h2, h3, h4, h5, h6, h7, ?_⟩
            rw [upd_ne fun e => by rw [e, hDd] at h8; cases h8]
            exact ex5 _ _ h8
    · rintro H2 ⟨hW, ex2⟩
      rw [htl] at hW
      exact k D _ ex2 hW
end
end K02

namespace K02
open PySem L2
local macro_rules | `(tactic| walk_at "rd1") => `(tactic| first
  | (with_reducible refine Rd.i_seq ?_) | (with_reducible refine Rd.i_asg ?_) | (with_reducible refine Rd.i_name ?_) | (with_reducible refine Rd.i_nx ?_) | (with_reducible refine Rd.i_rt ?_) | (with_reducible refine Rd.i_next ?_) | (with_reducible refine Rd.i_ct ?_) | (with_reducible refine Rd.i_bk ?_)
  | (with_reducible refine Rd.i_ret ?_) | (with_reducible refine Rd.i_drop ?_) | (with_reducible refine Rd.i_ifS ?_) | (with_reducible refine Rd.i_sub ?_)
  | (with_reducible refine Rd.i_var (by with_unfolding_all exact rfl) ?_) | (with_reducible refine Rd.i_c ?_) | (with_reducible refine Rd.i_op ?_) | (with_reducible refine Rd.i_un ?_)
  | (with_reducible refine Rd.i_rI0 ?_) | (with_reducible refine Rd.i_rI (by with_unfolding_all first | omega | exact Rd.mulL (by omega) (by omega) | exact Rd.mulR (by omega) (by omega) | decide | (refine ⟨?_, ?_⟩ <;> omega) | (refine ⟨?_, ?_, ?_⟩ <;> omega)) ?_)
  | (with_reducible refine Rd.i_rEq (by with_unfolding_all exact rfl) ?_) | (with_reducible refine Rd.i_rNe (by with_unfolding_all exact rfl) ?_)
  | (with_reducible refine Rd.i_test ?_) | (with_reducible refine Rd.i_tB ?_) | (with_reducible refine Rd.i_bl ?_) | (with_reducible refine Rd.i_and ?_) | (with_reducible refine Rd.i_or ?_) | (with_reducible refine Rd.i_not ?_) | (with_reducible refine Rd.i_notV ?_) | (with_reducible refine Rd.i_andV ?_) | (with_reducible refine Rd.i_orV ?_) | (with_reducible refine Rd.i_if ?_) | (with_reducible refine Rd.i_chain ?_)
  | (with_reducible refine Rd.i_call ?_) | (with_reducible refine Rd.i_nil ?_) | (with_reducible refine Rd.i_cons ?_) | (with_reducible refine Rd.i_cb ?_) | (with_reducible refine Rd.i_bm ?_) | (with_reducible refine Rd.i_bm0 ?_) | (with_reducible refine Rd.i_tup ?_) | (with_reducible refine Rd.i_lst ?_)
  | (with_reducible refine Rd.i_int1 ?_) | (with_reducible refine Rd.i_intb ?_) | (with_reducible refine Rd.i_max ?_)
  | (with_reducible refine Rd.i_ixL (SqL.of (by first | assumption | exact upd_same)) (by with_unfolding_all first | exact rfl | exact atI_nat rfl) ?_) | (with_reducible refine Rd.i_ixT (SqT.of (by first | assumption | exact upd_same)) (by with_unfolding_all exact rfl) ?_)
  | (with_reducible refine Rd.i_setL (by first | assumption | exact upd_same) (by with_unfolding_all exact rfl) ?_)
  | (with_reducible refine Xv.i_mkV ?_) | (with_reducible refine Xv.i_xat ?_)
  | (with_reducible refine Rd.i_yes ?_) | (with_reducible refine Rd.i_m1 ?_) | (with_reducible refine Rd.i_m0 ?_) | (with_reducible refine Rd.ite_T ?_) | (with_reducible refine Rd.ite_F ?_) | (with_reducible refine Rd.i_forR ?_) | (with_reducible refine Rd.i_forL ?_) | (with_reducible refine Rd.i_forT ?_)
  | (with_reducible refine Hd.i_rU ?_) | (with_reducible refine Hd.i_pcons ?_) | (with_reducible refine Hd.i_pnil ?_) | (with_reducible refine Hd.i_disp ?_) | (with_reducible refine Hd.i_dget ?_)
  | (with_reducible refine Hd.i_lstRg ?_) | (with_reducible refine Hd.i_rg1 ?_) | (with_reducible refine Hd.i_rg2 ?_) | (with_reducible refine Hd.i_ex1 ?_) | (with_reducible refine Hd.i_ex2 ?_)
  | (with_reducible refine Rd.i_gtup (SqT.of (by first | assumption | exact upd_same)) (by with_unfolding_all exact rfl) ?_) | (with_reducible refine Rd.i_gcons ?_) | (with_reducible refine Rd.i_gnil ?_)
  | (with_reducible refine Rd.i_lenT (SqT.of (by first | assumption | exact upd_same)) ?_) | (with_reducible refine Rd.i_len (SqL.of (by first | assumption | exact upd_same)) ?_)
  | (with_reducible refine Nr.ite_eF (by first | decide +kernel | with_unfolding_all exact rfl) ?_) | (with_reducible refine Nr.ite_eT (by first | decide +kernel | with_unfolding_all exact rfl) ?_)
  | (with_reducible refine Nr.i_tyL (by first | assumption | exact upd_same) ?_)
  | (with_reducible refine Nr.i_tupT (SqT.of (by first | assumption | exact upd_same)) ?_)
  | (with_reducible refine Nr.i_sl ?_) | (with_reducible refine Nr.i_part ?_) | (with_reducible refine Nr.i_nop ?_) | (with_reducible refine Nr.i_star ?_)
  | fail "stop")
local macro_rules | `(tactic| walk_at "rd") => `(tactic| repeat walk_at "rd1")
section
variable {P : Program} {w : World} {K : PySem.W.Frag} {mg : Str → Option Value} {base : Heap}
open Evl Hd
theorem i_pop {l : Addr} {xs : List V} {y : V} {H : Hp} {Q : VK} (h : H l = some (.lst (xs ++ [y]))) (q : Q y (upd H l (.lst xs))) : rPop (.ref l) [] H Q :=
  ⟨l, _, y, rfl, rfl, h, by rw [List.length_append]; show (xs ++ [y])[xs.length + 1 - 1]? = _; rw [Nat.add_sub_cancel, List.getElem?_append_right (Nat.le_refl _), Nat.sub_self]; rfl, by rw [List.dropLast_concat]; exact q⟩
theorem i_ext {l b : Addr} {xs zs : List V} {H : Hp} {Q : VK} (h1 : H l = some (.lst xs)) (h2 : H b = some (.lst zs)) (hz : xs.length + zs.length ≤ 1000) (q : Q .non (upd H l (.lst (xs ++ zs)))) : rExtend (.ref l) [.ref b] H Q := ⟨l, b, xs, zs, rfl, rfl, h1, h2, Nat.le_trans hz (by decide), q⟩
theorem i_get2 {td ty tx : TE} {σ : L2.St} {H : Hp} {Q : VK} (q : td σ H fun x H1 => ∃ a, x = .ref a ∧ IsD H1 a ∧ ty σ H1 fun y H2 => tx σ H2 fun z H3 => ∃ o, DGet H3 a y o ∧ Q (o.getD z) H3) : tDGet2 td ty tx σ H Q := q
/-- what is reached keeps a property that the silent ways keep -/
structure Clo (ns : List Str) (ls : List Li) (S : Str → Prop) : Prop where
  fms : Fms ns ls
  rng : ∀ li ∈ ls, ∀ g ∈ liG li, g < ns.length
  go : ∀ i li, ls[i]? = some li → i < ns.length → S (wAt ns i) → ¬ Lk (liW li) → ∀ g ∈ liG li, S (wAt ns g)
def spRe : Sp := fun vs H Q _ => ∃ (d m : Addr) (ns : List Str) (ls : List Li) (n : Nat) (S : Str → Prop) (xs : List Str), vs = [.ref d, .ref m] ∧ WyAt H d ns ls n ∧ Clo ns ls S ∧ H m = some (.lst (xs.map V.str)) ∧ xs.length ≤ 10 ∧ (∀ x ∈ xs, x ∈ ns ∧ S x) ∧ ∀ (l : Addr) (fs : List Str) (H' : Hp), Ex H H' → H' l = some (.lst (fs.map V.str)) → (∀ x ∈ fs, S x) → Q (.ref l) H'
def ReInv (H : Hp) (d m fl al : Addr) (ns : List Str) (S : Str → Prop) (μ : Nat) (σ : L2.St) (H2 : Hp) : Prop := ∃ (fs as : List Str) (u : Option V), σ = [some (.ref d), some (.ref m), some (.ref fl), some (.ref al), u] ∧ H2 fl = some (.lst (fs.map V.str)) ∧ H2 al = some (.lst (as.map V.str)) ∧ fs.Nodup ∧ (∀ x ∈ fs, x ∈ ns ∧ S x) ∧ (∀ x ∈ as, x ∈ ns ∧ S x) ∧ as.length ≤ 10 + 6 * fs.length ∧ Ex H H2 ∧ μ = (9 - fs.length) * 7 + as.length
theorem ok_reached (T : Ptx w K mg) : FnOk P w K mg base CX0 5 T.f_reached T.d_reached ["ways", "names"] spRe := by
  refine T.F_reached.ok sc_reached (fun vs H Q E h => ?_) (fun cdv A outer s H vs Q E hr h => ?_)
  · obtain ⟨d, m, ns, ls, n, S, xs, rfl, _⟩ := h
    rfl
  · obtain ⟨d, m, ns, ls, n, S, xs, rfl, hW, hC, hm, hxl, hxs, k⟩ := h
    refine ⟨_, (pss_cons (ps_set (i := 2) sc_reached.nd rfl (Or.inl rfl) (pe_lst pa_nil))
      (pss_cons (ps_set (i := 3) sc_reached.nd rfl (Or.inl rfl) (pe_callTy call_list_of (by rfl) T.z_list (by decide +kernel) (pa_cons (pv 1) pa_nil)))
      (pss_cons (ps_while PassesOwn.never (pt_truth (pv 3) (by intro _; rfl))
        (pss_cons (ps_set (i := 4) sc_reached.nd rfl (Or.inl rfl) (pe_bm0 PySem.F.plainAttrs_list PySem.F.slot_list_pop PySem.F.type_list_pop mt_pop (pv 3)))
        (pss_one (ps_if (pt_cmpR op_notIn_seq (pv 4) (pv 2) (by rfl))
          (pss_cons (ps_expr (pe_bm PySem.F.plainAttrs_list PySem.F.slot_list_append PySem.F.type_list_append mt_append (pv 2) (pa_cons (pv 4) pa_nil)))
          (pss_one (ps_expr (pe_bm PySem.F.plainAttrs_list PySem.F.slot_list_extend PySem.F.type_list_extend mt_extend (pv 3) (pa_cons (pe_dget2 (hu_of hr) (pv 0) (pv 4) (pe_lst pa_nil) ⟨rfl, rfl, rfl, rfl⟩) pa_nil)))))
          pss_nil))))
      (pss_one (ps_ret (pv 2)))))), ?_⟩
    have hS : start ["ways", "names", "found", "ahead", "name"] [V.ref d, .ref m] = [some (.ref d), some (.ref m), none, none, none] := rfl
    rw [hS]
    walk_at "rd"
    refine ⟨Nat.zero_le _, fun fl nfl => ?_⟩
    have hm1 : upd H fl (.lst []) m = some (.lst (xs.map V.str)) := (Ex.new (o := .lst []) nfl) _ _ hm
    walk_at "rd"
    intro al nal
    walk_at "rd"
    have e2 : Ex H (upd (upd H fl (.lst [])) al (.lst (xs.map V.str))) := (Ex.new (o := .lst []) nfl).trans (Ex.new nal)
    have nal0 : H al = none := fresh_back (Ex.new (o := .lst []) nfl) nal
    have fal : fl ≠ al := fun e => by rw [e, upd_same] at nal; cases nal
    refine Exists.intro (ReInv H d m fl al ns S) ⟨⟨_, [], xs, _, rfl, ?_, upd_same, List.nodup_nil, fun _ h => (List.not_mem_nil h).elim, hxs, hxl, e2, rfl⟩, ?_⟩
    · rw [upd_ne fal]
      exact upd_same
    rintro μ _ H2 ⟨fs, as, u, rfl, hfl, hal, hnd, hfs, has, hlen, ex2, rfl⟩
    refine Exists.intro (.ref al) ⟨rfl, !(as.map V.str).isEmpty, .inl ⟨_, SqL.of hal, rfl⟩, ?_⟩
    rcases List.eq_nil_or_concat as with rfl | ⟨as', y, rfl⟩
    · walk_at "rd"
      exact k fl fs H2 ex2 hfl fun x hx => (hfs x hx).2
    rw [List.concat_eq_append] at hal has hlen ⊢
    rw [show (!((as' ++ [y]).map V.str).isEmpty) = true from by rw [List.map_append]; cases as' <;> rfl]
    refine Rd.ite_T ⟨fun σ' H' => ∃ m', m' < (9 - fs.length) * 7 + (as' ++ [y]).length ∧ ReInv H d m fl al ns S m' σ' H', fun _ _ h => h, ?_⟩
    rw [List.map_append] at hal
    rw [List.length_append] at hlen
    have hal' : H2 al = some (.lst (as'.map V.str ++ [.str y])) := hal
    obtain ⟨hyn, hyS⟩ := has y (List.mem_append_right _ List.mem_cons_self)
    have has' : ∀ x ∈ as', x ∈ ns ∧ S x := fun x hx => has x (List.mem_append_left _ hx)
    have hl1 : (as' ++ [y]).length = as'.length + 1 := List.length_append
    rw [hl1]
    have hl1' : as'.length + 1 ≤ 10 + 6 * fs.length := hlen
    walk_at "rd"
    refine i_pop hal' ?_
    walk_at "rd"
    have hfl3 : upd H2 al (.lst (as'.map V.str)) fl = some (.lst (fs.map V.str)) := by rw [upd_ne fal]; exact hfl
    have ex3 : Ex H (upd H2 al (.lst (as'.map V.str))) := ex_mut ex2 nal0
    have hal3 : upd H2 al (.lst (as'.map V.str)) al = some (.lst (as'.map V.str)) := upd_same
    generalize upd H2 al (.lst (as'.map V.str)) = H3 at hfl3 ex3 hal3
    refine i_ninS (.inl (SqL.of hfl3)) ?_
    walk_at "rd"
    refine Rd.ite_nd (fun hy => ?_) (fun hy => ?_)
    · walk_at "rd"
      exact ⟨_, by omega, fs, as', _, rfl, hfl3, hal3, hnd, hfs, has', by omega, ex3, rfl⟩
    have hnd2 : (fs ++ [y]).Nodup := List.nodup_append.mpr ⟨hnd, List.nodup_cons.mpr ⟨List.not_mem_nil, List.nodup_nil⟩, fun a ha b hb e => by
      rw [List.mem_singleton.mp hb] at e
      exact hy (e ▸ ha)⟩
    have hsub2 : ∀ x ∈ fs ++ [y], x ∈ ns ∧ S x := fun x hx => (List.mem_append.mp hx).elim (hfs x) fun h => by
      rw [List.mem_singleton.mp h]
      exact ⟨hyn, hyS⟩
    have hl8 : fs.length + 1 ≤ 8 := by
      have h1 := nodup_len hnd2 fun x hx => (hsub2 x hx).1
      have h2 := hC.fms.len
      have h3 := hC.fms.most
      rw [List.length_append] at h1
      have h4 : fs.length + 1 ≤ ns.length := h1
      omega
    walk_at "rd"
    refine Rd.i_append hfl3 (small1000 (by rw [List.length_map]; omega)) ?_
    walk_at "rd"
    have hfl4 : upd H3 fl (.lst (fs.map V.str ++ [.str y])) fl = some (.lst ((fs ++ [y]).map V.str)) := by rw [List.map_append]; exact upd_same
    have hal4 : upd H3 fl (.lst (fs.map V.str ++ [.str y])) al = some (.lst (as'.map V.str)) := by rw [upd_ne (Ne.symm fal)]; exact hal3
    have ex4 : Ex H (upd H3 fl (.lst (fs.map V.str ++ [.str y]))) := ex_mut ex3 nfl
    generalize upd H3 fl (.lst (fs.map V.str ++ [.str y])) = H4 at hfl4 hal4 ex4
    refine Nr.i_tyL hal4 ?_
    walk_at "rd"
    refine i_get2 ?_
    obtain ⟨kvs, hd4, hkl, hkv⟩ := hW.mono ex4
    walk_at "rd"
    refine ⟨d, rfl, .inl ⟨kvs, .inl hd4⟩, ?_⟩
    walk_at "rd"
    refine ⟨Nat.zero_le _, fun el nel => ?_⟩
    have e5 : Ex H4 (upd H4 el (.lst [])) := Ex.new nel
    refine ⟨_, DGet.k (k := Sum.inr y) (e5 _ _ hd4), ?_⟩
    have fin : ∀ (b : Addr) (new : List Str), upd H4 el (.lst []) b = some (.lst (new.map V.str)) → new.length ≤ 6 → (∀ x ∈ new, x ∈ ns ∧ S x) → ∀ u, ∃ m', m' < (9 - fs.length) * 7 + (as'.length + 1) ∧ ReInv H d m fl al ns S m' [some (.ref d), some (.ref m), some (.ref fl), some (.ref al), u] (upd (upd H4 el (.lst [])) al (.lst (as'.map V.str ++ new.map V.str))) := fun b new hb hnl hnew u =>
      ⟨(9 - (fs ++ [y]).length) * 7 + (as' ++ new).length, by rw [List.length_append, List.length_append]; show (9 - (fs.length + 1)) * 7 + _ < _; omega, fs ++ [y], as' ++ new, u, rfl, by rw [upd_ne fal]; exact e5 _ _ hfl4, by rw [List.map_append]; exact upd_same, hnd2, hsub2, fun x hx => (List.mem_append.mp hx).elim (has' x) (hnew x), by rw [List.length_append, List.length_append]; show _ ≤ 10 + 6 * (fs.length + 1); omega, ex_mut (ex4.trans e5) nal0, rfl⟩
    have al5 := e5 _ _ hal4
    rcases hkv y with hv | ⟨i, li, l, hi, hli, hin, hyw, hnl, hfm, hv, hgl⟩
    · rw [hv]
      walk_at "rd"
      refine i_ext al5 (upd_same (o := .lst [])) (by rw [List.length_map]; show as'.length + 0 ≤ 1000; omega) ?_
      walk_at "rd"
      exact fin el [] upd_same (Nat.zero_le _) (fun _ h => (List.not_mem_nil h).elim) _
    · rw [hv]
      have hgl5 : upd H4 el (.lst []) l = some (.lst (((liG li).map fun o => wAt ns o).map V.str)) := by rw [List.map_map]; exact e5 _ _ hgl
      have h6 := liG_len hfm
      walk_at "rd"
      refine i_ext al5 hgl5 (by rw [List.length_map, List.length_map, List.length_map]; omega) ?_
      walk_at "rd"
      refine fin l _ hgl5 (by rw [List.length_map]; exact h6) (fun x hx => ?_) _
      obtain ⟨g, hg, rfl⟩ := List.mem_map.mp hx
      exact ⟨wAt_mem (hC.rng li (List.mem_of_getElem? hli) g hg), hC.go i li hli hin (hyw ▸ hyS) hnl g hg⟩
end
end K02

namespace K02
open PySem L2
local macro_rules | `(tactic| walk_at "rd1") => `(tactic| first
  | (with_reducible refine Rd.i_seq ?_) | (with_reducible refine Rd.i_asg ?_) | (with_reducible refine Rd.i_name ?_) | (with_reducible refine Rd.i_nx ?_) | (with_reducible refine Rd.i_rt ?_) | (with_reducible refine Rd.i_next ?_) | (with_reducible refine Rd.i_ct ?_) | (with_reducible refine Rd.i_bk ?_)
  | (with_reducible refine Rd.i_ret ?_) | (with_reducible refine Rd.i_drop ?_) | (with_reducible refine Rd.i_ifS ?_) | (with_reducible refine Rd.i_sub ?_)
  | (with_reducible refine Rd.i_var (by with_unfolding_all exact rfl) ?_) | (with_reducible refine Rd.i_c ?_) | (with_reducible refine Rd.i_op ?_) | (with_reducible refine Rd.i_un ?_)
  | (with_reducible refine Rd.i_rI0 ?_) | (with_reducible refine Rd.i_rI (by with_unfolding_all first | omega | exact Rd.mulL (by omega) (by omega) | exact Rd.mulR (by omega) (by omega) | decide | (refine ⟨?_, ?_⟩ <;> omega) | (refine ⟨?_, ?_, ?_⟩ <;> omega)) ?_)
  | (with_reducible refine Rd.i_rEq (by with_unfolding_all exact rfl) ?_) | (with_reducible refine Rd.i_rNe (by with_unfolding_all exact rfl) ?_)
  | (with_reducible refine Rd.i_test ?_) | (with_reducible refine Rd.i_tB ?_) | (with_reducible refine Rd.i_bl ?_) | (with_reducible refine Rd.i_and ?_) | (with_reducible refine Rd.i_or ?_) | (with_reducible refine Rd.i_not ?_) | (with_reducible refine Rd.i_notV ?_) | (with_reducible refine Rd.i_andV ?_) | (with_reducible refine Rd.i_orV ?_) | (with_reducible refine Rd.i_if ?_) | (with_reducible refine Rd.i_chain ?_)
  | (with_reducible refine Rd.i_call ?_) | (with_reducible refine Rd.i_nil ?_) | (with_reducible refine Rd.i_cons ?_) | (with_reducible refine Rd.i_cb ?_) | (with_reducible refine Rd.i_bm ?_) | (with_reducible refine Rd.i_bm0 ?_) | (with_reducible refine Rd.i_tup ?_) | (with_reducible refine Rd.i_lst ?_)
  | (with_reducible refine Rd.i_int1 ?_) | (with_reducible refine Rd.i_intb ?_) | (with_reducible refine Rd.i_max ?_)
  | (with_reducible refine Rd.i_ixL (SqL.of (by first | assumption | exact upd_same)) (by with_unfolding_all first | exact rfl | exact atI_nat rfl) ?_) | (with_reducible refine Rd.i_ixT (SqT.of (by first | assumption | exact upd_same)) (by with_unfolding_all exact rfl) ?_)
  | (with_reducible refine Rd.i_setL (by first | assumption | exact upd_same) (by with_unfolding_all exact rfl) ?_)
  | (with_reducible refine Xv.i_mkV ?_) | (with_reducible refine Xv.i_xat ?_)
  | (with_reducible refine Rd.i_yes ?_) | (with_reducible refine Rd.i_m1 ?_) | (with_reducible refine Rd.i_m0 ?_) | (with_reducible refine Rd.ite_T ?_) | (with_reducible refine Rd.ite_F ?_) | (with_reducible refine Rd.i_forR ?_) | (with_reducible refine Rd.i_forL ?_) | (with_reducible refine Rd.i_forT ?_)
  | (with_reducible refine Hd.i_rU ?_) | (with_reducible refine Hd.i_pcons ?_) | (with_reducible refine Hd.i_pnil ?_) | (with_reducible refine Hd.i_disp ?_) | (with_reducible refine Hd.i_dget ?_)
  | (with_reducible refine Hd.i_lstRg ?_) | (with_reducible refine Hd.i_rg1 ?_) | (with_reducible refine Hd.i_rg2 ?_) | (with_reducible refine Hd.i_ex1 ?_) | (with_reducible refine Hd.i_ex2 ?_)
  | (with_reducible refine Rd.i_gtup (SqT.of (by first | assumption | exact upd_same)) (by with_unfolding_all exact rfl) ?_) | (with_reducible refine Rd.i_gcons ?_) | (with_reducible refine Rd.i_gnil ?_)
  | (with_reducible refine Rd.i_lenT (SqT.of (by first | assumption | exact upd_same)) ?_) | (with_reducible refine Rd.i_len (SqL.of (by first | assumption | exact upd_same)) ?_)
  | (with_reducible refine Nr.ite_eF (by first | decide +kernel | with_unfolding_all exact rfl) ?_) | (with_reducible refine Nr.ite_eT (by first | decide +kernel | with_unfolding_all exact rfl) ?_)
  | (with_reducible refine Nr.i_tyL (by first | assumption | exact upd_same) ?_)
  | (with_reducible refine Nr.i_tupT (SqT.of (by first | assumption | exact upd_same)) ?_)
  | (with_reducible refine Nr.i_sl ?_) | (with_reducible refine Nr.i_part ?_) | (with_reducible refine Nr.i_nop ?_) | (with_reducible refine Nr.i_star ?_)
  | fail "stop")
local macro_rules | `(tactic| walk_at "rd") => `(tactic| repeat walk_at "rd1")
section
variable {P : Program} {w : World} {K : PySem.W.Frag} {mg : Str → Option Value} {base : Heap}
open Evl Hd
theorem wAt_inj {ns : List Str} {i j : Nat} (hn : ns.Nodup) (hi : i < ns.length) (hj : j < ns.length) (e : wAt ns i = wAt ns j) : i = j := by
  rw [wAt_some (List.getElem?_eq_getElem hi), wAt_some (List.getElem?_eq_getElem hj)] at e
  rcases Nat.lt_trichotomy i j with h | h | h
  · exact absurd e (List.pairwise_iff_getElem.mp hn i j hi hj h)
  · exact h
  · exact absurd e.symm (List.pairwise_iff_getElem.mp hn j i hj hi h)
theorem LiOk.gl {ws : List Str} {i : Nat} : ∀ {li : Li}, LiOk ws i li → ∀ g ∈ liG li, Gok ws i g
  | .case wy o, ⟨_, _, h2, _, h4⟩, g, hg => by
    rcases List.mem_append.mp hg with hg | hg
    · obtain ⟨y, hy, rfl⟩ := List.mem_map.mp hg
      exact (h2 y hy).2.2
    · rw [List.mem_singleton.mp hg]
      exact h4
  | .take o, ⟨_, h⟩, g, hg => by rw [List.mem_singleton.mp hg]; exact h
  | .num _ _ o, ⟨_, _, h⟩, g, hg => by rw [List.mem_singleton.mp hg]; exact h
  | .upto _ a b, ⟨_, _, _, h1, h2⟩, g, hg => by
    rcases List.mem_cons.mp hg with rfl | hg
    · exact h1
    · rw [List.mem_singleton.mp hg]
      exact h2
  | .fin _, _, g, hg => (List.not_mem_nil hg).elim
theorem Drawn.fms {ns ws : List Str} {ls : List Li} (h : Drawn ns ws ls) : Fms ns ls := ⟨by rw [h.len, h.lenL], by rw [h.lenL]; exact h.most, by rw [h.lenL]; exact h.pos, h.nd, h.nm, fun li hli => by
  obtain ⟨i, hi⟩ := List.getElem?_of_mem hli
  exact (h.ok i li hi).fm⟩
theorem Drawn.rng {ns ws : List Str} {ls : List Li} (h : Drawn ns ws ls) : ∀ li ∈ ls, ∀ g ∈ liG li, g < ns.length := fun li hli g hg => by
  obtain ⟨i, hi⟩ := List.getElem?_of_mem hli
  rw [h.len]
  exact ((h.ok i li hi).gl g hg).1
/-- where a silent line leads: to lines that look, or to later ones -/
def Sil (ns ws : List Str) (i : Nat) (x : Str) : Prop := ∃ j, j < ns.length ∧ x = wAt ns j ∧ ¬ Lk (wAt ws i) ∧ (Lk (wAt ws j) ∨ (0 < i ∧ i < j))
theorem Drawn.clo {ns ws : List Str} {ls : List Li} (h : Drawn ns ws ls) (i : Nat) : Clo ns ls (Sil ns ws i) := ⟨h.fms, h.rng, fun j li hli hj ⟨j2, hj2, e, hi, hor⟩ hnl g hg => by
  obtain rfl := wAt_inj h.nd hj hj2 e
  have ho := h.ok j li hli
  rw [ho.wd] at hnl
  obtain ⟨h1, h2⟩ := ho.gl g hg
  refine ⟨g, by rw [h.len]; exact h1, rfl, hi, ?_⟩
  rcases hor with hl | ⟨h3, h4⟩
  · exact absurd hl hnl
  · rcases h2 hnl with h5 | ⟨_, h5⟩
    · exact .inl h5
    · exact .inr ⟨h3, by omega⟩⟩
def Beg (ns ws : List Str) (x : Str) : Prop := ∃ j, j < ns.length ∧ x = wAt ns j ∧ (j = 0 ∨ Lk (wAt ws j))
theorem Drawn.cloB {ns ws : List Str} {ls : List Li} (h : Drawn ns ws ls) : Clo ns ls (Beg ns ws) := ⟨h.fms, h.rng, fun j li hli hj ⟨j2, hj2, e, hor⟩ hnl g hg => by
  obtain rfl := wAt_inj h.nd hj hj2 e
  have ho := h.ok j li hli
  rw [ho.wd] at hnl
  obtain ⟨h1, h2⟩ := ho.gl g hg
  refine ⟨g, by rw [h.len]; exact h1, rfl, .inr ?_⟩
  rcases hor with rfl | hl
  · rcases h2 hnl with h5 | ⟨h5, _⟩
    · exact h5
    · omega
  · exact absurd hl hnl⟩
def spCR : Sp := fun vs H Q _ => ∃ (l : Addr) (ts : List V) (ns ws : List Str) (ls : List Li), vs = [.ref l] ∧ Kept H l ts ns ls ∧ Drawn ns ws ls ∧ ∀ H', Ex H H' → Q .non H'
theorem ok_check_rings (T : Ptx w K mg) : FnOk P w K mg base CX0 6 T.f_check_rings T.d_check_rings ["lines"] spCR := by
  refine T.F_check_rings.ok sc_check_rings (fun vs H Q E h => ?_) (fun cdv A outer s H vs Q E hr h => ?_)
  · obtain ⟨l, ts, ns, ws, ls, rfl, _⟩ := h
    rfl
  · obtain ⟨l, ts, ns, ws, ls, rfl, hk, hD, k⟩ := h
    refine ⟨_, (pss_cons (ps_set (i := 1) sc_check_rings.nd rfl (Or.inl rfl) (pe_call (ok_silent_ways T) (hr.mono (by decide)) rfl T.m_silent_ways T.F_silent_ways.kp T.b_silent_ways .nil pass0 (pa_cons (pv 0) pa_nil)))
      (pss_one (ps_for PassesOwn.never rfl (En.pi_enumT (by rfl) T.z_enumerate (pa_cons (pv 0) pa_nil)) (pg_tup (by rfl) (pgs_cons (pg_name (i := 2) sc_check_rings.nd rfl (Or.inl rfl)) (pgs_cons (pg_tup (by rfl) (pgs_cons (pg_name (i := 3) sc_check_rings.nd rfl (Or.inl rfl)) (pgs_cons (pg_name (i := 4) sc_check_rings.nd rfl (Or.inl rfl)) pgs_nil))) pgs_nil)))
        (pss_one (ps_if (pt_cmpR op_in_seq (pv 3) (pe_call (ok_reached T) (hr.mono (by decide)) rfl T.m_reached T.F_reached.kp T.b_reached .nil pass0 (pa_cons (pv 1) (pa_cons (pe_dget2 (hu_of hr) (pv 1) (pv 3) (pe_lst pa_nil) ⟨rfl, rfl, rfl, rfl⟩) pa_nil))) (by rfl))
          (pss_one ps_never)
          pss_nil))))), ?_⟩
    have hS : start ["lines", "ways", "number", "name", "_"] [V.ref l] = [some (.ref l), none, none, none, none] := rfl
    rw [hS]
    have htl := hk.len
    walk_at "rd"
    refine ⟨l, ts, ns, ls, rfl, hk, fun d H1 ex1 hW => ?_⟩
    have hl1 := ex1 _ _ hk.at_
    walk_at "rd"
    refine i_forET ?_
    walk_at "rd"
    refine ⟨l, ts, rfl, SqT.of hl1, ?_⟩
    refine for_it walk_enumT (fun i σ H2 => ∃ u2 u3 u4 : Option V, σ = [some (.ref l), some (.ref d), u2, u3, u4] ∧ Ex H1 H2) ⟨_, _, _, rfl, Ex.refl _⟩ (fun i σ H3 _ ⟨_, _, _, _, e⟩ => SqT.of (e _ _ hl1)) ?_ ?_
    · rintro i v _ H2 H3 hi ⟨u2, u3, u4, rfl, ex2⟩ ⟨t, x, y, rfl, ht, rfl, hx, hy⟩
      cases hx
      have e3 : Ex H2 (upd H2 t (.tup [.int (i : Nat), y])) := Ex.new ht
      obtain ⟨t2, lx, li, rfl, ht2, hlx, hli, hin, hfm⟩ := (hk.mono (ex1.trans (ex2.trans e3))).get hy
      obtain ⟨kvs, hd3, hkl, hkv⟩ := hW.mono (ex2.trans e3)
      walk_at "rd"
      refine i_get2 ?_
      walk_at "rd"
      refine ⟨d, rfl, .inl ⟨kvs, .inl hd3⟩, ?_⟩
      walk_at "rd"
      refine ⟨Nat.zero_le _, fun el nel => ?_⟩
      have e4 : Ex (upd H2 t (.tup [.int (i : Nat), .ref t2])) (upd (upd H2 t (.tup [.int (i : Nat), .ref t2])) el (.lst [])) := Ex.new nel
      refine ⟨_, DGet.k (k := Sum.inr (wAt ns i)) (e4 _ _ hd3), ?_⟩
      have start : ∃ (b : Addr) (xs : List Str), (valV kvs (Sum.inr (wAt ns i))).getD (.ref el) = .ref b ∧ upd (upd H2 t (.tup [.int (i : Nat), .ref t2])) el (.lst []) b = some (.lst (xs.map V.str)) ∧ xs.length ≤ 10 ∧ ∀ x ∈ xs, x ∈ ns ∧ Sil ns ws i x := by
        rcases hkv (wAt ns i) with hv | ⟨j, lj, gl, hj, hlj, hjn, hjw, hnl, hfj, hv, hgl⟩
        · exact ⟨el, [], by rw [hv]; rfl, upd_same, Nat.zero_le _, fun _ h => (List.not_mem_nil h).elim⟩
        · obtain rfl := wAt_inj hD.nd hin hjn hjw
          refine ⟨gl, (liG lj).map fun o => wAt ns o, by rw [hv]; rfl, by rw [List.map_map]; exact e4 _ _ hgl, by rw [List.length_map]; exact Nat.le_trans (liG_len hfj) (by decide), fun x hx => ?_⟩
          obtain ⟨g, hg, rfl⟩ := List.mem_map.mp hx
          have ho := hD.ok i lj hlj
          rw [ho.wd] at hnl
          obtain ⟨h1, h2⟩ := ho.gl g hg
          rw [← hD.len] at h1
          exact ⟨wAt_mem h1, g, h1, rfl, hnl, h2 hnl⟩
      obtain ⟨b, xs, eb, hb, hxl, hxs⟩ := start
      rw [eb]
      walk_at "rd"
      refine ⟨d, b, ns, ls, _, Sil ns ws i, xs, rfl, hW.mono ((ex2.trans e3).trans e4), hD.clo i, hb, hxl, hxs, fun fl fs H5 ex5 hfl hfs => ?_⟩
      refine i_inS (.inl (SqL.of hfl)) ?_
      rw [decide_eq_false fun hm => ?_]
      · walk_at "rd"
        exact ⟨_, _, _, rfl, ((ex2.trans e3).trans e4).trans ex5⟩
      · obtain ⟨j, hj, e, hnl, hor⟩ := hfs _ hm
        obtain rfl := wAt_inj hD.nd hin hj e
        rcases hor with h | h
        · exact hnl h
        · omega
    · rintro _ H2 ⟨u2, u3, u4, rfl, ex2⟩
      walk_at "rd"
      exact k _ (ex1.trans ex2)
theorem nf_all : ∀ x ∈ (["cut", "skip", "refuse"] : List Str), ¬ Lk x ∧ x ∉ (["set", "upto"] : List Str) := by decide +kernel
theorem nf_lk {x : Str} (h : x ∈ (["cut", "skip", "refuse"] : List Str)) : ¬ Lk x := (nf_all x h).1
theorem Drawn.first {ns ws : List Str} {ls : List Li} (h : Drawn ns ws ls) : wAt ws 0 ∉ (["cut", "skip", "refuse"] : List Str) := fun hw => by
  rcases h.wds.beg with ⟨x, hx, hk⟩ | ⟨_, ⟨x, hx, hk⟩, _⟩
  · rw [wAt_some hx] at hw
    exact nf_lk hw hk
  · rw [wAt_some hx] at hw
    exact (nf_all x hw).2 hk
def spCB : Sp := fun vs H Q _ => ∃ (l : Addr) (ts : List V) (ns ws : List Str) (ls : List Li), vs = [.ref l] ∧ Kept H l ts ns ls ∧ Drawn ns ws ls ∧ ∀ H', Ex H H' → Q .non H'
theorem ok_check_begin (T : Ptx w K mg) : FnOk P w K mg base CX0 6 T.f_check_begin T.d_check_begin ["lines"] spCB := by
  refine T.F_check_begin.ok sc_check_begin (fun vs H Q E h => ?_) (fun cdv A outer s H vs Q E hr h => ?_)
  · obtain ⟨l, ts, ns, ws, ls, rfl, _⟩ := h
    rfl
  · obtain ⟨l, ts, ns, ws, ls, rfl, hk, hD, k⟩ := h
    refine ⟨_, (pss_cons (ps_set (i := 1) sc_check_begin.nd rfl (Or.inl rfl) (pe_call (ok_reached T) (hr.mono (by decide)) rfl T.m_reached T.F_reached.kp T.b_reached .nil pass0 (pa_cons (pe_call (ok_silent_ways T) (hr.mono (by decide)) rfl T.m_silent_ways T.F_silent_ways.kp T.b_silent_ways .nil pass0 (pa_cons (pv 0) pa_nil)) (pa_cons (pe_lst (pa_cons (pe_ix ix_tup (pe_ix ix_tup (pv 0) pe_int (fun _ _ => rfl)) pe_int (fun _ _ => rfl)) pa_nil)) pa_nil))))
      (pss_one (ps_for PassesOwn.never rfl (En.pi_enumT (by rfl) T.z_enumerate (pa_cons (pv 0) pa_nil)) (pg_tup (by rfl) (pgs_cons (pg_name (i := 2) sc_check_begin.nd rfl (Or.inl rfl)) (pgs_cons (pg_tup (by rfl) (pgs_cons (pg_name (i := 3) sc_check_begin.nd rfl (Or.inl rfl)) (pgs_cons (pg_name (i := 4) sc_check_begin.nd rfl (Or.inl rfl)) pgs_nil))) pgs_nil)))
        (pss_one (ps_if (PW.pt (pw_and (pt_cmpR op_in_seq (pe_ix ix_tup (pv 4) pe_int (fun _ _ => rfl)) (pe_glob (v := .ref T.a_NEVER_FIRST) rfl T.m_NEVER_FIRST rfl) (by rfl)) (pw_and1 (pt_cmpR op_in_seq (pv 3) (pv 1) (by rfl)))))
          (pss_one ps_never)
          pss_nil))))), ?_⟩
    have hS : start ["lines", "begun", "number", "name", "line"] [V.ref l] = [some (.ref l), none, none, none, none] := rfl
    rw [hS]
    have htl := hk.len
    walk_at "rd"
    refine ⟨l, ts, ns, ls, rfl, hk, fun d H1 ex1 hW => ?_⟩
    have hl1 := ex1 _ _ hk.at_
    have h0 : 0 < ts.length := by rw [htl]; exact hk.fms.pos
    obtain ⟨t0, y0, l0, e0, ht0, _, _, hn0, _⟩ := (hk.mono ex1).get (List.getElem?_eq_getElem h0)
    walk_at "rd"
    refine Rd.i_ixT (SqT.of hl1) (atI_nat (j := 0) (by rw [List.getElem?_eq_getElem h0, e0])) ?_
    walk_at "rd"
    refine ⟨by show 1 ≤ sizeLine; decide, fun p hp => ?_⟩
    have e2 : Ex H1 (upd H1 p (.lst [.str (wAt ns 0)])) := Ex.new hp
    walk_at "rd"
    refine ⟨d, p, ns, ls, _, Beg ns ws, [wAt ns 0], rfl, hW.mono e2, hD.cloB, upd_same, by show 1 ≤ 10; decide, fun x hx => ?_, fun fl fs H5 ex5 hfl hfs => ?_⟩
    · rw [List.mem_singleton.mp hx]
      exact ⟨wAt_mem hn0, 0, hn0, rfl, .inl rfl⟩
    have e15 := e2.trans ex5
    have hl5 := e15 _ _ hl1
    walk_at "rd"
    refine i_forET ?_
    walk_at "rd"
    refine ⟨l, ts, rfl, SqT.of hl5, ?_⟩
    refine for_it walk_enumT (fun i σ H2 => ∃ u2 u3 u4 : Option V, σ = [some (.ref l), some (.ref fl), u2, u3, u4] ∧ Ex H5 H2) ⟨_, _, _, rfl, Ex.refl _⟩ (fun i σ H3 _ ⟨_, _, _, _, e⟩ => SqT.of (e _ _ hl5)) ?_ ?_
    · rintro i v _ H2 H3 hi ⟨u2, u3, u4, rfl, ex2⟩ ⟨t, x, y, rfl, ht, rfl, hx, hy⟩
      cases hx
      have e3 : Ex H2 (upd H2 t (.tup [.int (i : Nat), y])) := Ex.new ht
      obtain ⟨t2, lx, li, rfl, ht2, hlx, hli, hin, hfm⟩ := (hk.mono (ex1.trans (e15.trans (ex2.trans e3)))).get hy
      obtain ⟨t3, xs3, rfl, ht3⟩ := hlx.word
      have hfl3 := e3 _ _ (ex2 _ _ hfl)
      walk_at "rd"
      refine Rd.i_ixT (SqT.of ht3) (atI_nat (j := 0) rfl) ?_
      walk_at "rd"
      refine i_inS (ns := ["cut", "skip", "refuse"]) (.inr (T.q_NEVER_FIRST _)) ?_
      walk_at "rd"
      refine Rd.ite_d (fun hw => ?_) (fun _ => ?_)
      · walk_at "rd"
        refine i_inS (.inl (SqL.of hfl3)) ?_
        rw [decide_eq_false fun hm => ?_]
        · walk_at "rd"
          exact ⟨_, _, _, rfl, ex2.trans e3⟩
        · obtain ⟨j, hj, e, hor⟩ := hfs _ hm
          obtain rfl := wAt_inj hD.nd hin hj e
          have ho := hD.ok i li hli
          rw [ho.wd] at hw
          rcases hor with rfl | h
          · exact hD.first hw
          · exact nf_lk hw h
      · walk_at "rd"
        exact ⟨_, _, _, rfl, ex2.trans e3⟩
    · rintro _ H2 ⟨u2, u3, u4, rfl, ex2⟩
      walk_at "rd"
      exact k _ (ex1.trans (e15.trans ex2))
end
end K02

namespace K02
open PySem L2
local macro_rules | `(tactic| walk_at "rd1") => `(tactic| first
  | (with_reducible refine Rd.i_seq ?_) | (with_reducible refine Rd.i_asg ?_) | (with_reducible refine Rd.i_name ?_) | (with_reducible refine Rd.i_nx ?_) | (with_reducible refine Rd.i_rt ?_) | (with_reducible refine Rd.i_next ?_) | (with_reducible refine Rd.i_ct ?_) | (with_reducible refine Rd.i_bk ?_)
  | (with_reducible refine Rd.i_ret ?_) | (with_reducible refine Rd.i_drop ?_) | (with_reducible refine Rd.i_ifS ?_) | (with_reducible refine Rd.i_sub ?_)
  | (with_reducible refine Rd.i_var (by with_unfolding_all exact rfl) ?_) | (with_reducible refine Rd.i_c ?_) | (with_reducible refine Rd.i_op ?_) | (with_reducible refine Rd.i_un ?_)
  | (with_reducible refine Rd.i_rI0 ?_) | (with_reducible refine Rd.i_rI (by with_unfolding_all first | omega | exact Rd.mulL (by omega) (by omega) | exact Rd.mulR (by omega) (by omega) | decide | (refine ⟨?_, ?_⟩ <;> omega) | (refine ⟨?_, ?_, ?_⟩ <;> omega)) ?_)
  | (with_reducible refine Rd.i_rEq (by with_unfolding_all exact rfl) ?_) | (with_reducible refine Rd.i_rNe (by with_unfolding_all exact rfl) ?_)
  | (with_reducible refine Rd.i_test ?_) | (with_reducible refine Rd.i_tB ?_) | (with_reducible refine Rd.i_bl ?_) | (with_reducible refine Rd.i_and ?_) | (with_reducible refine Rd.i_or ?_) | (with_reducible refine Rd.i_not ?_) | (with_reducible refine Rd.i_notV ?_) | (with_reducible refine Rd.i_andV ?_) | (with_reducible refine Rd.i_orV ?_) | (with_reducible refine Rd.i_if ?_) | (with_reducible refine Rd.i_chain ?_)
  | (with_reducible refine Rd.i_call ?_) | (with_reducible refine Rd.i_nil ?_) | (with_reducible refine Rd.i_cons ?_) | (with_reducible refine Rd.i_cb ?_) | (with_reducible refine Rd.i_bm ?_) | (with_reducible refine Rd.i_bm0 ?_) | (with_reducible refine Rd.i_tup ?_) | (with_reducible refine Rd.i_lst ?_)
  | (with_reducible refine Rd.i_int1 ?_) | (with_reducible refine Rd.i_intb ?_) | (with_reducible refine Rd.i_max ?_)
  | (with_reducible refine Rd.i_ixL (SqL.of (by first | assumption | exact upd_same)) (by with_unfolding_all first | exact rfl | exact atI_nat rfl) ?_) | (with_reducible refine Rd.i_ixT (SqT.of (by first | assumption | exact upd_same)) (by with_unfolding_all exact rfl) ?_)
  | (with_reducible refine Rd.i_setL (by first | assumption | exact upd_same) (by with_unfolding_all exact rfl) ?_)
  | (with_reducible refine Xv.i_mkV ?_) | (with_reducible refine Xv.i_xat ?_)
  | (with_reducible refine Rd.i_yes ?_) | (with_reducible refine Rd.i_m1 ?_) | (with_reducible refine Rd.i_m0 ?_) | (with_reducible refine Rd.ite_T ?_) | (with_reducible refine Rd.ite_F ?_) | (with_reducible refine Rd.i_forR ?_) | (with_reducible refine Rd.i_forL ?_) | (with_reducible refine Rd.i_forT ?_)
  | (with_reducible refine Hd.i_rU ?_) | (with_reducible refine Hd.i_pcons ?_) | (with_reducible refine Hd.i_pnil ?_) | (with_reducible refine Hd.i_disp ?_) | (with_reducible refine Hd.i_dget ?_)
  | (with_reducible refine Hd.i_lstRg ?_) | (with_reducible refine Hd.i_rg1 ?_) | (with_reducible refine Hd.i_rg2 ?_) | (with_reducible refine Hd.i_ex1 ?_) | (with_reducible refine Hd.i_ex2 ?_)
  | (with_reducible refine Rd.i_gtup (SqT.of (by first | assumption | exact upd_same)) (by with_unfolding_all exact rfl) ?_) | (with_reducible refine Rd.i_gcons ?_) | (with_reducible refine Rd.i_gnil ?_)
  | (with_reducible refine Rd.i_lenT (SqT.of (by first | assumption | exact upd_same)) ?_) | (with_reducible refine Rd.i_len (SqL.of (by first | assumption | exact upd_same)) ?_)
  | (with_reducible refine Nr.ite_eF (by first | decide +kernel | with_unfolding_all exact rfl) ?_) | (with_reducible refine Nr.ite_eT (by first | decide +kernel | with_unfolding_all exact rfl) ?_)
  | (with_reducible refine Nr.i_tyL (by first | assumption | exact upd_same) ?_)
  | (with_reducible refine Nr.i_tupT (SqT.of (by first | assumption | exact upd_same)) ?_)
  | (with_reducible refine Nr.i_sl ?_) | (with_reducible refine Nr.i_part ?_) | (with_reducible refine Nr.i_nop ?_) | (with_reducible refine Nr.i_star ?_)
  | fail "stop")
local macro_rules | `(tactic| walk_at "rd") => `(tactic| repeat walk_at "rd1")
section
variable {P : Program} {w : World} {K : PySem.W.Frag} {mg : Str → Option Value} {base : Heap}
open Evl Hd
theorem i_fld {σ : L2.St} {H : Hp} {Q : VK} {ta : TE} {f : Str} (q : ta σ H fun x H1 => ∃ a C dx fs v, x = .ref a ∧ H1 a = some (.ins C dx fs) ∧ Cls K C ∧ NoAttr K C f ∧ fs.lookup f = some v ∧ Q v H1) : tFld K ta f σ H Q := q
theorem i_sfld {σ : L2.St} {H : Hp} {D : Ends} {ta tv : TE} {f : Str} (q : tv σ H fun y H1 => ta σ H1 fun x H2 => ∃ a C dx fs, x = .ref a ∧ H2 a = some (.ins C dx fs) ∧ Cls K C ∧ NoAttr K C f ∧ fs.length < 1000 ∧ D.nx σ (upd H2 a (.ins C dx (putF f y fs)))) : sFld K ta tv f D σ H := q
theorem i_meth {σ : L2.St} {H : Hp} {Q : VK} {C : Addr} {m : Str} {sp : Sp} {dvs : List V} {E : XK} {ta : TE} {t : TA} (q : ta σ H fun x H1 => ∃ a dx fs, x = .ref a ∧ H1 a = some (.ins C dx fs) ∧ fs.lookup m = none ∧ t σ H1 fun vs H2 => sp (x :: (vs ++ dvs)) H2 Q E) : tMeth C m sp dvs E ta t σ H Q := q
theorem LtAt.mutL {H : Hp} {ns : List Str} {v : V} {D : Addr} {o : HO} (h : ∀ xs, H D ≠ some (.tup xs)) : ∀ {li : Li}, LtAt H ns v li → LtAt (upd H D o) ns v li := by
  have tp : ∀ {t xs}, H t = some (.tup xs) → upd H D o t = some (.tup xs) := fun {t xs} e => by
    rw [upd_ne fun (z : t = D) => h xs (by rw [← z]; exact e)]
    exact e
  intro li
  cases li with
  | case wy q => exact fun ⟨t, l, ts, h1, h2, h3, h4⟩ => ⟨t, l, ts, h1, tp h2, tp h3, paired_mono (fun _ _ ⟨a, b, c⟩ => ⟨a, b, tp c⟩) h4⟩
  | take q => exact fun ⟨t, h1, h2⟩ => ⟨t, h1, tp h2⟩
  | num w c q => exact fun ⟨t, h1, h2⟩ => ⟨t, h1, tp h2⟩
  | upto c a b => exact fun ⟨t, h1, h2⟩ => ⟨t, h1, tp h2⟩
  | fin w => exact fun ⟨t, h1, h2⟩ => ⟨t, h1, tp h2⟩
theorem prT_any {H : Hp} {ns : List Str} {v : V} {y : Nat × Li} {D : Addr} {o : HO} (h : PrT H ns v y) (hD : ∀ xs, H D ≠ some (.tup xs)) : PrT (upd H D o) ns v y := by
  obtain ⟨t, x, h1, h2, h3⟩ := h
  refine ⟨t, x, h1, ?_, h3.mutL hD⟩
  rw [upd_ne fun (z : t = D) => hD _ (by rw [← z]; exact h2)]
  exact h2
theorem prT_mut {H : Hp} {ns : List Str} {v : V} {y : Nat × Li} {D : Addr} {o : HO} {us : List V} (h : PrT H ns v y) (hD : H D = some (.lst us)) : PrT (upd H D o) ns v y := prT_any h fun xs e => by
  rw [hD] at e
  cases e
theorem prT_mutI {H : Hp} {ns : List Str} {v : V} {y : Nat × Li} {D C dx : Addr} {fs : List (Str × V)} {o : HO} (h : PrT H ns v y) (hD : H D = some (.ins C dx fs)) : PrT (upd H D o) ns v y := prT_any h fun xs e => by
  rw [hD] at e
  cases e
/-- a reader as it stands: its lines in a tuple -/
def Rdr (C : Addr) (H : Hp) (a tp : Addr) : Prop := ∃ dx, H a = some (.ins C dx [("lines", .ref tp)])
theorem Rdr.mono {C : Addr} {H H' : Hp} {a tp : Addr} (e : Ex H H') (h : Rdr C H a tp) : Rdr C H' a tp := ⟨h.choose, e _ _ h.choose_spec⟩
theorem at_lines (T : Ptx w K mg) {H : Hp} {a tp : Addr} (h : Rdr T.c_Reader H a tp) {R : V → Prop} (q : R (.ref tp)) : ∃ a' C dx fs v, V.ref a = .ref a' ∧ H a' = some (.ins C dx fs) ∧ Cls K C ∧ NoAttr K C "lines" ∧ fs.lookup ("lines" : Str) = some v ∧ R v := by
  obtain ⟨dx, h⟩ := h
  exact ⟨a, _, dx, _, _, rfl, h, T.cl_Reader, T.n_lines, rfl, q⟩
def spInit (K : PySem.W.Frag) (C : Addr) : Sp := fun vs H Q _ => ∃ (a dx l : Addr) (ts : List V) (ns ws : List Str) (ls : List Li), vs = [.ref a, .ref l] ∧ H a = some (.ins C dx []) ∧ H l = some (.lst ts) ∧ Paired (PrN K H ns) ts (numbered ls) ∧ Drawn ns ws ls ∧
  ∀ (tp : Addr) (ts' : List V) H', Ex (hid [a] H) (hid [a] H') → Rdr C H' a tp → Kept H' tp ts' ns ls → Q .non H'
theorem ok_Reader___init (T : Ptx w K mg) : FnOk P w K mg base CX0 8 T.f_Reader___init T.d_Reader___init ["self", "lines"] (spInit K T.c_Reader) := by
  refine T.F_Reader___init.ok sc_Reader___init (fun vs H Q E h => ?_) (fun cdv A outer s H vs Q E hr h => ?_)
  · obtain ⟨a, dx, l, ts, ns, ws, ls, rfl, _⟩ := h
    rfl
  · obtain ⟨a, dx, l, ts, ns, ws, ls, rfl, ha, hl, hts, hD, k⟩ := h
    refine ⟨_, (pss_cons (ps_if (pt_cmpR op_gt (pe_callB call_len_seq (by rfl) T.z_len (by decide +kernel) (pa_cons (pv 1) pa_nil)) (pe_glob (v := .int 8) rfl T.m_MOST_LINES ⟨_, rfl⟩) (nomark _))
        (pss_one ps_never)
        pss_nil)
      (pss_cons (ps_if (pt_cmpR op_eq (pe_callB call_len_seq (by rfl) T.z_len (by decide +kernel) (pa_cons (pv 1) pa_nil)) pe_int (nomark _))
        (pss_one ps_never)
        pss_nil)
      (pss_cons (ps_expr (pe_call (ok_check_forms T) (hr.mono (by decide)) rfl T.m_check_forms T.F_check_forms.kp T.b_check_forms .nil pass0 (pa_cons (pv 1) pa_nil)))
      (pss_cons (ps_fld (pv 0) (pe_callTy Nr.call_tupR (by rfl) T.z_tuple (by decide +kernel) (pa_cons (pe_lc (g := gTup K 2 (gCons (gName 2) (gCons (gName 3) gNil))) (te := tTup (tCons (tVar 2) (tCons (tCall (spFrozen K) [] E0 (tCons (tVar 3) tNil)) tNil))) rfl sc_Reader___init.nd (pi_list (pv 1)) (blkOk_by (own := [("name", 2), ("line", 3)]) (N := ["self", "lines", "name", "line"]) (sc := defScope s_Reader___init) (by decide +kernel)) (fun _ _ _ _ _ => (pg_tup (by rfl) (pgs_cons (pg_name (i := 2) sc_Reader___init.nd rfl (Or.inl rfl)) (pgs_cons (pg_name (i := 3) sc_Reader___init.nd rfl (Or.inl rfl)) pgs_nil)))) (fun _ _ _ _ _ => pts_nil) (fun _ _ _ _ _ => (pe_tup (pa_cons (pv 2) (pa_cons (pe_call (ok_frozen T) (hr.mono (by decide)) rfl T.m_frozen T.F_frozen.kp T.b_frozen .nil pass0 (pa_cons (pv 3) pa_nil)) pa_nil))))) pa_nil)) rfl)
      (pss_cons (ps_expr (pe_call (ok_check_goals T) (hr.mono (by decide)) rfl T.m_check_goals T.F_check_goals.kp T.b_check_goals .nil pass0 (pa_cons (pe_fld (pv 0) rfl) pa_nil)))
      (pss_cons (ps_expr (pe_call (ok_check_rings T) (hr.mono (by decide)) rfl T.m_check_rings T.F_check_rings.kp T.b_check_rings .nil pass0 (pa_cons (pe_fld (pv 0) rfl) pa_nil)))
      (pss_one (ps_expr (pe_call (ok_check_begin T) (hr.mono (by decide)) rfl T.m_check_begin T.F_check_begin.kp T.b_check_begin .nil pass0 (pa_cons (pe_fld (pv 0) rfl) pa_nil)))))))))), ?_⟩
    have hS : start ["self", "lines", "name", "line"] [V.ref a, .ref l] = [some (.ref a), some (.ref l), none, none] := rfl
    rw [hS]
    have htl : ts.length = ls.length := by rw [paired_len hts, num_len]
    have hF := hD.fms
    walk_at "rd"
    have hm := hF.most
    have hp := hF.pos
    refine Rd.ite_d (fun h => absurd h (by omega)) (fun _ => ?_)
    walk_at "rd"
    refine Rd.ite_d (fun h => absurd (V.int.inj h) (by omega)) (fun _ => ?_)
    walk_at "rd"
    refine ⟨l, ts, ns, ls, rfl, hl, hts, hF, fun H1 ex1 => ?_⟩
    have hl1 := ex1 _ _ hl
    walk_at "rd"
    refine i_sfld ?_
    walk_at "rd"
    refine Rd.i_lcL ?_
    walk_at "rd"
    refine Rd.lcL (xs := ts) (SqL.of hl1) (fun D hD0 => ⟨fun i H2 => ∃ us : List V, H2 D = some (.lst us) ∧ us.length = i ∧ Paired (PrT H2 ns) us ((numbered ls).take i) ∧ Ex H1 H2, ⟨[], upd_same, rfl, .nil, Ex.new hD0⟩, fun i H2 _ ⟨_, _, _, _, e⟩ => SqL.of (e _ _ hl1), ?_, ?_⟩)
    · rintro i x H2 hx ⟨us, hDl, hul, hus, ex2⟩
      obtain ⟨⟨j, li⟩, hj, t2, lx, rfl, ht2, hlx⟩ := paired_get hts hx
      obtain ⟨rfl, hj2⟩ := num_get hj
      have ht3 := ex2 _ _ (ex1 _ _ ht2)
      have hjl := (List.getElem?_eq_some_iff.mp hx).1
      walk_at "rd"
      refine ⟨rfl, ?_⟩
      walk_at "rd"
      refine ⟨lx, ns, li, rfl, hlx.mono (ex1.trans ex2), hF.fm _ (List.mem_of_getElem? hj2), fun v' H3 ex3 hv' => ?_⟩
      walk_at "rd"
      refine ⟨by show 2 ≤ sizeLine; decide, fun p hp => ?_⟩
      have hD3 := ex3 _ _ hDl
      have e4 : Ex H3 (upd H3 p (.tup [.str (wAt ns j), v'])) := Ex.new hp
      have pD : p ≠ D := fun e => by rw [e, hD3] at hp; cases hp
      have keepT : ∀ {v : V} {y : Nat × Li}, PrT H3 ns v y → PrT (upd (upd H3 p (.tup [.str (wAt ns j), v'])) D (.lst (us ++ [.ref p]))) ns v y := fun h => prT_mut (h.mono' e4) (e4 _ _ hD3)
      refine ⟨us, e4 _ _ hD3, small1000 (by omega), us ++ [.ref p], upd_same, by rw [List.length_append, hul]; rfl, ?_, ex_mut ((ex2.trans ex3).trans e4) hD0⟩
      rw [List.take_succ, hj]
      refine paired_app (paired_mono (fun v y h => keepT (h.mono' ex3)) hus) (.cons (prT_mut ⟨p, v', rfl, upd_same, hv'.mono e4⟩ (e4 _ _ hD3)) .nil)
    · rintro H2 ⟨us, hDl, hul, hus, ex2⟩
      have e12 := ex1.trans ex2
      walk_at "rd"
      refine Nr.i_tupL (SqL.of hDl) (fun tp htp => ?_)
      have e3 : Ex H2 (upd H2 tp (.tup us)) := Ex.new htp
      have ha3 := e3 _ _ (e12 _ _ ha)
      walk_at "rd"
      have hata : tp ≠ a := fun e => by rw [e, upd_same] at ha3; cases ha3
      rw [htl, ← num_len ls, List.take_length] at hus
      have hK : Kept (upd (upd H2 tp (.tup us)) a (.ins T.c_Reader dx [("lines", .ref tp)])) tp us ns ls := ⟨by rw [upd_ne hata]; exact upd_same, paired_mono (fun v y h => prT_mutI (h.mono' e3) ha3) hus, hF⟩
      refine ⟨a, T.c_Reader, dx, [], rfl, ha3, T.cl_Reader, T.n_lines, by decide, ?_⟩
      have hA : upd (upd H2 tp (.tup us)) a (.ins T.c_Reader dx (putF "lines" (.ref tp) [])) a = some (.ins T.c_Reader dx [("lines", .ref tp)]) := upd_same
      have exA : Ex (hid [a] H) (hid [a] (upd (upd H2 tp (.tup us)) a (.ins T.c_Reader dx (putF "lines" (.ref tp) [])))) := by
        rw [hid_upd List.mem_cons_self]
        exact hid_ex (e12.trans e3)
      have hK' : Kept (upd (upd H2 tp (.tup us)) a (.ins T.c_Reader dx (putF "lines" (.ref tp) []))) tp us ns ls := hK
      generalize upd (upd H2 tp (.tup us)) a (.ins T.c_Reader dx (putF "lines" (.ref tp) [])) = H5 at hA exA hK'
      have hR : Rdr T.c_Reader H5 a tp := ⟨dx, hA⟩
      walk_at "rd"
      refine i_fld ?_
      walk_at "rd"
      refine at_lines T hR ?_
      walk_at "rd"
      refine ⟨tp, us, ns, ls, rfl, hK', hD.rng, fun H6 ex6 => ?_⟩
      walk_at "rd"
      refine i_fld ?_
      walk_at "rd"
      refine at_lines T (hR.mono ex6) ?_
      walk_at "rd"
      refine ⟨tp, us, ns, ws, ls, rfl, hK'.mono ex6, hD, fun H7 ex7 => ?_⟩
      have ex57 := ex6.trans ex7
      walk_at "rd"
      refine i_fld ?_
      walk_at "rd"
      refine at_lines T (hR.mono ex57) ?_
      walk_at "rd"
      refine ⟨tp, us, ns, ws, ls, rfl, hK'.mono ex57, hD, fun H8 ex8 => ?_⟩
      have ex58 := ex57.trans ex8
      walk_at "rd"
      exact k tp us H8 (exA.trans (hid_ex ex58)) ⟨dx, ex58 _ _ hA⟩ (hK'.mono ex58)
end
end K02

namespace K02
open PySem L2
local macro_rules | `(tactic| walk_at "rd1") => `(tactic| first
  | (with_reducible refine Rd.i_seq ?_) | (with_reducible refine Rd.i_asg ?_) | (with_reducible refine Rd.i_name ?_) | (with_reducible refine Rd.i_nx ?_) | (with_reducible refine Rd.i_rt ?_) | (with_reducible refine Rd.i_next ?_) | (with_reducible refine Rd.i_ct ?_) | (with_reducible refine Rd.i_bk ?_)
  | (with_reducible refine Rd.i_ret ?_) | (with_reducible refine Rd.i_drop ?_) | (with_reducible refine Rd.i_ifS ?_) | (with_reducible refine Rd.i_sub ?_)
  | (with_reducible refine Rd.i_var (by with_unfolding_all exact rfl) ?_) | (with_reducible refine Rd.i_c ?_) | (with_reducible refine Rd.i_op ?_) | (with_reducible refine Rd.i_un ?_)
  | (with_reducible refine Rd.i_rI0 ?_) | (with_reducible refine Rd.i_rI (by with_unfolding_all first | omega | exact Rd.mulL (by omega) (by omega) | exact Rd.mulR (by omega) (by omega) | decide | (refine ⟨?_, ?_⟩ <;> omega) | (refine ⟨?_, ?_, ?_⟩ <;> omega)) ?_)
  | (with_reducible refine Rd.i_rEq (by with_unfolding_all exact rfl) ?_) | (with_reducible refine Rd.i_rNe (by with_unfolding_all exact rfl) ?_)
  | (with_reducible refine Rd.i_test ?_) | (with_reducible refine Rd.i_tB ?_) | (with_reducible refine Rd.i_bl ?_) | (with_reducible refine Rd.i_and ?_) | (with_reducible refine Rd.i_or ?_) | (with_reducible refine Rd.i_not ?_) | (with_reducible refine Rd.i_notV ?_) | (with_reducible refine Rd.i_andV ?_) | (with_reducible refine Rd.i_orV ?_) | (with_reducible refine Rd.i_if ?_) | (with_reducible refine Rd.i_chain ?_)
  | (with_reducible refine Rd.i_call ?_) | (with_reducible refine Rd.i_nil ?_) | (with_reducible refine Rd.i_cons ?_) | (with_reducible refine Rd.i_cb ?_) | (with_reducible refine Rd.i_bm ?_) | (with_reducible refine Rd.i_bm0 ?_) | (with_reducible refine Rd.i_tup ?_) | (with_reducible refine Rd.i_lst ?_)
  | (with_reducible refine Rd.i_int1 ?_) | (with_reducible refine Rd.i_intb ?_) | (with_reducible refine Rd.i_max ?_)
  | (with_reducible refine Rd.i_ixL (SqL.of (by first | assumption | exact upd_same)) (by with_unfolding_all first | exact rfl | exact atI_nat rfl) ?_) | (with_reducible refine Rd.i_ixT (SqT.of (by first | assumption | exact upd_same)) (by with_unfolding_all exact rfl) ?_)
  | (with_reducible refine Rd.i_setL (by first | assumption | exact upd_same) (by with_unfolding_all exact rfl) ?_)
  | (with_reducible refine Xv.i_mkV ?_) | (with_reducible refine Xv.i_xat ?_)
  | (with_reducible refine Rd.i_yes ?_) | (with_reducible refine Rd.i_m1 ?_) | (with_reducible refine Rd.i_m0 ?_) | (with_reducible refine Rd.ite_T ?_) | (with_reducible refine Rd.ite_F ?_) | (with_reducible refine Rd.i_forR ?_) | (with_reducible refine Rd.i_forL ?_) | (with_reducible refine Rd.i_forT ?_)
  | (with_reducible refine Hd.i_rU ?_) | (with_reducible refine Hd.i_pcons ?_) | (with_reducible refine Hd.i_pnil ?_) | (with_reducible refine Hd.i_disp ?_) | (with_reducible refine Hd.i_dget ?_)
  | (with_reducible refine Hd.i_lstRg ?_) | (with_reducible refine Hd.i_rg1 ?_) | (with_reducible refine Hd.i_rg2 ?_) | (with_reducible refine Hd.i_ex1 ?_) | (with_reducible refine Hd.i_ex2 ?_)
  | (with_reducible refine Rd.i_gtup (SqT.of (by first | assumption | exact upd_same)) (by with_unfolding_all exact rfl) ?_) | (with_reducible refine Rd.i_gcons ?_) | (with_reducible refine Rd.i_gnil ?_)
  | (with_reducible refine Rd.i_lenT (SqT.of (by first | assumption | exact upd_same)) ?_) | (with_reducible refine Rd.i_len (SqL.of (by first | assumption | exact upd_same)) ?_)
  | (with_reducible refine Nr.ite_eF (by first | decide +kernel | with_unfolding_all exact rfl) ?_) | (with_reducible refine Nr.ite_eT (by first | decide +kernel | with_unfolding_all exact rfl) ?_)
  | (with_reducible refine Nr.i_tyL (by first | assumption | exact upd_same) ?_)
  | (with_reducible refine Nr.i_tupT (SqT.of (by first | assumption | exact upd_same)) ?_)
  | (with_reducible refine Nr.i_sl ?_) | (with_reducible refine Nr.i_part ?_) | (with_reducible refine Nr.i_nop ?_) | (with_reducible refine Nr.i_star ?_)
  | fail "stop")
local macro_rules | `(tactic| walk_at "rd") => `(tactic| repeat walk_at "rd1")
abbrev s_joined : Stmt := topS 45
theorem sc_joined : FnScope ["pairs", "runs", "count", "cell"] ["pairs"] (defScope s_joined) := ⟨rfl, rfl, rfl, by decide +kernel, rfl, by decide +kernel, by decide +kernel⟩

abbrev s_row_of : Stmt := topS 43
theorem sc_row_of : FnScope ["row"] ["row"] (defScope s_row_of) := ⟨rfl, rfl, rfl, by decide +kernel, rfl, by decide +kernel, by decide +kernel⟩

abbrev s_Row___init : Stmt := inClass (topS 42) 0
theorem sc_Row___init : FnScope ["self", "cells", "cell"] ["self", "cells"] (defScope s_Row___init) := ⟨rfl, rfl, rfl, by decide +kernel, rfl, by decide +kernel, by decide +kernel⟩

abbrev s_Row_size : Stmt := inClass (topS 42) 3
theorem sc_Row_size : FnScope ["self", "count", "_"] ["self"] (defScope s_Row_size) := ⟨rfl, rfl, rfl, by decide +kernel, rfl, by decide +kernel, by decide +kernel⟩

/-- what stands of the rows -/
structure Rtx (w : World) (K : PySem.W.Frag) (mg : Str → Option Value) where
  p : Ptx w K mg
  z_len : mg "len" = none
  z_tuple : mg "tuple" = none
  z_sum : mg "sum" = none
  z_isinstance : mg "isinstance" = none
  t_R : Tok
  t_C : Tok
  m_MOST_RUNS : mg "MOST_RUNS" = some (.int 1000 t_R)
  m_MOST_CELLS : mg "MOST_CELLS" = some (.int 1000 t_C)
  f_joined : Addr
  d_joined : FuncData
  F_joined : Fun K "_joined" "_joined" s_joined f_joined d_joined
  b_joined : Binds K d_joined ["pairs"] []
  m_joined : mg "_joined" = some (.ref f_joined)
  f_row_of : Addr
  d_row_of : FuncData
  F_row_of : Fun K "row_of" "row_of" s_row_of f_row_of d_row_of
  b_row_of : Binds K d_row_of ["row"] []
  m_row_of : mg "row_of" = some (.ref f_row_of)
  c_Row : Addr
  m_Row : mg "Row" = some (.ref c_Row)
  cl_Row : Cls K c_Row
  n_runs : NoAttr K c_Row "runs"
  f_Row___init : Addr
  d_Row___init : FuncData
  v_Row : V
  F_Row___init : FunD K "__init__" "Row.__init__" (defArgs s_Row___init) (defBody s_Row___init) (defScope s_Row___init) [v_Row] [] f_Row___init d_Row___init
  b_Row___init : Binds K d_Row___init ["self", "cells"] []
  mk_Row : Mk K c_Row f_Row___init
  a_size : Addr
  f_Row_size : Addr
  d_Row_size : FuncData
  F_Row_size : Fun K "size" "Row.size" s_Row_size f_Row_size d_Row_size
  b_Row_size : Binds K d_Row_size ["self"] []
  h_size : PropOf K c_Row "size" a_size f_Row_size
section
variable {P : Program} {w : World} {K : PySem.W.Frag} {mg : Str → Option Value} {base : Heap}
open Evl Hd
def RnAt (H : Hp) (v : V) (r : Jn.Rn) : Prop := ∃ a, v = .ref a ∧ H a = some (.tup [.int r.1, .int r.2])
theorem RnAt.mono {H H' : Hp} {v : V} {r : Jn.Rn} (e : Ex H H') (h : RnAt H v r) : RnAt H' v r := by
  obtain ⟨a, h1, h2⟩ := h
  exact ⟨a, h1, e _ _ h2⟩
theorem RnAt.mut {H : Hp} {v : V} {r : Jn.Rn} {D : Addr} {us : List V} {o : HO} (h : RnAt H v r) (hD : H D = some (.lst us)) : RnAt (upd H D o) v r := by
  obtain ⟨a, h1, h2⟩ := h
  refine ⟨a, h1, ?_⟩
  rw [upd_ne fun (z : a = D) => by rw [z, hD] at h2; cases h2]
  exact h2
theorem paired_last {α β : Type} {F : α → β → Prop} : ∀ {l : List α} {m : List β}, Paired F l m → ∀ {y : β}, m.getLast? = some y → ∃ l' x, l = l' ++ [x] ∧ F x y ∧ Paired F l' m.dropLast
  | _, _, .nil, y, h => by cases h
  | _, _, .cons (a := a) (b := b) r .nil, y, h => by
    cases h
    exact ⟨[], a, rfl, r, .nil⟩
  | _, _, .cons (a := a) (b := b) r (.cons (a := a2) (b := b2) r2 t), y, h => by
    obtain ⟨l', x, e, hx, ht⟩ := paired_last (.cons r2 t) (y := y) (by rw [List.getLast?_cons_cons] at h; exact h)
    exact ⟨a :: l', x, by rw [e]; rfl, hx, .cons r ht⟩
theorem ixN_last {l : List V} {x : V} : ixN (l ++ [x]).length (-1) = some l.length := by
  have e : (l ++ [x]).length = l.length + 1 := by rw [List.length_append]; rfl
  rw [e]
  unfold ixN
  first
  | (simp; done)
  | (simp; omega)
theorem at_last {l : List V} {x : V} : atI (l ++ [x]) (-1) = some x := by
  unfold atI
  rw [ixN_last]
  simp
theorem set_last {l : List V} {x y : V} : (l ++ [x]).set l.length y = l ++ [y] := by
  rw [List.set_append_right _ _ (Nat.le_refl _), Nat.sub_self]
  rfl
def spJoined (K : PySem.W.Frag) : Sp := fun vs H Q _ => ∃ (l : Addr) (ts : List V) (ps : List Jn.Rn), vs = [.ref l] ∧ Nr.Sq K H l ts ∧ Paired (RnAt H) ts ps ∧ ps.length ≤ 900 ∧ ∀ tp us H', Ex H H' → H' tp = some (.tup us) → Paired (RnAt H') us (Jn.joinR ps) → Q (.ref tp) H'
theorem ok_joined (T : Rtx w K mg) : FnOk P w K mg base CX0 1 T.f_joined T.d_joined ["pairs"] (spJoined K) := by
  refine T.F_joined.ok sc_joined (fun vs H Q E h => ?_) (fun cdv A outer s H vs Q E hr h => ?_)
  · obtain ⟨l, ts, ps, rfl, _⟩ := h
    rfl
  · obtain ⟨l, ts, ps, rfl, hl, hts, hlen, k⟩ := h
    refine ⟨_, (pss_cons (ps_set (i := 1) sc_joined.nd rfl (Or.inl rfl) (pe_lst pa_nil))
      (pss_cons (ps_for PassesOwn.never rfl (Nr.pi_seq (pv 0)) (pg_tup (by rfl) (pgs_cons (pg_name (i := 2) sc_joined.nd rfl (Or.inl rfl)) (pgs_cons (pg_name (i := 3) sc_joined.nd rfl (Or.inl rfl)) pgs_nil)))
        (pss_cons (ps_if (pt_cmpR op_eq (pv 2) pe_int (nomark _))
          (pss_one ps_continue)
          pss_nil)
        (pss_one (ps_if (PW.pt (pw_and (pt_truth (pv 1) (by intro _; rfl)) (pw_and1 (pt_cmpR op_eq (pe_ix ix_tup (pe_ix ix_list (pv 1) (pe_un un_neg pe_int) (fun _ _ => rfl)) pe_int (fun _ _ => rfl)) (pv 3) (nomark _)))))
          (pss_one (ps_asg (pe_tup (pa_cons (pe_op op_add (pe_ix ix_tup (pe_ix ix_list (pv 1) (pe_un un_neg pe_int) (fun _ _ => rfl)) pe_int (fun _ _ => rfl)) (pv 2)) (pa_cons (pv 3) pa_nil))) (pg_sub (pv 1) (pe_un un_neg pe_int) set_list)))
          (pss_one (ps_expr (pe_bm PySem.F.plainAttrs_list PySem.F.slot_list_append PySem.F.type_list_append mt_append (pv 1) (pa_cons (pe_tup (pa_cons (pv 2) (pa_cons (pv 3) pa_nil))) pa_nil))))))))
      (pss_cons (ps_if (pt_cmpR op_gt (pe_callB call_len_seq (by rfl) T.z_len (by decide +kernel) (pa_cons (pv 1) pa_nil)) (pe_glob (v := .int 1000) rfl T.m_MOST_RUNS ⟨_, rfl⟩) (nomark _))
        (pss_one ps_never)
        pss_nil)
      (pss_one (ps_ret (pe_callTy Nr.call_tupR (by rfl) T.z_tuple (by decide +kernel) (pa_cons (pv 1) pa_nil))))))), ?_⟩
    have hS : start ["pairs", "runs", "count", "cell"] [V.ref l] = [some (.ref l), none, none, none] := rfl
    rw [hS]
    have htl := paired_len hts
    walk_at "rd"
    refine ⟨Nat.zero_le _, fun D nD => ?_⟩
    walk_at "rd"
    refine Nr.i_forS ?_
    walk_at "rd"
    refine Nr.forS hl (fun i σ H2 => ∃ (us : List V) (u2 u3 : Option V), σ = [some (.ref l), some (.ref D), u2, u3] ∧ H2 D = some (.lst us) ∧ Paired (RnAt H2) us (Jn.joinR (ps.take i)) ∧ Ex H H2) ⟨[], _, _, rfl, upd_same, .nil, Ex.new nD⟩ (fun _ _ _ ⟨_, _, _, _, _, _, e⟩ => e) ?_ ?_
    · rintro i x _ H2 hx ⟨us, u2, u3, rfl, hD2, hus, ex2⟩
      obtain ⟨y, hy, a, rfl, ha⟩ := paired_get hts hx
      have ha2 := ex2 _ _ ha
      have hsn : ps.take (i + 1) = ps.take i ++ [y] := by rw [List.take_succ, hy]; rfl
      have hil := (List.getElem?_eq_some_iff.mp hx).1
      have hul : us.length ≤ i := by
        have h1 := paired_len hus
        have h2 := Jn.join_len (ps.take i)
        rw [List.length_take] at h2
        omega
      walk_at "rd"
      refine Rd.ite_vi (fun h0 => ?_) (fun h0 => ?_)
      · walk_at "rd"
        refine ⟨us, _, _, rfl, hD2, ?_, ex2⟩
        rw [hsn, Jn.join_snoc]
        unfold Jn.jstep
        rw [if_pos h0]
        exact hus
      · walk_at "rd"
        refine ⟨!us.isEmpty, .inl ⟨_, SqL.of hD2, rfl⟩, ?_⟩
        have push : ∀ t, H2 t = none → Jn.joinR (ps.take (i + 1)) = Jn.joinR (ps.take i) ++ [y] → ∃ (us' : List V) (v2 v3 : Option V), [some (V.ref l), some (.ref D), some (.int y.1), some (.int y.2)] = [some (.ref l), some (.ref D), v2, v3] ∧ upd (upd H2 t (.tup [.int y.1, .int y.2])) D (.lst (us ++ [.ref t])) D = some (.lst us') ∧ Paired (RnAt (upd (upd H2 t (.tup [.int y.1, .int y.2])) D (.lst (us ++ [.ref t])))) us' (Jn.joinR (ps.take (i + 1))) ∧ Ex H (upd (upd H2 t (.tup [.int y.1, .int y.2])) D (.lst (us ++ [.ref t]))) := fun t nt e => by
          have e3 : Ex H2 (upd H2 t (.tup [.int y.1, .int y.2])) := Ex.new nt
          have hD3 := e3 _ _ hD2
          refine ⟨_, _, _, rfl, upd_same, ?_, ex_mut (ex2.trans e3) nD⟩
          rw [e]
          exact paired_app (paired_mono (fun v r h => (h.mono e3).mut hD3) hus) (.cons (RnAt.mut ⟨t, rfl, upd_same⟩ hD3) .nil)
        cases hlast : (Jn.joinR (ps.take i)).getLast? with
        | none =>
          have hnil : us = [] := by
            have h1 := List.getLast?_eq_none_iff.mp hlast
            rw [h1] at hus
            cases hus
            rfl
          subst hnil
          walk_at "rd"
          refine ⟨by show 2 ≤ sizeLine; decide, fun t nt => ?_⟩
          have hD3 := (Ex.new (o := .tup [.int y.1, .int y.2]) nt) _ _ hD2
          walk_at "rd"
          refine Rd.i_append hD3 (small1000 (by show 0 ≤ 1000; omega)) ?_
          walk_at "rd"
          refine push t nt ?_
          rw [hsn, Jn.join_snoc]
          unfold Jn.jstep
          rw [if_neg h0, hlast]
        | some r =>
          obtain ⟨us', x', rfl, ⟨b, rfl, hb⟩, hus'⟩ := paired_last hus hlast
          rw [show (!(us' ++ [V.ref b]).isEmpty) = true by cases us' <;> rfl]
          walk_at "rd"
          refine Rd.i_ixL (SqL.of hD2) at_last ?_
          walk_at "rd"
          refine Rd.ite_vi (fun hc => ?_) (fun hc => ?_)
          · walk_at "rd"
            refine Rd.i_ixL (SqL.of hD2) at_last ?_
            walk_at "rd"
            refine ⟨by show 2 ≤ sizeLine; decide, fun t nt => ?_⟩
            have e3 : Ex H2 (upd H2 t (.tup [.int (r.1 + y.1), .int y.2])) := Ex.new nt
            have hD3 := e3 _ _ hD2
            walk_at "rd"
            refine Rd.i_setL hD3 ixN_last ?_
            rw [set_last]
            refine ⟨_, _, _, rfl, upd_same, ?_, ex_mut (ex2.trans e3) nD⟩
            have hs := Jn.last_split hlast
            have hj : Jn.joinR (ps.take (i + 1)) = (Jn.joinR (ps.take i)).dropLast ++ [(r.1 + y.1, y.2)] := by
              rw [hsn, Jn.join_snoc]
              unfold Jn.jstep
              rw [if_neg h0, hlast]
              exact if_pos hc
            rw [hj]
            exact paired_app (paired_mono (fun v r h => (h.mono e3).mut hD3) hus') (.cons (RnAt.mut ⟨t, rfl, upd_same⟩ hD3) .nil)
          · walk_at "rd"
            refine ⟨by show 2 ≤ sizeLine; decide, fun t nt => ?_⟩
            have hD3 := (Ex.new (o := .tup [.int y.1, .int y.2]) nt) _ _ hD2
            walk_at "rd"
            refine Rd.i_append hD3 (small1000 (by omega)) ?_
            walk_at "rd"
            refine push t nt ?_
            rw [hsn, Jn.join_snoc]
            unfold Jn.jstep
            rw [if_neg h0, hlast]
            exact if_neg hc
    · rintro _ H2 ⟨us, u2, u3, rfl, hD2, hus, ex2⟩
      rw [htl, List.take_length] at hus
      have hul : us.length ≤ 900 := by
        have h1 := paired_len hus
        have h2 := Jn.join_len ps
        omega
      walk_at "rd"
      refine Rd.ite_d (fun h => absurd h (by omega)) (fun _ => ?_)
      walk_at "rd"
      refine Nr.i_tupL (SqL.of hD2) (fun tp ntp => ?_)
      have e3 : Ex H2 (upd H2 tp (.tup us)) := Ex.new ntp
      exact k tp us _ (ex2.trans e3) upd_same (paired_mono (fun v r h => h.mono e3) hus)
end
end K02

namespace K02
open PySem L2
local macro_rules | `(tactic| walk_at "rd1") => `(tactic| first
  | (with_reducible refine Rd.i_seq ?_) | (with_reducible refine Rd.i_asg ?_) | (with_reducible refine Rd.i_name ?_) | (with_reducible refine Rd.i_nx ?_) | (with_reducible refine Rd.i_rt ?_) | (with_reducible refine Rd.i_next ?_) | (with_reducible refine Rd.i_ct ?_) | (with_reducible refine Rd.i_bk ?_)
  | (with_reducible refine Rd.i_ret ?_) | (with_reducible refine Rd.i_drop ?_) | (with_reducible refine Rd.i_ifS ?_) | (with_reducible refine Rd.i_sub ?_)
  | (with_reducible refine Rd.i_var (by with_unfolding_all exact rfl) ?_) | (with_reducible refine Rd.i_c ?_) | (with_reducible refine Rd.i_op ?_) | (with_reducible refine Rd.i_un ?_)
  | (with_reducible refine Rd.i_rI0 ?_) | (with_reducible refine Rd.i_rI (by with_unfolding_all first | omega | exact Rd.mulL (by omega) (by omega) | exact Rd.mulR (by omega) (by omega) | decide | (refine ⟨?_, ?_⟩ <;> omega) | (refine ⟨?_, ?_, ?_⟩ <;> omega)) ?_)
  | (with_reducible refine Rd.i_rEq (by with_unfolding_all exact rfl) ?_) | (with_reducible refine Rd.i_rNe (by with_unfolding_all exact rfl) ?_)
  | (with_reducible refine Rd.i_test ?_) | (with_reducible refine Rd.i_tB ?_) | (with_reducible refine Rd.i_bl ?_) | (with_reducible refine Rd.i_and ?_) | (with_reducible refine Rd.i_or ?_) | (with_reducible refine Rd.i_not ?_) | (with_reducible refine Rd.i_notV ?_) | (with_reducible refine Rd.i_andV ?_) | (with_reducible refine Rd.i_orV ?_) | (with_reducible refine Rd.i_if ?_) | (with_reducible refine Rd.i_chain ?_)
  | (with_reducible refine Rd.i_call ?_) | (with_reducible refine Rd.i_nil ?_) | (with_reducible refine Rd.i_cons ?_) | (with_reducible refine Rd.i_cb ?_) | (with_reducible refine Rd.i_bm ?_) | (with_reducible refine Rd.i_bm0 ?_) | (with_reducible refine Rd.i_tup ?_) | (with_reducible refine Rd.i_lst ?_)
  | (with_reducible refine Rd.i_int1 ?_) | (with_reducible refine Rd.i_intb ?_) | (with_reducible refine Rd.i_max ?_)
  | (with_reducible refine Rd.i_ixL (SqL.of (by first | assumption | exact upd_same)) (by with_unfolding_all first | exact rfl | exact atI_nat rfl) ?_) | (with_reducible refine Rd.i_ixT (SqT.of (by first | assumption | exact upd_same)) (by with_unfolding_all exact rfl) ?_)
  | (with_reducible refine Rd.i_setL (by first | assumption | exact upd_same) (by with_unfolding_all exact rfl) ?_)
  | (with_reducible refine Xv.i_mkV ?_) | (with_reducible refine Xv.i_xat ?_)
  | (with_reducible refine Rd.i_yes ?_) | (with_reducible refine Rd.i_m1 ?_) | (with_reducible refine Rd.i_m0 ?_) | (with_reducible refine Rd.ite_T ?_) | (with_reducible refine Rd.ite_F ?_) | (with_reducible refine Rd.i_forR ?_) | (with_reducible refine Rd.i_forL ?_) | (with_reducible refine Rd.i_forT ?_)
  | (with_reducible refine Hd.i_rU ?_) | (with_reducible refine Hd.i_pcons ?_) | (with_reducible refine Hd.i_pnil ?_) | (with_reducible refine Hd.i_disp ?_) | (with_reducible refine Hd.i_dget ?_)
  | (with_reducible refine Hd.i_lstRg ?_) | (with_reducible refine Hd.i_rg1 ?_) | (with_reducible refine Hd.i_rg2 ?_) | (with_reducible refine Hd.i_ex1 ?_) | (with_reducible refine Hd.i_ex2 ?_)
  | (with_reducible refine Rd.i_gtup (SqT.of (by first | assumption | exact upd_same)) (by with_unfolding_all exact rfl) ?_) | (with_reducible refine Rd.i_gcons ?_) | (with_reducible refine Rd.i_gnil ?_)
  | (with_reducible refine Rd.i_lenT (SqT.of (by first | assumption | exact upd_same)) ?_) | (with_reducible refine Rd.i_len (SqL.of (by first | assumption | exact upd_same)) ?_)
  | (with_reducible refine Nr.ite_eF (by first | decide +kernel | with_unfolding_all exact rfl) ?_) | (with_reducible refine Nr.ite_eT (by first | decide +kernel | with_unfolding_all exact rfl) ?_)
  | (with_reducible refine Nr.i_tyL (by first | assumption | exact upd_same) ?_)
  | (with_reducible refine Nr.i_tupT (SqT.of (by first | assumption | exact upd_same)) ?_)
  | (with_reducible refine Nr.i_sl ?_) | (with_reducible refine Nr.i_part ?_) | (with_reducible refine Nr.i_nop ?_) | (with_reducible refine Nr.i_star ?_)
  | fail "stop")
local macro_rules | `(tactic| walk_at "rd") => `(tactic| repeat walk_at "rd1")
section
variable {P : Program} {w : World} {K : PySem.W.Frag} {mg : Str → Option Value} {base : Heap}
open Evl Hd
theorem funD_ok {x qual : Str} {st : Stmt} {dvs : List V} {kws : List (Str × V)} {f : Addr} {fd : FuncData} {N ps : List Str} {k : Nat} {sp : Sp} (F : FunD K x qual (defArgs st) (defBody st) (defScope st) dvs kws f fd) (S : FnScope N ps (defScope st)) (len : ∀ vs H Q E, sp vs H Q E → vs.length = ps.length)
    (hbody : ∀ (cdv : Value) (A : Around) (outer : List Env) (s : Shared) (H : Hp) (vs : List V) (Q : VK) (E : XK), Room k (A.deeper (PyProof.Rows.envOfC qual (defScope st) s.heap.objs.size f cdv)) → sp vs H Q E →
      ∃ t, PSs (cxOf CX0 P w K mg base N qual (defScope st) f cdv A outer s H E).nox (defBody st) t ∧ t { nx := fun _ H' => Q .non H', rt := Q } (start N vs) H) : FnOk P w K mg base CX0 (k + 1) f fd ps sp :=
  F.ok S len fun cdv A outer s H vs Q E hr hsp => by
    obtain ⟨t, h, q⟩ := hbody cdv A outer s H vs Q E hr hsp
    exact ⟨t, h.nox, q⟩
theorem i_make {σ : L2.St} {H : Hp} {Q : VK} {C : Addr} {sp : Sp} {dvs : List V} {E : XK} {t : TA} (q : t σ H fun vs H1 => ∀ x dx, H1 x = none → H1 dx = none → dx ≠ x → sp (.ref x :: (vs ++ dvs)) (upd (upd H1 dx (.own x)) x (.ins C dx [])) (fun v H2 => v = .non ∧ Q (.ref x) H2) E) : tMake C sp dvs E t σ H Q := q
/-- a row as it stands: its runs -/
def RowAt (C : Addr) (H : Hp) (a : Addr) (rs : List Jn.Rn) : Prop := ∃ dx tp us, H a = some (.ins C dx [("runs", .ref tp)]) ∧ H tp = some (.tup us) ∧ Paired (RnAt H) us rs
theorem RowAt.mono {C : Addr} {H H' : Hp} {a : Addr} {rs : List Jn.Rn} (e : Ex H H') (h : RowAt C H a rs) : RowAt C H' a rs := by
  obtain ⟨dx, tp, us, h1, h2, h3⟩ := h
  exact ⟨dx, tp, us, e _ _ h1, e _ _ h2, paired_mono (fun v r h => h.mono e) h3⟩
def ones (cs : List Int) : List Jn.Rn := cs.map fun c => ((1 : Int), c)
def spRowInit (K : PySem.W.Frag) (C : Addr) : Sp := fun vs H Q _ => ∃ (a dx l : Addr) (cs : List Int), vs = [.ref a, .ref l] ∧ H a = some (.ins C dx []) ∧ Nr.Sq K H l (cs.map V.int) ∧ (∀ c ∈ cs, 0 ≤ c) ∧ cs.length ≤ 900 ∧ ∀ H', Ex (hid [a] H) (hid [a] H') → RowAt C H' a (Jn.joinR (ones cs)) → Q .non H'
theorem ok_Row___init (T : Rtx w K mg) : FnOk P w K mg base CX0 2 T.f_Row___init T.d_Row___init ["self", "cells"] (spRowInit K T.c_Row) := by
  refine funD_ok T.F_Row___init sc_Row___init (fun vs H Q E h => ?_) (fun cdv A outer s H vs Q E hr h => ?_)
  · obtain ⟨a, dx, l, cs, rfl, _⟩ := h
    rfl
  · obtain ⟨a, dx, l, cs, rfl, ha, hl, hc, hn, k⟩ := h
    refine ⟨_, (pss_cons (ps_for PassesOwn.never rfl (Nr.pi_seq (pv 1)) (pg_name (i := 2) sc_Row___init.nd rfl (Or.inl rfl))
        (pss_one (ps_if (pt_cmpR op_lt (pv 2) pe_int (nomark _))
          (pss_one ps_never)
          pss_nil)))
      (pss_one (ps_fld (pv 0) (pe_call (ok_joined T) (hr.mono (by decide)) rfl T.m_joined T.F_joined.kp T.b_joined .nil pass0 (pa_cons (pe_lc rfl sc_Row___init.nd (Nr.pi_seq (pv 1)) (blkOk_by (own := [("cell", 2)]) (N := ["self", "cells", "cell"]) (sc := defScope s_Row___init) (by decide +kernel)) (fun _ _ _ _ _ => (pg_name (i := 2) sc_Row___init.nd rfl (Or.inl rfl))) (fun _ _ _ _ _ => pts_nil) (fun _ _ _ _ _ => (pe_tup (pa_cons pe_int (pa_cons (pv 2) pa_nil))))) pa_nil)) rfl))), ?_⟩
    have hS : start ["self", "cells", "cell"] [V.ref a, .ref l] = [some (.ref a), some (.ref l), none] := rfl
    rw [hS]
    walk_at "rd"
    refine Nr.i_forS ?_
    walk_at "rd"
    refine Nr.forS hl (fun i σ H2 => ∃ u : Option V, σ = [some (.ref a), some (.ref l), u] ∧ Ex H H2) ⟨_, rfl, Ex.refl _⟩ (fun _ _ _ ⟨_, _, e⟩ => e) ?_ ?_
    · rintro i x _ H2 hx ⟨u, rfl, ex2⟩
      obtain ⟨c, hcm, rfl⟩ : ∃ c ∈ cs, V.int c = x := by
        obtain ⟨h1, h2⟩ := List.getElem?_eq_some_iff.mp hx
        rw [List.getElem_map] at h2
        exact ⟨_, List.getElem_mem _, h2⟩
      have := hc c hcm
      walk_at "rd"
      refine Rd.ite_d (fun h => absurd h (by omega)) (fun _ => ?_)
      walk_at "rd"
      exact ⟨_, rfl, ex2⟩
    · rintro _ H2 ⟨u, rfl, ex2⟩
      walk_at "rd"
      refine i_sfld ?_
      walk_at "rd"
      refine Nr.i_lcS ?_
      walk_at "rd"
      refine Nr.lcS (Nr.Sq.mono ex2 hl) (Ex.refl _) (fun D nD => ⟨fun i H3 => ∃ us : List V, H3 D = some (.lst us) ∧ Paired (RnAt H3) us (ones (cs.take i)) ∧ Ex H2 H3, ⟨[], upd_same, .nil, Ex.new nD⟩, fun _ _ ⟨_, _, _, e⟩ => e, ?_, ?_⟩)
      · rintro i x H3 hx ⟨us, hD3, hus, ex3⟩
        obtain ⟨hi, h2⟩ := List.getElem?_eq_some_iff.mp hx
        rw [List.getElem_map] at h2
        rw [List.length_map] at hi
        subst h2
        have hul : us.length ≤ i := by
          rw [paired_len hus]
          unfold ones
          rw [List.length_map, List.length_take]
          omega
        walk_at "rd"
        refine ⟨rfl, ?_⟩
        walk_at "rd"
        refine ⟨by show 2 ≤ sizeLine; decide, fun t nt => ?_⟩
        have e4 : Ex H3 (upd H3 t (.tup [.int 1, .int (cs[i]'hi)])) := Ex.new nt
        have hD4 := e4 _ _ hD3
        refine ⟨us, hD4, small1000 (by omega), us ++ [.ref t], upd_same, ?_, ex_mut (ex3.trans e4) nD⟩
        have ho : ones (cs.take (i + 1)) = ones (cs.take i) ++ [((1 : Int), cs[i]'hi)] := by
          unfold ones
          rw [List.take_succ, List.getElem?_eq_getElem hi, List.map_append]
          rfl
        rw [ho]
        exact paired_app (paired_mono (fun v r h => (h.mono e4).mut hD4) hus) (.cons (RnAt.mut ⟨t, rfl, upd_same⟩ hD4) .nil)
      · rintro H3 ⟨us, hD3, hus, ex3⟩
        rw [List.length_map, List.take_length] at hus
        have e23 := ex2.trans ex3
        walk_at "rd"
        refine ⟨D, us, ones cs, rfl, .inl (SqL.of hD3), hus, by unfold ones; rw [List.length_map]; exact hn, fun tp vs4 H4 ex4 htp hvs => ?_⟩
        have ha4 := (e23.trans ex4) _ _ ha
        walk_at "rd"
        refine ⟨a, T.c_Row, dx, [], rfl, ha4, T.cl_Row, T.n_runs, by decide, ?_⟩
        have hta : tp ≠ a := fun e => by rw [e, ha4] at htp; cases htp
        refine k _ ?_ ⟨dx, tp, vs4, upd_same, by rw [upd_ne hta]; exact htp, paired_mono (fun v r ⟨b, h1, h2⟩ => ⟨b, h1, by rw [upd_ne fun (z : b = a) => by rw [z, ha4] at h2; cases h2]; exact h2⟩) hvs⟩
        rw [hid_upd List.mem_cons_self]
        exact hid_ex (e23.trans ex4)
def spSize (C : Addr) : Sp := fun vs H Q _ => ∃ (a : Addr) (rs : List Jn.Rn), vs = [.ref a] ∧ RowAt C H a rs ∧ rs.length ≤ 900 ∧ ∀ H', Ex H H' → Q (.int (rs.map (·.1)).sum) H'
theorem ok_Row_size (T : Rtx w K mg) : FnOk P w K mg base CX0 1 T.f_Row_size T.d_Row_size ["self"] (spSize T.c_Row) := by
  refine T.F_Row_size.ok sc_Row_size (fun vs H Q E h => ?_) (fun cdv A outer s H vs Q E hr h => ?_)
  · obtain ⟨a, rs, rfl, _⟩ := h
    rfl
  · obtain ⟨a, rs, rfl, ⟨dx, tp, us, ha, htp, hus⟩, hn, k⟩ := h
    refine ⟨_, (pss_one (ps_ret (pe_callB (cr_sum rfl) (by rfl) T.z_sum (by decide +kernel) (pa_cons (pe_lc (g := gTup K 2 (gCons (gName 1) (gCons (gName 2) gNil))) rfl sc_Row_size.nd (pi_tup (pe_fld (pv 0) rfl)) (blkOk_by (own := [("count", 1), ("_", 2)]) (N := ["self", "count", "_"]) (sc := defScope s_Row_size) (by decide +kernel)) (fun _ _ _ _ _ => (pg_tup (by rfl) (pgs_cons (pg_name (i := 1) sc_Row_size.nd rfl (Or.inl rfl)) (pgs_cons (pg_name (i := 2) sc_Row_size.nd rfl (Or.inl rfl)) pgs_nil)))) (fun _ _ _ _ _ => pts_nil) (fun _ _ _ _ _ => (pv 1))) pa_nil)))), ?_⟩
    have hS : start ["self", "count", "_"] [V.ref a] = [some (.ref a), none, none] := rfl
    rw [hS]
    have hul := paired_len hus
    walk_at "rd"
    refine Rd.i_lcT ?_
    walk_at "rd"
    refine i_fld ?_
    walk_at "rd"
    refine ⟨a, _, dx, _, _, rfl, ha, T.cl_Row, T.n_runs, rfl, ?_⟩
    refine Rd.lcT (xs := us) (SqT.of htp) (fun D nD => ⟨fun i H2 => H2 D = some (.lst (((rs.take i).map (·.1)).map V.int)) ∧ Ex H H2, ⟨upd_same, Ex.new nD⟩, fun i H2 _ h => SqT.of (h.2 _ _ htp), ?_, ?_⟩)
    · rintro i x H2 hx ⟨hD, ex2⟩
      obtain ⟨r, hr2, b, rfl, hb⟩ := paired_get hus hx
      have hb2 := ex2 _ _ hb
      walk_at "rd"
      refine ⟨rfl, ?_⟩
      walk_at "rd"
      refine ⟨_, hD, small1000 (by rw [List.length_map, List.length_map, List.length_take]; omega), ?_, ex_mut ex2 nD⟩
      rw [upd_same, List.take_succ, hr2, List.map_append, List.map_append]
      rfl
    · rintro H2 ⟨hD, ex2⟩
      rw [hul, List.take_length] at hD
      walk_at "rd"
      refine ⟨D, rs.map (·.1), rfl, SqL.of hD, ?_⟩
      walk_at "rd"
      exact k _ ex2
/-- what a row may be told as -/
def Told (C : Addr) (H : Hp) (x : Addr) (rs : List Jn.Rn) : Prop := RowAt C H x rs ∨ ∃ cs : List Int, (H x = some (.lst (cs.map V.int)) ∨ H x = some (.tup (cs.map V.int))) ∧ (∀ c ∈ cs, 0 ≤ c) ∧ cs.length ≤ 900 ∧ rs = Jn.joinR (ones cs)
structure Qtx (w : World) (K : PySem.W.Frag) (mg : Str → Option Value) where
  r : Rtx w K mg
  kRR : PySem.W.kitOne K (.ref r.c_Row) (.ref r.c_Row) = some true
  kLR : PySem.W.kitOne K (.type "list") (.ref r.c_Row) = some false
  kTR : PySem.W.kitOne K (.type "tuple") (.ref r.c_Row) = some false
  ty : ∀ {H : Hp} {a dx : Addr} {fs : List (Str × V)}, H a = some (.ins r.c_Row dx fs) → TyX K H (.ref a) (.ref r.c_Row)
def spRowOf (C : Addr) : Sp := fun vs H Q _ => ∃ (x : Addr) (rs : List Jn.Rn), vs = [.ref x] ∧ Told C H x rs ∧ ∀ r H', Ex H H' → RowAt C H' r rs → Q (.ref r) H'
theorem ok_row_of (Z : Qtx w K mg) : FnOk P w K mg base CX0 4 Z.r.f_row_of Z.r.d_row_of ["row"] (spRowOf Z.r.c_Row) := by
  obtain ⟨T, kRR, kLR, kTR, ty⟩ := Z
  refine T.F_row_of.ok sc_row_of (fun vs H Q E h => ?_) (fun cdv A outer s H vs Q E hr h => ?_)
  · obtain ⟨x, rs, rfl, _⟩ := h
    rfl
  · obtain ⟨x, rs, rfl, hT, k⟩ := h
    refine ⟨_, (pss_one (ps_ret (pe_ifExp (pt_val (pe_callB call_isi (by rfl) T.z_isinstance (by decide +kernel) (pa_cons (pv 0) (pa_cons (pe_glob (v := .ref T.c_Row) rfl T.m_Row rfl) pa_nil)))) (pv 0) (pe_make T.mk_Row (ok_Row___init T) (hr.mono (by decide)) rfl T.m_Row T.b_Row___init .nil pass0 (pa_cons (pv 0) pa_nil))))), ?_⟩
    have hS : start ["row"] [V.ref x] = [some (.ref x)] := rfl
    rw [hS]
    walk_at "rd"
    rcases hT with hR | ⟨cs, hx, hc, hn, rfl⟩
    · obtain ⟨dx, tp, us, ha, htp, hus⟩ := id hR
      refine ⟨.ref x, .ref T.c_Row, .ref T.c_Row, .ref T.c_Row, true, rfl, .own _, ty ha, kRR, ?_⟩
      walk_at "rd"
      exact k x H (Ex.refl _) hR
    · have hsq : Nr.Sq K H x (cs.map V.int) := hx.elim (fun h => .inl (SqL.of h)) (fun h => .inr (SqT.of h))
      have hty : ∃ t, TyX K H (.ref x) t ∧ PySem.W.kitOne K t (.ref T.c_Row) = some false := hx.elim (fun h => ⟨_, .base (.lst h), kLR⟩) (fun h => ⟨_, .base (.tup h), kTR⟩)
      obtain ⟨t, ht, hk⟩ := hty
      refine ⟨.ref x, .ref T.c_Row, t, .ref T.c_Row, false, rfl, .own _, ht, hk, ?_⟩
      walk_at "rd"
      refine i_make ?_
      walk_at "rd"
      intro r dr nr ndr hne
      have em : Ex H (upd (upd H dr (.own r)) r (.ins T.c_Row dr [])) := (Ex.new (o := .own r) ndr).trans (Ex.new (by rw [upd_ne (Ne.symm hne)]; exact nr))
      refine ⟨r, dr, x, cs, rfl, upd_same, Nr.Sq.mono em hsq, hc, hn, fun H2 ex2 hR2 => ⟨rfl, ?_⟩⟩
      refine k r H2 (fun b o hb => ?_) hR2
      have hbr : b ≠ r := ne_of_none hb nr
      exact hid_get (ex2 _ _ (hid_iff.mpr ⟨fun z => hbr (List.mem_singleton.mp z), em _ _ hb⟩))
end
end K02

namespace K02
open PySem L2
local macro_rules | `(tactic| walk_at "rd1") => `(tactic| first
  | (with_reducible refine Wh.i_seqM ?_) | (with_reducible refine Rd.i_seq ?_) | (with_reducible refine Rd.i_asg ?_) | (with_reducible refine Wh.i_nameS ?_) | (with_reducible refine Rd.i_name ?_) | (with_reducible refine Rd.i_nx ?_) | (with_reducible refine Rd.i_rt ?_) | (with_reducible refine Rd.i_next ?_) | (with_reducible refine Rd.i_ct ?_) | (with_reducible refine Rd.i_bk ?_)
  | (with_reducible refine Rd.i_ret ?_) | (with_reducible refine Rd.i_drop ?_) | (with_reducible refine Rd.i_ifS ?_) | (with_reducible refine Rd.i_sub ?_)
  | ((with_reducible refine Wh.g_var ?_); (with_reducible refine Rd.i_var (by with_unfolding_all exact rfl) ?_)) | (with_reducible refine Rd.i_c ?_) | (with_reducible refine Rd.i_op ?_) | (with_reducible refine Rd.i_un ?_)
  | (with_reducible refine Rd.i_rI0 ?_) | ((with_reducible refine Wh.g_rI ?_); (with_reducible refine Rd.i_rI (by with_unfolding_all first | omega | exact Rd.mulL (by omega) (by omega) | exact Rd.mulR (by omega) (by omega) | decide | (refine ⟨?_, ?_⟩ <;> omega) | (refine ⟨?_, ?_, ?_⟩ <;> omega)) ?_))
  | ((with_reducible refine Wh.g_rEq ?_); (with_reducible refine Rd.i_rEq (by with_unfolding_all exact rfl) ?_)) | ((with_reducible refine Wh.g_rNe ?_); (with_reducible refine Rd.i_rNe (by with_unfolding_all exact rfl) ?_))
  | (with_reducible refine Rd.i_test ?_) | (with_reducible refine Rd.i_tB ?_) | (with_reducible refine Rd.i_bl ?_) | (with_reducible refine Rd.i_and ?_) | (with_reducible refine Rd.i_or ?_) | (with_reducible refine Rd.i_not ?_) | (with_reducible refine Rd.i_notV ?_) | (with_reducible refine Rd.i_andV ?_) | (with_reducible refine Rd.i_orV ?_) | (with_reducible refine Rd.i_if ?_) | (with_reducible refine Rd.i_chain ?_)
  | (with_reducible refine Rd.i_call ?_) | (with_reducible refine Rd.i_nil ?_) | (with_reducible refine Rd.i_cons ?_) | (with_reducible refine Rd.i_cb ?_) | (with_reducible refine Rd.i_bm ?_) | (with_reducible refine Rd.i_bm0 ?_) | (with_reducible refine Rd.i_tup ?_) | (with_reducible refine Rd.i_lst ?_)
  | (with_reducible refine Rd.i_int1 ?_) | (with_reducible refine Rd.i_intb ?_) | (with_reducible refine Rd.i_max ?_)
  | ((with_reducible refine Wh.g_ixL ?_); (with_reducible refine Rd.i_ixL (SqL.of (by first | assumption | exact upd_same)) (by with_unfolding_all first | exact rfl | exact atI_nat rfl) ?_)) | ((with_reducible refine Wh.g_ixT ?_); (with_reducible refine Rd.i_ixT (SqT.of (by first | assumption | exact upd_same)) (by with_unfolding_all exact rfl) ?_))
  | ((with_reducible refine Wh.g_setL ?_); (with_reducible refine Rd.i_setL (by first | assumption | exact upd_same) (by with_unfolding_all exact rfl) ?_))
  | (with_reducible refine Xv.i_mkV ?_) | (with_reducible refine Xv.i_xat ?_)
  | (with_reducible refine Rd.i_yes ?_) | (with_reducible refine Rd.i_m1 ?_) | (with_reducible refine Rd.i_m0 ?_) | (with_reducible refine Rd.ite_T ?_) | (with_reducible refine Rd.ite_F ?_) | (with_reducible refine Rd.i_forR ?_) | (with_reducible refine Rd.i_forL ?_) | (with_reducible refine Rd.i_forT ?_)
  | (with_reducible refine Hd.i_rU ?_) | (with_reducible refine Hd.i_pcons ?_) | (with_reducible refine Hd.i_pnil ?_) | (with_reducible refine Hd.i_disp ?_) | (with_reducible refine Hd.i_dget ?_)
  | (with_reducible refine Hd.i_lstRg ?_) | (with_reducible refine Hd.i_rg1 ?_) | (with_reducible refine Hd.i_rg2 ?_) | (with_reducible refine Hd.i_ex1 ?_) | (with_reducible refine Hd.i_ex2 ?_)
  | ((with_reducible refine Wh.g_gtup ?_); (with_reducible refine Rd.i_gtup (SqT.of (by first | assumption | exact upd_same)) (by with_unfolding_all exact rfl) ?_)) | (with_reducible refine Rd.i_gcons ?_) | (with_reducible refine Rd.i_gnil ?_)
  | ((with_reducible refine Wh.g_len ?_); (with_reducible refine Rd.i_lenT (SqT.of (by first | assumption | exact upd_same)) ?_)) | ((with_reducible refine Wh.g_len ?_); (with_reducible refine Rd.i_len (SqL.of (by first | assumption | exact upd_same)) ?_))
  | ((with_reducible refine Wh.g_ite ?_); (with_reducible refine Nr.ite_eF (by first | decide +kernel | with_unfolding_all exact rfl) ?_)) | ((with_reducible refine Wh.g_ite ?_); (with_reducible refine Nr.ite_eT (by first | decide +kernel | with_unfolding_all exact rfl) ?_))
  | ((with_reducible refine Wh.g_tyL ?_); (with_reducible refine Nr.i_tyL (by first | assumption | exact upd_same) ?_))
  | ((with_reducible refine Wh.g_tup ?_); (with_reducible refine Nr.i_tupT (SqT.of (by first | assumption | exact upd_same)) ?_))
  | (with_reducible refine Nr.i_sl ?_) | (with_reducible refine Nr.i_part ?_) | (with_reducible refine Nr.i_nop ?_) | (with_reducible refine Nr.i_star ?_)
  | fail "stop")
local macro_rules | `(tactic| walk_at "rd") => `(tactic| repeat walk_at "rd1")
abbrev s_length : Stmt := topS 36
theorem sc_length : FnScope ["kept", "more"] ["kept", "more"] (defScope s_length) := ⟨rfl, rfl, rfl, by decide +kernel, rfl, by decide +kernel, by decide +kernel⟩

abbrev s_way : Stmt := topS 38
theorem sc_way : FnScope ["line", "cell", "value", "name"] ["line", "cell"] (defScope s_way) := ⟨rfl, rfl, rfl, by decide +kernel, rfl, by decide +kernel, by decide +kernel⟩

abbrev s_is_at_most : Stmt := topS 37
theorem sc_is_at_most : FnScope ["kept", "number"] ["kept", "number"] (defScope s_is_at_most) := ⟨rfl, rfl, rfl, by decide +kernel, rfl, by decide +kernel, by decide +kernel⟩

abbrev s_Machine___init : Stmt := inClass (topS 35) 0
theorem sc_Machine___init : FnScope ["self", "reader", "name", "line"] ["self", "reader"] (defScope s_Machine___init) := ⟨rfl, rfl, rfl, by decide +kernel, rfl, by decide +kernel, by decide +kernel⟩

abbrev s_Machine_come : Stmt := inClass (topS 35) 1
theorem sc_Machine_come : FnScope ["self", "name", "kept", "event", "line", "word", "left"] ["self", "name", "kept"] (defScope s_Machine_come) := ⟨rfl, rfl, rfl, by decide +kernel, rfl, by decide +kernel, by decide +kernel⟩

abbrev s_Machine_behind : Stmt := inClass (topS 35) 2
theorem sc_Machine_behind : FnScope ["self", "stand", "cell", "taken", "name", "kept", "_", "line", "word"] ["self", "stand", "cell", "taken"] (defScope s_Machine_behind) := ⟨rfl, rfl, rfl, by decide +kernel, rfl, by decide +kernel, by decide +kernel⟩

abbrev s_Machine_ahead : Stmt := inClass (topS 35) 5
theorem sc_Machine_ahead : FnScope ["self", "stand", "cell", "count", "passed", "seen", "name", "kept", "left", "cells", "event"] ["self", "stand", "cell", "count"] (defScope s_Machine_ahead) := ⟨rfl, rfl, rfl, by decide +kernel, rfl, by decide +kernel, by decide +kernel⟩

abbrev s_short_row_of : Stmt := topS 44
theorem sc_short_row_of : FnScope ["row", "whole"] ["row"] (defScope s_short_row_of) := ⟨rfl, rfl, rfl, by decide +kernel, rfl, by decide +kernel, by decide +kernel⟩

abbrev s_shown : Stmt := topS 48
theorem sc_shown : FnScope ["machine", "row", "found", "stand", "end", "count", "cell", "place", "passed", "event"] ["machine", "row"] (defScope s_shown) := ⟨rfl, rfl, rfl, by decide +kernel, rfl, by decide +kernel, by decide +kernel⟩

abbrev s_cuts : Stmt := topS 47
theorem sc_cuts : FnScope ["reader", "row", "whole"] ["reader", "row"] (defScope s_cuts) := ⟨rfl, rfl, rfl, by decide +kernel, rfl, by decide +kernel, by decide +kernel⟩

structure Mtx (w : World) (K : PySem.W.Frag) (mg : Str → Option Value) where
  q : Qtx w K mg
  z_len : mg "len" = none
  z_min : mg "min" = none
  z_int : mg "int" = none
  z_str : mg "str" = none
  z_isinstance : mg "isinstance" = none
  t_CU : Tok
  t_RE : Tok
  m_CUT : mg "CUT" = some (.str "cut" t_CU)
  m_REFUSE : mg "REFUSE" = some (.str "refuse" t_RE)
  kIS : PySem.W.kitOne K (.type "int") (.type "str") = some false
  kII : PySem.W.kitOne K (.type "int") (.type "int") = some true
  f_length : Addr
  d_length : FuncData
  F_length : Fun K "_length" "_length" s_length f_length d_length
  b_length : Binds K d_length ["kept", "more"] []
  m_length : mg "_length" = some (.ref f_length)
  f_way : Addr
  d_way : FuncData
  F_way : Fun K "_way" "_way" s_way f_way d_way
  b_way : Binds K d_way ["line", "cell"] []
  m_way : mg "_way" = some (.ref f_way)
  f_is_at_most : Addr
  d_is_at_most : FuncData
  F_is_at_most : Fun K "_is_at_most" "_is_at_most" s_is_at_most f_is_at_most d_is_at_most
  b_is_at_most : Binds K d_is_at_most ["kept", "number"] []
  m_is_at_most : mg "_is_at_most" = some (.ref f_is_at_most)
  f_short_row_of : Addr
  d_short_row_of : FuncData
  F_short_row_of : Fun K "short_row_of" "short_row_of" s_short_row_of f_short_row_of d_short_row_of
  b_short_row_of : Binds K d_short_row_of ["row"] []
  m_short_row_of : mg "short_row_of" = some (.ref f_short_row_of)
  f_shown : Addr
  d_shown : FuncData
  F_shown : Fun K "shown" "shown" s_shown f_shown d_shown
  b_shown : Binds K d_shown ["machine", "row"] []
  m_shown : mg "shown" = some (.ref f_shown)
  f_cuts : Addr
  d_cuts : FuncData
  F_cuts : Fun K "cuts" "cuts" s_cuts f_cuts d_cuts
  b_cuts : Binds K d_cuts ["reader", "row"] []
  m_cuts : mg "cuts" = some (.ref f_cuts)
  c_Machine : Addr
  m_Machine : mg "Machine" = some (.ref c_Machine)
  cl_Machine : Cls K c_Machine
  n_lines : NoAttr K c_Machine "lines"
  n_first : NoAttr K c_Machine "first"
  n_begin : NoAttr K c_Machine "begin"
  f_Machine___init : Addr
  d_Machine___init : FuncData
  F_Machine___init : Fun K "__init__" "Machine.__init__" s_Machine___init f_Machine___init d_Machine___init
  b_Machine___init : Binds K d_Machine___init ["self", "reader"] []
  mk_Machine : Mk K c_Machine f_Machine___init
  f_Machine_come : Addr
  d_Machine_come : FuncData
  F_Machine_come : Fun K "come" "Machine.come" s_Machine_come f_Machine_come d_Machine_come
  b_Machine_come : Binds K d_Machine_come ["self", "name", "kept"] []
  h_Machine_come : Meth K c_Machine "come" f_Machine_come
  f_Machine_behind : Addr
  d_Machine_behind : FuncData
  F_Machine_behind : Fun K "behind" "Machine.behind" s_Machine_behind f_Machine_behind d_Machine_behind
  b_Machine_behind : Binds K d_Machine_behind ["self", "stand", "cell", "taken"] []
  h_Machine_behind : Meth K c_Machine "behind" f_Machine_behind
  f_Machine_ahead : Addr
  d_Machine_ahead : FuncData
  F_Machine_ahead : Fun K "ahead" "Machine.ahead" s_Machine_ahead f_Machine_ahead d_Machine_ahead
  b_Machine_ahead : Binds K d_Machine_ahead ["self", "stand", "cell", "count"] []
  h_Machine_ahead : Meth K c_Machine "ahead" f_Machine_ahead
abbrev Mtx.r {w : World} {K : PySem.W.Frag} {mg : Str → Option Value} (T : Mtx w K mg) : Rtx w K mg := T.q.r
section
variable {P : Program} {w : World} {K : PySem.W.Frag} {mg : Str → Option Value} {base : Heap}
open Evl Hd
def spNever : Sp := fun _ _ _ _ => False
theorem ok_way (T : Mtx w K mg) : FnOk P w K mg base CX0 1 T.f_way T.d_way ["line", "cell"] spNever :=
  T.F_way.ok sc_way (fun _ _ _ _ h => h.elim) (fun _ _ _ _ _ _ _ _ _ h => h.elim)
theorem ok_is_at_most (T : Mtx w K mg) : FnOk P w K mg base CX0 1 T.f_is_at_most T.d_is_at_most ["kept", "number"] spNever :=
  T.F_is_at_most.ok sc_is_at_most (fun _ _ _ _ h => h.elim) (fun _ _ _ _ _ _ _ _ _ h => h.elim)
def lenV (c z : Int) : V := if c + z < 0 then .non else .int (c + z)
def spLength : Sp := fun vs H Q _ => ∃ c z : Int, vs = [.int c, .int z] ∧ Q (lenV c z) H
theorem ok_length (T : Mtx w K mg) : FnOk P w K mg base CX0 1 T.f_length T.d_length ["kept", "more"] spLength := by
  refine T.F_length.ok sc_length (fun vs H Q E h => ?_) (fun cdv A outer s H vs Q E hr h => ?_)
  · obtain ⟨c, z, rfl, _⟩ := h
    rfl
  · obtain ⟨c, z, rfl, k⟩ := h
    refine ⟨_, (pss_cons (ps_if (PW.pt (pw_or (pt_cmpR op_isN (pv 0) pe_non (nomark _)) (pw_or1 (pt_val (pe_callB call_isi (by rfl) T.z_isinstance (by decide +kernel) (pa_cons (pv 0) (pa_cons (pe_bltn (v := .ty "str") (by rfl) T.z_str (by decide +kernel) rfl) pa_nil)))))))
        (pss_one (ps_ret (pv 0)))
        pss_nil)
      (pss_cons (ps_if (pt_val (pe_callB call_isi (by rfl) T.z_isinstance (by decide +kernel) (pa_cons (pv 0) (pa_cons (pe_bltn (v := .ty "int") (by rfl) T.z_int (by decide +kernel) rfl) pa_nil))))
        (pss_one (ps_ret (pe_ifExp (pt_cmpR op_ge (pe_op op_add (pv 0) (pv 1)) pe_int (nomark _)) (pe_op op_add (pv 0) (pv 1)) pe_non)))
        pss_nil)
      (pss_one (ps_ret (pe_tup (pa_cons (pe_op op_add (pe_ix ix_tup (pv 0) pe_int (fun _ _ => rfl)) (pv 1)) (pa_cons (pe_ix ix_tup (pv 0) pe_int (fun _ _ => rfl)) pa_nil))))))), ?_⟩
    have hS : start ["kept", "more"] [V.int c, .int z] = [some (.int c), some (.int z)] := rfl
    rw [hS]
    walk_at "rd"
    refine ⟨rfl, ?_⟩
    walk_at "rd"
    refine ⟨.int c, .ty "str", .type "int", .type "str", false, rfl, .ty _, .base (.int _), T.kIS, ?_⟩
    walk_at "rd"
    refine ⟨.int c, .ty "int", .type "int", .type "int", true, rfl, .ty _, .base (.int _), T.kII, ?_⟩
    walk_at "rd"
    unfold lenV at k
    refine Rd.ite_d (fun h => ?_) (fun h => ?_)
    · walk_at "rd"
      rw [if_neg (by omega)] at k
      exact k
    · walk_at "rd"
      rw [if_pos (by omega)] at k
      exact k
/-- a stand as a value -/
def StAt (n0 n1 : Str) (H : Hp) (v : V) : Option Jn.St → Prop
  | none => v = .non
  | some .tk => ∃ a, v = .ref a ∧ H a = some (.tup [.str n0, .non, .int 1])
  | some (.sk l) => ∃ a, v = .ref a ∧ H a = some (.tup [.str n1, .non, .int (l : Int)])
theorem StAt.mono {n0 n1 : Str} {H H' : Hp} {v : V} (e : Ex H H') : ∀ {s : Option Jn.St}, StAt n0 n1 H v s → StAt n0 n1 H' v s
  | none, h => h
  | some .tk, ⟨a, h1, h2⟩ => ⟨a, h1, e _ _ h2⟩
  | some (.sk l), ⟨a, h1, h2⟩ => ⟨a, h1, e _ _ h2⟩
def evV (s : Option Jn.St) (cut : Bool) : V := if cut = true then .str "cut" else match s with
  | none => .str "refuse"
  | some _ => .non
/-- an outcome: a stand and an event -/
def OutAt (n0 n1 : Str) (H : Hp) (v : V) (o : Option Jn.St × Bool) : Prop := ∃ t x, v = .ref t ∧ H t = some (.tup [x, evV o.1 o.2]) ∧ StAt n0 n1 H x o.1
/-- a machine of one cell and a skip -/
structure MacAt (C : Addr) (H : Hp) (a : Addr) (n0 n1 n2 : Str) (z : Int) : Prop where
  obj : ∃ dx fs d t0 t1 t2, H a = some (.ins C dx fs) ∧ fs.lookup ("lines" : Str) = some (.ref d) ∧ fs.lookup ("first" : Str) = some (.str n0) ∧ fs.lookup ("come" : Str) = none ∧ fs.lookup ("behind" : Str) = none ∧ fs.lookup ("ahead" : Str) = none ∧
    H d = some (.dK [(Sum.inr n0, .ref t0), (Sum.inr n1, .ref t1), (Sum.inr n2, .ref t2)]) ∧ H t0 = some (.tup [.str "take", .str n1]) ∧ H t1 = some (.tup [.str "skip", .int z, .str n2]) ∧ H t2 = some (.tup [.str "cut"])
  d01 : n0 ≠ n1
  d02 : n0 ≠ n2
  d12 : n1 ≠ n2
theorem MacAt.mono {C : Addr} {H H' : Hp} {a : Addr} {n0 n1 n2 : Str} {z : Int} (e : Ex H H') (h : MacAt C H a n0 n1 n2 z) : MacAt C H' a n0 n1 n2 z := by
  obtain ⟨⟨dx, fs, d, t0, t1, t2, h1, h2, h3, h4, h5, h6, h7, h8, h9, h10⟩, x, y, q⟩ := h
  exact ⟨⟨dx, fs, d, t0, t1, t2, e _ _ h1, h2, h3, h4, h5, h6, e _ _ h7, e _ _ h8, e _ _ h9, e _ _ h10⟩, x, y, q⟩
/-- where a reader comes to: the first line, the skip with what is kept, the cut -/
def comes (n0 n1 n2 : Str) (z : Int) : Str → V → (Option Jn.St × Bool) → Prop := fun x kept o =>
  (x = n0 ∧ kept = .non ∧ o = (some .tk, false)) ∨ (∃ c : Int, x = n1 ∧ kept = .int c ∧ o = Jn.stepF z .tk c) ∨ (x = n2 ∧ kept = .non ∧ o = (some .tk, true))
theorem i_par {i j : Nat} {ta : TA} {D : Ends} {σ : L2.St} {H : Hp} (q : ta σ H fun vs H1 => ∃ v w, vs = [v, w] ∧ D.nx ((σ.set i (some v)).set j (some w)) H1) : tPar i j ta D σ H := q
theorem dgetS {H : Hp} {d : Addr} {kvs : List (Key × V)} {x : Str} {v : V} (h : H d = some (.dK kvs)) (e : valV kvs (Sum.inr x) = some v) : DGet H d (.str x) (some v) := by
  have := DGet.k (k := Sum.inr x) h
  rw [e] at this
  exact this
abbrev kv3 (n0 n1 n2 : Str) (v0 v1 v2 : V) : List (Key × V) := [(Sum.inr n0, v0), (Sum.inr n1, v1), (Sum.inr n2, v2)]
theorem val3 {n0 n1 n2 : Str} {v0 v1 v2 : V} (d01 : n0 ≠ n1) (d02 : n0 ≠ n2) (d12 : n1 ≠ n2) : valV (kv3 n0 n1 n2 v0 v1 v2) (Sum.inr n0) = some v0 ∧ valV (kv3 n0 n1 n2 v0 v1 v2) (Sum.inr n1) = some v1 ∧ valV (kv3 n0 n1 n2 v0 v1 v2) (Sum.inr n2) = some v2 := by
  unfold valV kv3
  simp [d01, d02, d12]
def spCome (C : Addr) : Sp := fun vs H Q _ => ∃ (a : Addr) (n0 n1 n2 x : Str) (z : Int) (kept : V) (o : Option Jn.St × Bool), vs = [.ref a, .str x, kept] ∧ MacAt C H a n0 n1 n2 z ∧ comes n0 n1 n2 z x kept o ∧ ∀ v H', Ex H H' → OutAt n0 n1 H' v o → Q v H'
theorem ok_Machine_come (T : Mtx w K mg) : FnOk P w K mg base CX0 2 T.f_Machine_come T.d_Machine_come ["self", "name", "kept"] (spCome T.c_Machine) := by
  refine T.F_Machine_come.ok sc_Machine_come (fun vs H Q E h => ?_) (fun cdv A outer s H vs Q E hr h => ?_)
  · obtain ⟨a, n0, n1, n2, x, z, kept, o, rfl, _⟩ := h
    rfl
  · obtain ⟨a, n0, n1, n2, x, z, kept, o, rfl, hM, hx, k⟩ := h
    refine ⟨_, (pss_cons (ps_set (i := 3) sc_Machine_come.nd rfl (Or.inl rfl) pe_non)
      (pss_cons (ps_set (i := 4) sc_Machine_come.nd rfl (Or.inl rfl) (pe_dget (hu_of hr) (pe_fld (pv 0) rfl) (pv 1) (fun _ _ => rfl)))
      (pss_cons (ps_while PassesOwn.never (pt_cmpR op_notIn_seq (pe_ix ix_tup (pv 4) pe_int (fun _ _ => rfl)) (pe_glob (v := .ref T.r.p.a_READING) rfl T.r.p.m_READING rfl) (by rfl))
        (pss_cons (ps_set (i := 5) sc_Machine_come.nd rfl (Or.inl rfl) (pe_ix ix_tup (pv 4) pe_int (fun _ _ => rfl)))
        (pss_cons (ps_if (pt_cmpR op_eq (pv 5) pe_str (nomark _))
          (pss_one (ps_ret (pe_tup (pa_cons pe_non (pa_cons (pe_glob (v := .str "refuse") rfl T.m_REFUSE ⟨_, rfl⟩) pa_nil)))))
          pss_nil)
        (pss_cons (ps_if (pt_cmpR op_eq (pv 5) pe_str (nomark _))
          (pss_cons (ps_set (i := 6) sc_Machine_come.nd rfl (Or.inl rfl) (pe_call (ok_length T) (hr.mono (by decide)) rfl T.m_length T.F_length.kp T.b_length .nil pass0 (pa_cons (pv 2) (pa_cons (pe_ix ix_tup (pv 4) pe_int (fun _ _ => rfl)) pa_nil))))
          (pss_cons (ps_if (pt_cmpR op_isN (pv 6) pe_non (nomark _))
            (pss_one (ps_ret (pe_tup (pa_cons pe_non (pa_cons (pe_glob (v := .str "refuse") rfl T.m_REFUSE ⟨_, rfl⟩) pa_nil)))))
            pss_nil)
          (pss_cons (ps_if (pt_cmpR op_ne (pv 6) pe_int (nomark _))
            (pss_one (ps_ret (pe_tup (pa_cons (pe_tup (pa_cons (pv 1) (pa_cons pe_non (pa_cons (pv 6) pa_nil)))) (pa_cons (pv 3) pa_nil)))))
            pss_nil)
          (pss_one (ps_par (i := 1) (j := 2) rfl sc_Machine_come.nd rfl rfl (by decide) rfl rfl (pa_cons (pe_ix ix_tup (pv 4) pe_int (fun _ _ => rfl)) (pa_cons pe_non pa_nil)) (by rfl))))))
          (pss_one (ps_if (pt_cmpR op_eq (pv 5) pe_str (nomark _))
            (pss_cons (ps_set (i := 3) sc_Machine_come.nd rfl (Or.inl rfl) (pe_glob (v := .str "cut") rfl T.m_CUT ⟨_, rfl⟩))
            (pss_one (ps_par (i := 1) (j := 2) rfl sc_Machine_come.nd rfl rfl (by decide) rfl rfl (pa_cons (pe_fld (pv 0) rfl) (pa_cons pe_non pa_nil)) (by rfl))))
            (pss_one (ps_if (pt_cmpR op_eq (pv 5) pe_str (nomark _))
              (pss_one (ps_par (i := 1) (j := 2) rfl sc_Machine_come.nd rfl rfl (by decide) rfl rfl (pa_cons (pe_ix ix_tup (pv 4) pe_int (fun _ _ => rfl)) (pa_cons (pe_ix ix_tup (pv 4) pe_int (fun _ _ => rfl)) pa_nil)) (by rfl)))
              (pss_one (ps_set (i := 1) sc_Machine_come.nd rfl (Or.inl rfl) (pe_ifExp (pt_val (pe_call (ok_is_at_most T) (hr.mono (by decide)) rfl T.m_is_at_most T.F_is_at_most.kp T.b_is_at_most .nil pass0 (pa_cons (pv 2) (pa_cons (pe_ix ix_tup (pv 4) pe_int (fun _ _ => rfl)) pa_nil)))) (pe_ix ix_tup (pv 4) pe_int (fun _ _ => rfl)) (pe_ix ix_tup (pv 4) pe_int (fun _ _ => rfl))))))))))
        (pss_one (ps_set (i := 4) sc_Machine_come.nd rfl (Or.inl rfl) (pe_dget (hu_of hr) (pe_fld (pv 0) rfl) (pv 1) (fun _ _ => rfl))))))))
      (pss_one (ps_ret (pe_tup (pa_cons (pe_tup (pa_cons (pv 1) (pa_cons (pv 2) (pa_cons (pe_ifExp (pt_cmpR op_eq (pe_ix ix_tup (pv 4) pe_int (fun _ _ => rfl)) pe_str (nomark _)) (pe_ix ix_tup (pv 4) pe_int (fun _ _ => rfl)) pe_int) pa_nil)))) (pa_cons (pv 3) pa_nil)))))))), ?_⟩
    have hS : start ["self", "name", "kept", "event", "line", "word", "left"] [V.ref a, .str x, kept] = [some (.ref a), some (.str x), some kept, none, none, none, none] := rfl
    rw [hS]
    obtain ⟨⟨dx, fs, d, t0, t1, t2, ha, f1, f2, f3, f4, f5, hd, h0, h1, h2⟩, d01, d02, d12⟩ := id hM
    obtain ⟨v0, v1, v2⟩ := @val3 n0 n1 n2 (.ref t0) (.ref t1) (.ref t2) d01 d02 d12
    walk_at "rd"
    refine i_fld ?_
    walk_at "rd"
    refine ⟨a, _, dx, fs, _, rfl, ha, T.cl_Machine, T.n_lines, f1, ?_⟩
    walk_at "rd"
    rcases hx with ⟨rfl, rfl, rfl⟩ | ⟨c, rfl, rfl, rfl⟩ | ⟨rfl, rfl, rfl⟩
    · refine ⟨d, .ref t0, rfl, dgetS hd v0, ?_⟩
      walk_at "rd"
      refine Wh.startW 1 (fun W hW => ?_)
      refine hW _ _ _ ?_
      walk_at "rd"
      refine i_ninS (ns := ["case", "take", "rest", "cap", "jump"]) (.inr (T.r.p.q_READING _)) ?_
      walk_at "rd"
      refine ⟨by show 3 ≤ sizeLine; decide, fun sd ns => ?_⟩
      walk_at "rd"
      refine ⟨by show 2 ≤ sizeLine; decide, fun t nt => ?_⟩
      walk_at "rd"
      exact k _ _ (((Ex.new ns).trans (Ex.new nt))) ⟨t, _, rfl, upd_same, sd, rfl, (Ex.new nt) _ _ upd_same⟩
    · refine ⟨d, .ref t1, rfl, dgetS hd v1, ?_⟩
      walk_at "rd"
      refine Wh.startW 3 (fun W hW => ?_)
      refine hW _ _ _ ?_
      walk_at "rd"
      refine i_ninS (ns := ["case", "take", "rest", "cap", "jump"]) (.inr (T.r.p.q_READING _)) ?_
      walk_at "rd"
      refine Wh.goW ?_
      walk_at "rd"
      refine ⟨c, z, rfl, ?_⟩
      rw [Jn.step_tk] at k
      by_cases l0 : c + z < 0
      · rw [show lenV c z = .non from if_pos l0]
        rw [if_pos l0] at k
        walk_at "rd"
        refine ⟨rfl, ?_⟩
        walk_at "rd"
        refine ⟨by show 2 ≤ sizeLine; decide, fun t nt => ?_⟩
        walk_at "rd"
        exact k _ _ (Ex.new nt) ⟨t, _, rfl, upd_same, rfl⟩
      rw [show lenV c z = .int (c + z) from if_neg l0]
      rw [if_neg l0] at k
      walk_at "rd"
      refine ⟨rfl, ?_⟩
      walk_at "rd"
      by_cases l1 : c + z = 0
      · rw [if_pos l1] at k
        refine Rd.ite_nd (fun _ => ?_) (fun h => absurd (by rw [l1]) h)
        walk_at "rd"
        refine i_par ?_
        walk_at "rd"
        refine ⟨_, _, rfl, Wh.i_set2 ?_⟩
        walk_at "rd"
        refine i_fld ?_
        walk_at "rd"
        refine ⟨a, _, dx, fs, _, rfl, ha, T.cl_Machine, T.n_lines, f1, ?_⟩
        walk_at "rd"
        refine ⟨d, .ref t2, rfl, dgetS hd v2, ?_⟩
        walk_at "rd"
        refine hW _ _ _ ?_
        walk_at "rd"
        refine i_ninS (ns := ["case", "take", "rest", "cap", "jump"]) (.inr (T.r.p.q_READING _)) ?_
        walk_at "rd"
        refine Wh.goW ?_
        walk_at "rd"
        refine i_par ?_
        walk_at "rd"
        refine i_fld ?_
        walk_at "rd"
        refine ⟨a, _, dx, fs, _, rfl, ha, T.cl_Machine, T.n_first, f2, ?_⟩
        walk_at "rd"
        refine ⟨_, _, rfl, Wh.i_set2 ?_⟩
        walk_at "rd"
        refine i_fld ?_
        walk_at "rd"
        refine ⟨a, _, dx, fs, _, rfl, ha, T.cl_Machine, T.n_lines, f1, ?_⟩
        walk_at "rd"
        refine ⟨d, .ref t0, rfl, dgetS hd v0, ?_⟩
        walk_at "rd"
        refine hW _ _ _ ?_
        walk_at "rd"
        refine i_ninS (ns := ["case", "take", "rest", "cap", "jump"]) (.inr (T.r.p.q_READING _)) ?_
        walk_at "rd"
        refine ⟨by show 3 ≤ sizeLine; decide, fun sd ns => ?_⟩
        walk_at "rd"
        refine ⟨by show 2 ≤ sizeLine; decide, fun t nt => ?_⟩
        walk_at "rd"
        exact k _ _ (((Ex.new ns).trans (Ex.new nt))) ⟨t, _, rfl, upd_same, sd, rfl, (Ex.new nt) _ _ upd_same⟩
      · rw [if_neg l1] at k
        refine Rd.ite_nd (fun h => absurd (V.int.inj h) l1) (fun _ => ?_)
        walk_at "rd"
        refine ⟨by show 3 ≤ sizeLine; decide, fun sd ns => ?_⟩
        walk_at "rd"
        refine ⟨by show 2 ≤ sizeLine; decide, fun t nt => ?_⟩
        walk_at "rd"
        refine k _ _ (((Ex.new ns).trans (Ex.new nt))) ⟨t, _, rfl, upd_same, sd, rfl, (Ex.new nt) _ _ ?_⟩
        rw [upd_same, show (((c + z).toNat : Nat) : Int) = c + z by omega]
    · refine ⟨d, .ref t2, rfl, dgetS hd v2, ?_⟩
      walk_at "rd"
      refine Wh.startW 2 (fun W hW => ?_)
      refine hW _ _ _ ?_
      walk_at "rd"
      refine i_ninS (ns := ["case", "take", "rest", "cap", "jump"]) (.inr (T.r.p.q_READING _)) ?_
      walk_at "rd"
      refine Wh.goW ?_
      walk_at "rd"
      refine i_par ?_
      walk_at "rd"
      refine i_fld ?_
      walk_at "rd"
      refine ⟨a, _, dx, fs, _, rfl, ha, T.cl_Machine, T.n_first, f2, ?_⟩
      walk_at "rd"
      refine ⟨_, _, rfl, Wh.i_set2 ?_⟩
      walk_at "rd"
      refine i_fld ?_
      walk_at "rd"
      refine ⟨a, _, dx, fs, _, rfl, ha, T.cl_Machine, T.n_lines, f1, ?_⟩
      walk_at "rd"
      refine ⟨d, .ref t0, rfl, dgetS hd v0, ?_⟩
      walk_at "rd"
      refine hW _ _ _ ?_
      walk_at "rd"
      refine i_ninS (ns := ["case", "take", "rest", "cap", "jump"]) (.inr (T.r.p.q_READING _)) ?_
      walk_at "rd"
      refine ⟨by show 3 ≤ sizeLine; decide, fun sd ns => ?_⟩
      walk_at "rd"
      refine ⟨by show 2 ≤ sizeLine; decide, fun t nt => ?_⟩
      walk_at "rd"
      exact k _ _ (((Ex.new ns).trans (Ex.new nt))) ⟨t, _, rfl, upd_same, sd, rfl, (Ex.new nt) _ _ upd_same⟩
end
end K02

namespace K02
open PySem L2
local macro_rules | `(tactic| walk_at "rd1") => `(tactic| first
  | (with_reducible refine Wh.i_seqM ?_) | (with_reducible refine Rd.i_seq ?_) | (with_reducible refine Rd.i_asg ?_) | (with_reducible refine Wh.i_nameS ?_) | (with_reducible refine Rd.i_name ?_) | (with_reducible refine Rd.i_nx ?_) | (with_reducible refine Rd.i_rt ?_) | (with_reducible refine Rd.i_next ?_) | (with_reducible refine Rd.i_ct ?_) | (with_reducible refine Rd.i_bk ?_)
  | (with_reducible refine Rd.i_ret ?_) | (with_reducible refine Rd.i_drop ?_) | (with_reducible refine Rd.i_ifS ?_) | (with_reducible refine Rd.i_sub ?_)
  | ((with_reducible refine Wh.g_var ?_); (with_reducible refine Rd.i_var (by with_unfolding_all exact rfl) ?_)) | (with_reducible refine Rd.i_c ?_) | (with_reducible refine Rd.i_op ?_) | (with_reducible refine Rd.i_un ?_)
  | (with_reducible refine Rd.i_rI0 ?_) | ((with_reducible refine Wh.g_rI ?_); (with_reducible refine Rd.i_rI (by with_unfolding_all first | omega | exact Rd.mulL (by omega) (by omega) | exact Rd.mulR (by omega) (by omega) | decide | (refine ⟨?_, ?_⟩ <;> omega) | (refine ⟨?_, ?_, ?_⟩ <;> omega)) ?_))
  | ((with_reducible refine Wh.g_rEq ?_); (with_reducible refine Rd.i_rEq (by with_unfolding_all exact rfl) ?_)) | ((with_reducible refine Wh.g_rNe ?_); (with_reducible refine Rd.i_rNe (by with_unfolding_all exact rfl) ?_))
  | (with_reducible refine Rd.i_test ?_) | (with_reducible refine Rd.i_tB ?_) | (with_reducible refine Rd.i_bl ?_) | (with_reducible refine Rd.i_and ?_) | (with_reducible refine Rd.i_or ?_) | (with_reducible refine Rd.i_not ?_) | (with_reducible refine Rd.i_notV ?_) | (with_reducible refine Rd.i_andV ?_) | (with_reducible refine Rd.i_orV ?_) | (with_reducible refine Rd.i_if ?_) | (with_reducible refine Rd.i_chain ?_)
  | (with_reducible refine Rd.i_call ?_) | (with_reducible refine Rd.i_nil ?_) | (with_reducible refine Rd.i_cons ?_) | (with_reducible refine Rd.i_cb ?_) | (with_reducible refine Rd.i_bm ?_) | (with_reducible refine Rd.i_bm0 ?_) | (with_reducible refine Rd.i_tup ?_) | (with_reducible refine Rd.i_lst ?_)
  | (with_reducible refine Rd.i_int1 ?_) | (with_reducible refine Rd.i_intb ?_) | (with_reducible refine Rd.i_max ?_)
  | ((with_reducible refine Wh.g_ixL ?_); (with_reducible refine Rd.i_ixL (SqL.of (by first | assumption | exact upd_same)) (by with_unfolding_all first | exact rfl | exact atI_nat rfl) ?_)) | ((with_reducible refine Wh.g_ixT ?_); (with_reducible refine Rd.i_ixT (SqT.of (by first | assumption | exact upd_same)) (by with_unfolding_all exact rfl) ?_))
  | ((with_reducible refine Wh.g_setL ?_); (with_reducible refine Rd.i_setL (by first | assumption | exact upd_same) (by with_unfolding_all exact rfl) ?_))
  | (with_reducible refine Xv.i_mkV ?_) | (with_reducible refine Xv.i_xat ?_)
  | (with_reducible refine Rd.i_yes ?_) | (with_reducible refine Rd.i_m1 ?_) | (with_reducible refine Rd.i_m0 ?_) | (with_reducible refine Rd.ite_T ?_) | (with_reducible refine Rd.ite_F ?_) | (with_reducible refine Rd.i_forR ?_) | (with_reducible refine Rd.i_forL ?_) | (with_reducible refine Rd.i_forT ?_)
  | (with_reducible refine Hd.i_rU ?_) | (with_reducible refine Hd.i_pcons ?_) | (with_reducible refine Hd.i_pnil ?_) | (with_reducible refine Hd.i_disp ?_) | (with_reducible refine Hd.i_dget ?_)
  | (with_reducible refine Hd.i_lstRg ?_) | (with_reducible refine Hd.i_rg1 ?_) | (with_reducible refine Hd.i_rg2 ?_) | (with_reducible refine Hd.i_ex1 ?_) | (with_reducible refine Hd.i_ex2 ?_)
  | ((with_reducible refine Wh.g_gtup ?_); (with_reducible refine Rd.i_gtup (SqT.of (by first | assumption | exact upd_same)) (by with_unfolding_all exact rfl) ?_)) | (with_reducible refine Rd.i_gcons ?_) | (with_reducible refine Rd.i_gnil ?_)
  | ((with_reducible refine Wh.g_len ?_); (with_reducible refine Rd.i_lenT (SqT.of (by first | assumption | exact upd_same)) ?_)) | ((with_reducible refine Wh.g_len ?_); (with_reducible refine Rd.i_len (SqL.of (by first | assumption | exact upd_same)) ?_))
  | ((with_reducible refine Wh.g_ite ?_); (with_reducible refine Nr.ite_eF (by first | decide +kernel | with_unfolding_all exact rfl) ?_)) | ((with_reducible refine Wh.g_ite ?_); (with_reducible refine Nr.ite_eT (by first | decide +kernel | with_unfolding_all exact rfl) ?_))
  | ((with_reducible refine Wh.g_tyL ?_); (with_reducible refine Nr.i_tyL (by first | assumption | exact upd_same) ?_))
  | ((with_reducible refine Wh.g_tup ?_); (with_reducible refine Nr.i_tupT (SqT.of (by first | assumption | exact upd_same)) ?_))
  | (with_reducible refine Nr.i_sl ?_) | (with_reducible refine Nr.i_part ?_) | (with_reducible refine Nr.i_nop ?_) | (with_reducible refine Nr.i_star ?_)
  | fail "stop")
local macro_rules | `(tactic| walk_at "rd") => `(tactic| repeat walk_at "rd1")
section
variable {P : Program} {w : World} {K : PySem.W.Frag} {mg : Str → Option Value} {base : Heap}
open Evl Hd
abbrev fs2 (D : Addr) (n0 : Str) : List (Str × V) := [("lines", .ref D), ("first", .str n0)]
/-- the three lines -/
abbrev ls3 (z : Int) : List Li := [.take 1, .num "skip" z 2, .fin "cut"]
theorem kept3 {H : Hp} {tp : Addr} {ts : List V} {n0 n1 n2 : Str} {z : Int} (h : Kept H tp ts [n0, n1, n2] (ls3 z)) : ∃ p0 p1 p2 t0 t1 t2, ts = [.ref p0, .ref p1, .ref p2] ∧ H p0 = some (.tup [.str n0, .ref t0]) ∧ H p1 = some (.tup [.str n1, .ref t1]) ∧ H p2 = some (.tup [.str n2, .ref t2]) ∧
    H t0 = some (.tup [.str "take", .str n1]) ∧ H t1 = some (.tup [.str "skip", .int z, .str n2]) ∧ H t2 = some (.tup [.str "cut"]) := by
  have hp : Paired (PrT H [n0, n1, n2]) ts [(0, .take 1), (1, .num "skip" z 2), (2, .fin "cut")] := h.prs
  cases hp with
  | cons a hp =>
    cases hp with
    | cons b hp =>
      cases hp with
      | cons c hp =>
        cases hp
        obtain ⟨p0, x0, rfl, h0, t0, rfl, g0⟩ := a
        obtain ⟨p1, x1, rfl, h1, t1, rfl, g1⟩ := b
        obtain ⟨p2, x2, rfl, h2, t2, rfl, g2⟩ := c
        exact ⟨p0, p1, p2, t0, t1, t2, rfl, h0, h1, h2, g0, g1, g2⟩
theorem put3 {n0 n1 n2 : Str} {v0 v1 v2 : V} (d01 : n0 ≠ n1) (d02 : n0 ≠ n2) (d12 : n1 ≠ n2) : putK ((kv3 n0 n1 n2 v0 v1 v2).take 0) (Sum.inr n0) v0 = (kv3 n0 n1 n2 v0 v1 v2).take 1 ∧ putK ((kv3 n0 n1 n2 v0 v1 v2).take 1) (Sum.inr n1) v1 = (kv3 n0 n1 n2 v0 v1 v2).take 2 ∧ putK ((kv3 n0 n1 n2 v0 v1 v2).take 2) (Sum.inr n2) v2 = (kv3 n0 n1 n2 v0 v1 v2).take 3 := by
  unfold putK kv3
  simp [d01, d02, d12]
theorem dcF {i : Nat} {rd C dx a : Addr} {fs : List (Str × V)} {f : Str} {xs : List V} {g : TG} {t : TT} {tk tv : TE} {vs : List Nat} {σ : L2.St} {H : Hp} {Q : VK} (hi : σ[i]? = some (some (.ref rd))) (hrd : H rd = some (.ins C dx fs)) (cl : Cls K C) (na : NoAttr K C f) (hl : fs.lookup f = some (.ref a)) (h : SqT K H a xs) (q : ∀ D, H D = none → ∃ Pv : Nat → Hp → Prop, Pv 0 (upd H D (.dK [])) ∧ (∀ i H, i ≤ xs.length → Pv i H → SqT K H a xs) ∧
    (∀ i x H, xs[i]? = some x → Pv i H → g x (wipe σ vs) H fun σ2 H2 => wipe σ2 vs = wipe σ vs ∧ t σ2 H2 fun b H3 => if b = true then tk σ2 H3 fun y H4 => tv σ2 H4 fun z H5 => ∃ kvs k, y = kV k ∧ H5 D = some (.dK kvs) ∧ kvs.length < sizeLine ∧ Pv (i + 1) (upd H5 D (.dK (putK kvs k z))) else Pv (i + 1) H3) ∧ ∀ H, Pv xs.length H → Q (.ref D) H) : tDc (iTup K (tFld K (tVar i) f)) g t tk tv vs σ H Q :=
  Exists.intro (.ref rd) ⟨hi, rd, C, dx, fs, .ref a, rfl, hrd, cl, na, hl, a, rfl, ⟨xs, h⟩, fun D hD => let ⟨Pv, p0, pl, ps, pd⟩ := q D hD; dc_tup (xs := xs) (Qd := fun H => Q (.ref D) H) Pv p0 pl ps pd⟩
def spMacInit (K : PySem.W.Frag) (C CR : Addr) : Sp := fun vs H Q _ => ∃ (a dx rd tp : Addr) (ts : List V) (n0 n1 n2 : Str) (z : Int), vs = [.ref a, .ref rd] ∧ H a = some (.ins C dx []) ∧ Rdr CR H rd tp ∧ Kept H tp ts [n0, n1, n2] (ls3 z) ∧
  ∀ b H', Ex (hid [a] H) (hid [a] H') → MacAt C H' a n0 n1 n2 z → (∃ dx fs, H' a = some (.ins C dx fs) ∧ fs.lookup ("begin" : Str) = some b) → StAt n0 n1 H' b (some .tk) → Q .non H'
theorem ok_Machine___init (T : Mtx w K mg) : FnOk P w K mg base CX0 4 T.f_Machine___init T.d_Machine___init ["self", "reader"] (spMacInit K T.c_Machine T.r.p.c_Reader) := by
  refine T.F_Machine___init.ok sc_Machine___init (fun vs H Q E h => ?_) (fun cdv A outer s H vs Q E hr h => ?_)
  · obtain ⟨a, dx, rd, tp, ts, n0, n1, n2, z, rfl, _⟩ := h
    rfl
  · obtain ⟨a, dx, rd, tp, ts, n0, n1, n2, z, rfl, ha, hR, hK, k⟩ := h
    refine ⟨_, (pss_cons (ps_fld (pv 0) (pe_dc (g := gTup K 2 (gCons (gName 2) (gCons (gName 3) gNil))) rfl sc_Machine___init.nd (pi_tup (pe_fld (pv 1) rfl)) (blkOk_by (own := [("name", 2), ("line", 3)]) (N := ["self", "reader", "name", "line"]) (sc := defScope s_Machine___init) (by decide +kernel)) (fun _ _ _ _ _ => (pg_tup (by rfl) (pgs_cons (pg_name (i := 2) sc_Machine___init.nd rfl (Or.inl rfl)) (pgs_cons (pg_name (i := 3) sc_Machine___init.nd rfl (Or.inl rfl)) pgs_nil)))) (fun _ _ _ _ _ => pts_nil) (fun _ _ _ _ _ => (pv 2)) (fun _ _ _ _ _ => (pv 3))) rfl)
      (pss_cons (ps_fld (pv 0) (pe_ix ix_tup (pe_ix ix_tup (pe_fld (pv 1) rfl) pe_int (fun _ _ => rfl)) pe_int (fun _ _ => rfl)) rfl)
      (pss_one (ps_fld (pv 0) (pe_ix ix_tup (pe_meth (pv 0) T.cl_Machine T.h_Machine_come (ok_Machine_come T) (hr.mono (by decide)) T.b_Machine_come .nil pass0 (pa_cons (pe_fld (pv 0) rfl) (pa_cons pe_non pa_nil))) pe_int (fun _ _ => rfl)) rfl)))), ?_⟩
    have hS : start ["self", "reader", "name", "line"] [V.ref a, .ref rd] = [some (.ref a), some (.ref rd), none, none] := rfl
    rw [hS]
    have hnd := hK.fms.nd
    have d01 : n0 ≠ n1 := fun e => by simp [e] at hnd
    have d02 : n0 ≠ n2 := fun e => by simp [e] at hnd
    have d12 : n1 ≠ n2 := fun e => by simp [e] at hnd
    have htp := hK.at_
    obtain ⟨p0, p1, p2, t0, t1, t2, rfl, g0, g1, g2, h0, h1, h2⟩ := kept3 hK
    obtain ⟨q0, q1, q2⟩ := @put3 n0 n1 n2 (.ref t0) (.ref t1) (.ref t2) d01 d02 d12
    walk_at "rd"
    refine i_sfld ?_
    obtain ⟨dr, hrd⟩ := id hR
    refine dcF (xs := [.ref p0, .ref p1, .ref p2]) rfl hrd T.r.p.cl_Reader T.r.p.n_lines rfl (SqT.of htp) (fun D hD => ⟨fun i H2 => H2 D = some (.dK ((kv3 n0 n1 n2 (.ref t0) (.ref t1) (.ref t2)).take i)) ∧ Ex H H2, ⟨upd_same, Ex.new hD⟩, fun i H2 _ h => SqT.of (h.2 _ _ htp), ?_, ?_⟩)
    · rintro i x H2 hx ⟨hDd, ex2⟩
      have i3 : i < 3 := (List.getElem?_eq_some_iff.mp hx).1
      obtain ⟨p, m, tm, rfl, hp, hput⟩ : ∃ (p : Addr) (m : Str) (tm : Addr), x = .ref p ∧ H p = some (.tup [.str m, .ref tm]) ∧ putK ((kv3 n0 n1 n2 (.ref t0) (.ref t1) (.ref t2)).take i) (Sum.inr m) (.ref tm) = (kv3 n0 n1 n2 (.ref t0) (.ref t1) (.ref t2)).take (i + 1) := by
        rcases i with _ | _ | _ | i
        · exact ⟨p0, n0, t0, (Option.some.inj hx).symm, g0, q0⟩
        · exact ⟨p1, n1, t1, (Option.some.inj hx).symm, g1, q1⟩
        · exact ⟨p2, n2, t2, (Option.some.inj hx).symm, g2, q2⟩
        · omega
      have hp2 := ex2 _ _ hp
      walk_at "rd"
      refine ⟨rfl, ?_⟩
      walk_at "rd"
      refine ⟨_, Sum.inr m, rfl, hDd, small1000 (by rw [List.length_take]; omega), ?_, ex_mut ex2 hD⟩
      rw [upd_same, hput]
    rintro H2 ⟨hDd, ex2⟩
    have hDd : H2 D = some (.dK (kv3 n0 n1 n2 (.ref t0) (.ref t1) (.ref t2))) := hDd
    have ha2 := ex2 _ _ ha
    walk_at "rd"
    refine ⟨a, T.c_Machine, dx, [], rfl, ha2, T.cl_Machine, T.n_lines, by decide, ?_⟩
    have hDa : D ≠ a := fun e => by rw [e, ha2] at hDd; cases hDd
    have hrn : rd ≠ a := fun e => by
      rw [e, ha] at hrd
      injection Option.some.inj hrd with _ _ h3
      cases h3
    have put : ∀ {G : Hp} {fs fs' : List (Str × V)} {b : Addr} {o : HO}, G a = some (.ins T.c_Machine dx fs) → G b = some o → b ≠ a → upd G a (.ins T.c_Machine dx fs') b = some o := fun _ hb hn => by
      rw [upd_ne hn]
      exact hb
    have tn : ∀ {b : Addr} {xs : List V}, H2 b = some (.tup xs) → b ≠ a := fun hb e => by rw [e, ha2] at hb; cases hb
    have hx0 := ex2 _ _ h0
    have hx1 := ex2 _ _ h1
    have hx2 := ex2 _ _ h2
    have hxp := ex2 _ _ g0
    have hxt := ex2 _ _ htp
    have hxr := ex2 _ _ hrd
    have hA1 : upd H2 a (.ins T.c_Machine dx (putF "lines" (.ref D) [])) a = some (.ins T.c_Machine dx [("lines", .ref D)]) := upd_same
    have y0 := put (fs' := [("lines", .ref D)]) ha2 hx0 (tn hx0)
    have y1 := put (fs' := [("lines", .ref D)]) ha2 hx1 (tn hx1)
    have y2 := put (fs' := [("lines", .ref D)]) ha2 hx2 (tn hx2)
    have yp := put (fs' := [("lines", .ref D)]) ha2 hxp (tn hxp)
    have yt := put (fs' := [("lines", .ref D)]) ha2 hxt (tn hxt)
    have yr := put (fs' := [("lines", .ref D)]) ha2 hxr hrn
    have yD := put (fs' := [("lines", .ref D)]) ha2 hDd hDa
    have eA : hid [a] (upd H2 a (.ins T.c_Machine dx (putF "lines" (.ref D) []))) = hid [a] H2 := hid_upd List.mem_cons_self
    have tn1 : ∀ {b : Addr} {xs : List V}, upd H2 a (.ins T.c_Machine dx (putF "lines" (.ref D) [])) b = some (.tup xs) → b ≠ a := fun hb e => by rw [e, upd_same] at hb; cases hb
    change upd H2 a (.ins T.c_Machine dx (putF "lines" (.ref D) [])) t0 = _ at y0
    change upd H2 a (.ins T.c_Machine dx (putF "lines" (.ref D) [])) t1 = _ at y1
    change upd H2 a (.ins T.c_Machine dx (putF "lines" (.ref D) [])) t2 = _ at y2
    change upd H2 a (.ins T.c_Machine dx (putF "lines" (.ref D) [])) p0 = _ at yp
    change upd H2 a (.ins T.c_Machine dx (putF "lines" (.ref D) [])) tp = _ at yt
    change upd H2 a (.ins T.c_Machine dx (putF "lines" (.ref D) [])) rd = _ at yr
    change upd H2 a (.ins T.c_Machine dx (putF "lines" (.ref D) [])) D = _ at yD
    generalize upd H2 a (.ins T.c_Machine dx (putF "lines" (.ref D) [])) = G1 at hA1 y0 y1 y2 yp yt yr yD eA tn1 ⊢
    walk_at "rd"
    refine i_sfld ?_
    walk_at "rd"
    refine i_fld ?_
    walk_at "rd"
    refine ⟨rd, _, dr, _, _, rfl, yr, T.r.p.cl_Reader, T.r.p.n_lines, rfl, ?_⟩
    walk_at "rd"
    refine ⟨a, T.c_Machine, dx, _, rfl, hA1, T.cl_Machine, T.n_first, by show 1 < 1000; decide, ?_⟩
    have w0 := put (fs' := fs2 D n0) hA1 y0 (tn1 y0)
    have w1 := put (fs' := fs2 D n0) hA1 y1 (tn1 y1)
    have w2 := put (fs' := fs2 D n0) hA1 y2 (tn1 y2)
    have wD := put (fs' := fs2 D n0) hA1 yD hDa
    have eB : hid [a] (upd G1 a (.ins T.c_Machine dx (fs2 D n0))) = hid [a] G1 := hid_upd List.mem_cons_self
    have hA2 : upd G1 a (.ins T.c_Machine dx (fs2 D n0)) a = some (.ins T.c_Machine dx (fs2 D n0)) := upd_same
    have eP : putF "first" (V.str n0) [("lines", .ref D)] = fs2 D n0 := rfl
    rw [eP]
    generalize upd G1 a (.ins T.c_Machine dx (fs2 D n0)) = G2 at hA2 w0 w1 w2 wD eB ⊢
    have hM : MacAt T.c_Machine G2 a n0 n1 n2 z := ⟨⟨dx, _, D, t0, t1, t2, hA2, rfl, rfl, rfl, rfl, rfl, wD, w0, w1, w2⟩, d01, d02, d12⟩
    walk_at "rd"
    refine i_sfld ?_
    walk_at "rd"
    refine i_meth ?_
    walk_at "rd"
    refine ⟨a, dx, _, rfl, hA2, by with_unfolding_all rfl, ?_⟩
    walk_at "rd"
    refine i_fld ?_
    walk_at "rd"
    refine ⟨a, T.c_Machine, dx, _, _, rfl, hA2, T.cl_Machine, T.n_first, rfl, ?_⟩
    walk_at "rd"
    refine ⟨a, n0, n1, n2, n0, z, .non, (some .tk, false), rfl, hM, .inl ⟨rfl, rfl, rfl⟩, fun v H' ex hout => ?_⟩
    obtain ⟨t, x, rfl, ht, hx⟩ := hout
    walk_at "rd"
    have hA' := ex _ _ hA2
    refine ⟨a, T.c_Machine, dx, _, rfl, hA', T.cl_Machine, T.n_begin, by show 2 < 1000; decide, ?_⟩
    have tn2 : ∀ {b : Addr} {xs : List V}, H' b = some (.tup xs) → b ≠ a := fun hb e => by rw [e, hA'] at hb; cases hb
    have fin : ∀ {b : Addr} {xs : List V}, H' b = some (.tup xs) → upd H' a (.ins T.c_Machine dx (putF "begin" x (fs2 D n0))) b = some (.tup xs) := fun hb => by
      rw [upd_ne (tn2 hb)]
      exact hb
    refine k x _ ?_ ⟨⟨dx, _, D, t0, t1, t2, upd_same, rfl, rfl, rfl, rfl, rfl, by rw [upd_ne hDa]; exact ex _ _ wD, fin (ex _ _ w0), fin (ex _ _ w1), fin (ex _ _ w2)⟩, d01, d02, d12⟩ ⟨dx, _, upd_same, rfl⟩ ?_
    · rw [hid_upd List.mem_cons_self]
      refine Ex.trans ?_ (hid_ex ex)
      rw [eB, eA]
      exact hid_ex ex2
    · obtain ⟨b, h1, h2⟩ := hx
      exact ⟨b, h1, fin h2⟩
end
end K02

namespace K02
open PySem L2
local macro_rules | `(tactic| walk_at "rd1") => `(tactic| first
  | (with_reducible refine Wh.i_seqM ?_) | (with_reducible refine Rd.i_seq ?_) | (with_reducible refine Rd.i_asg ?_) | (with_reducible refine Wh.i_nameS ?_) | (with_reducible refine Rd.i_name ?_) | (with_reducible refine Rd.i_nx ?_) | (with_reducible refine Rd.i_rt ?_) | (with_reducible refine Rd.i_next ?_) | (with_reducible refine Rd.i_ct ?_) | (with_reducible refine Rd.i_bk ?_)
  | (with_reducible refine Rd.i_ret ?_) | (with_reducible refine Rd.i_drop ?_) | (with_reducible refine Rd.i_ifS ?_) | (with_reducible refine Rd.i_sub ?_)
  | ((with_reducible refine Wh.g_var ?_); (with_reducible refine Rd.i_var (by with_unfolding_all exact rfl) ?_)) | (with_reducible refine Rd.i_c ?_) | (with_reducible refine Rd.i_op ?_) | (with_reducible refine Rd.i_un ?_)
  | (with_reducible refine Rd.i_rI0 ?_) | ((with_reducible refine Wh.g_rI ?_); (with_reducible refine Rd.i_rI (by with_unfolding_all first | omega | exact Rd.mulL (by omega) (by omega) | exact Rd.mulR (by omega) (by omega) | decide | (refine ⟨?_, ?_⟩ <;> omega) | (refine ⟨?_, ?_, ?_⟩ <;> omega)) ?_))
  | ((with_reducible refine Wh.g_rEq ?_); (with_reducible refine Rd.i_rEq (by with_unfolding_all exact rfl) ?_)) | ((with_reducible refine Wh.g_rNe ?_); (with_reducible refine Rd.i_rNe (by with_unfolding_all exact rfl) ?_))
  | (with_reducible refine Rd.i_test ?_) | (with_reducible refine Rd.i_tB ?_) | (with_reducible refine Rd.i_bl ?_) | (with_reducible refine Rd.i_and ?_) | (with_reducible refine Rd.i_or ?_) | (with_reducible refine Rd.i_not ?_) | (with_reducible refine Rd.i_notV ?_) | (with_reducible refine Rd.i_andV ?_) | (with_reducible refine Rd.i_orV ?_) | (with_reducible refine Rd.i_if ?_) | (with_reducible refine Rd.i_chain ?_)
  | (with_reducible refine Rd.i_call ?_) | (with_reducible refine Rd.i_nil ?_) | (with_reducible refine Rd.i_cons ?_) | (with_reducible refine Rd.i_cb ?_) | (with_reducible refine Rd.i_bm ?_) | (with_reducible refine Rd.i_bm0 ?_) | (with_reducible refine Rd.i_tup ?_) | (with_reducible refine Rd.i_lst ?_)
  | (with_reducible refine Rd.i_int1 ?_) | (with_reducible refine Rd.i_intb ?_) | (with_reducible refine Rd.i_max ?_)
  | ((with_reducible refine Wh.g_ixL ?_); (with_reducible refine Rd.i_ixL (SqL.of (by first | assumption | exact upd_same)) (by with_unfolding_all first | exact rfl | exact atI_nat rfl) ?_)) | ((with_reducible refine Wh.g_ixT ?_); (with_reducible refine Rd.i_ixT (SqT.of (by first | assumption | exact upd_same)) (by with_unfolding_all exact rfl) ?_))
  | ((with_reducible refine Wh.g_setL ?_); (with_reducible refine Rd.i_setL (by first | assumption | exact upd_same) (by with_unfolding_all exact rfl) ?_))
  | (with_reducible refine Xv.i_mkV ?_) | (with_reducible refine Xv.i_xat ?_)
  | (with_reducible refine Rd.i_yes ?_) | (with_reducible refine Rd.i_m1 ?_) | (with_reducible refine Rd.i_m0 ?_) | (with_reducible refine Rd.ite_T ?_) | (with_reducible refine Rd.ite_F ?_) | (with_reducible refine Rd.i_forR ?_) | (with_reducible refine Rd.i_forL ?_) | (with_reducible refine Rd.i_forT ?_)
  | (with_reducible refine Hd.i_rU ?_) | (with_reducible refine Hd.i_pcons ?_) | (with_reducible refine Hd.i_pnil ?_) | (with_reducible refine Hd.i_disp ?_) | (with_reducible refine Hd.i_dget ?_)
  | (with_reducible refine Hd.i_lstRg ?_) | (with_reducible refine Hd.i_rg1 ?_) | (with_reducible refine Hd.i_rg2 ?_) | (with_reducible refine Hd.i_ex1 ?_) | (with_reducible refine Hd.i_ex2 ?_)
  | ((with_reducible refine Wh.g_gtup ?_); (with_reducible refine Rd.i_gtup (SqT.of (by first | assumption | exact upd_same)) (by with_unfolding_all exact rfl) ?_)) | (with_reducible refine Rd.i_gcons ?_) | (with_reducible refine Rd.i_gnil ?_)
  | ((with_reducible refine Wh.g_len ?_); (with_reducible refine Rd.i_lenT (SqT.of (by first | assumption | exact upd_same)) ?_)) | ((with_reducible refine Wh.g_len ?_); (with_reducible refine Rd.i_len (SqL.of (by first | assumption | exact upd_same)) ?_))
  | ((with_reducible refine Wh.g_ite ?_); (with_reducible refine Nr.ite_eF (by first | decide +kernel | with_unfolding_all exact rfl) ?_)) | ((with_reducible refine Wh.g_ite ?_); (with_reducible refine Nr.ite_eT (by first | decide +kernel | with_unfolding_all exact rfl) ?_))
  | ((with_reducible refine Wh.g_tyL ?_); (with_reducible refine Nr.i_tyL (by first | assumption | exact upd_same) ?_))
  | ((with_reducible refine Wh.g_tup ?_); (with_reducible refine Nr.i_tupT (SqT.of (by first | assumption | exact upd_same)) ?_))
  | (with_reducible refine Nr.i_sl ?_) | (with_reducible refine Nr.i_part ?_) | (with_reducible refine Nr.i_nop ?_) | (with_reducible refine Nr.i_star ?_)
  | fail "stop")
local macro_rules | `(tactic| walk_at "rd") => `(tactic| repeat walk_at "rd1")
section
variable {P : Program} {w : World} {K : PySem.W.Frag} {mg : Str → Option Value} {base : Heap}
open Evl Hd
/-- where a line leads to behind its last cell -/
def behF (z : Int) : Jn.St → Int → Option Jn.St × Bool
  | .tk, c => Jn.stepF z .tk c
  | .sk _, _ => (some .tk, true)
def spBehind (C : Addr) : Sp := fun vs H Q _ => ∃ (a st : Addr) (n0 n1 n2 : Str) (z c : Int) (s : Jn.St), vs = [.ref a, .ref st, .int c, .int c] ∧ MacAt C H a n0 n1 n2 z ∧ StAt n0 n1 H (.ref st) (some s) ∧ ∀ v H', Ex H H' → OutAt n0 n1 H' v (behF z s c) → Q v H'
theorem ok_Machine_behind (T : Mtx w K mg) : FnOk P w K mg base CX0 3 T.f_Machine_behind T.d_Machine_behind ["self", "stand", "cell", "taken"] (spBehind T.c_Machine) := by
  refine T.F_Machine_behind.ok sc_Machine_behind (fun vs H Q E h => ?_) (fun cdv A outer s H vs Q E hr h => ?_)
  · obtain ⟨a, st, n0, n1, n2, z, c, s, rfl, _⟩ := h
    rfl
  · obtain ⟨a, st, n0, n1, n2, z, c, sd, rfl, hM, hst, k⟩ := h
    refine ⟨_, (pss_cons (ps_asg (pv 1) (pg_tup (by rfl) (pgs_cons (pg_name (i := 4) sc_Machine_behind.nd rfl (Or.inl rfl)) (pgs_cons (pg_name (i := 5) sc_Machine_behind.nd rfl (Or.inl rfl)) (pgs_cons (pg_name (i := 6) sc_Machine_behind.nd rfl (Or.inl rfl)) pgs_nil)))))
      (pss_cons (ps_set (i := 7) sc_Machine_behind.nd rfl (Or.inl rfl) (pe_dget (hu_of hr) (pe_fld (pv 0) rfl) (pv 4) (fun _ _ => rfl)))
      (pss_cons (ps_set (i := 8) sc_Machine_behind.nd rfl (Or.inl rfl) (pe_ix ix_tup (pv 7) pe_int (fun _ _ => rfl)))
      (pss_cons (ps_if (pt_cmpR op_eq (pv 8) pe_str (nomark _))
        (pss_one (ps_ret (pe_meth (pv 0) T.cl_Machine T.h_Machine_come (ok_Machine_come T) (hr.mono (by decide)) T.b_Machine_come .nil pass0 (pa_cons (pe_call (ok_way T) (hr.mono (by decide)) rfl T.m_way T.F_way.kp T.b_way .nil pass0 (pa_cons (pv 7) (pa_cons (pv 2) pa_nil))) (pa_cons (pv 5) pa_nil)))))
        pss_nil)
      (pss_cons (ps_if (pt_cmpR op_eq (pv 8) pe_str (nomark _))
        (pss_one (ps_set (i := 5) sc_Machine_behind.nd rfl (Or.inl rfl) (pv 3)))
        (pss_one (ps_if (pt_cmpR op_eq (pv 8) pe_str (nomark _))
          (pss_one (ps_set (i := 5) sc_Machine_behind.nd rfl (Or.inl rfl) (pe_op op_modN (pv 2) (pe_ix ix_tup (pv 7) pe_int (fun _ _ => rfl)))))
          (pss_one (ps_if (pt_cmpR op_eq (pv 8) pe_str (nomark _))
            (pss_one (ps_set (i := 5) sc_Machine_behind.nd rfl (Or.inl rfl) (pe_callB (call_min2 rfl) (by rfl) T.z_min (by decide +kernel) (pa_cons (pv 2) (pa_cons (pe_ix ix_tup (pv 7) pe_int (fun _ _ => rfl)) pa_nil)))))
            pss_nil)))))
      (pss_one (ps_ret (pe_meth (pv 0) T.cl_Machine T.h_Machine_come (ok_Machine_come T) (hr.mono (by decide)) T.b_Machine_come .nil pass0 (pa_cons (pe_ix ix_tup (pv 7) (pe_un un_neg pe_int) (fun _ _ => rfl)) (pa_cons (pv 5) pa_nil)))))))))), ?_⟩
    have hS : start ["self", "stand", "cell", "taken", "name", "kept", "_", "line", "word"] [V.ref a, .ref st, .int c, .int c] = [some (.ref a), some (.ref st), some (.int c), some (.int c), none, none, none, none, none] := rfl
    rw [hS]
    obtain ⟨⟨dx, fs, d, t0, t1, t2, ha, f1, f2, f3, f4, f5, hd, h0, h1, h2⟩, d01, d02, d12⟩ := id hM
    obtain ⟨v0, v1, v2⟩ := @val3 n0 n1 n2 (.ref t0) (.ref t1) (.ref t2) d01 d02 d12
    cases sd with
    | tk =>
      obtain ⟨b, hb, hst⟩ := hst
      cases hb
      walk_at "rd"
      refine i_fld ?_
      walk_at "rd"
      refine ⟨a, _, dx, fs, _, rfl, ha, T.cl_Machine, T.n_lines, f1, ?_⟩
      walk_at "rd"
      refine ⟨d, .ref t0, rfl, dgetS hd v0, ?_⟩
      walk_at "rd"
      refine i_meth ?_
      walk_at "rd"
      refine ⟨a, dx, fs, rfl, ha, f3, ?_⟩
      walk_at "rd"
      refine ⟨a, n0, n1, n2, n1, z, .int c, Jn.stepF z .tk c, rfl, hM, .inr (.inl ⟨c, rfl, rfl, rfl⟩), fun v H' ex ho => k v H' ex ho⟩
    | sk l =>
      obtain ⟨b, hb, hst⟩ := hst
      cases hb
      walk_at "rd"
      refine i_fld ?_
      walk_at "rd"
      refine ⟨a, _, dx, fs, _, rfl, ha, T.cl_Machine, T.n_lines, f1, ?_⟩
      walk_at "rd"
      refine ⟨d, .ref t1, rfl, dgetS hd v1, ?_⟩
      walk_at "rd"
      refine i_meth ?_
      walk_at "rd"
      refine ⟨a, dx, fs, rfl, ha, f3, ?_⟩
      walk_at "rd"
      refine ⟨a, n0, n1, n2, n2, z, .non, (some .tk, true), rfl, hM, .inr (.inr ⟨rfl, rfl, rfl⟩), fun v H' ex ho => k v H' ex ho⟩
end
end K02

namespace K02
open PySem L2
local macro_rules | `(tactic| walk_at "rd1") => `(tactic| first
  | (with_reducible refine Wh.i_seqM ?_) | (with_reducible refine Rd.i_seq ?_) | (with_reducible refine Rd.i_asg ?_) | (with_reducible refine Wh.i_nameS ?_) | (with_reducible refine Rd.i_name ?_) | (with_reducible refine Rd.i_nx ?_) | (with_reducible refine Rd.i_rt ?_) | (with_reducible refine Rd.i_next ?_) | (with_reducible refine Rd.i_ct ?_) | (with_reducible refine Rd.i_bk ?_)
  | (with_reducible refine Rd.i_ret ?_) | (with_reducible refine Rd.i_drop ?_) | (with_reducible refine Rd.i_ifS ?_) | (with_reducible refine Rd.i_sub ?_)
  | ((with_reducible refine Wh.g_var ?_); (with_reducible refine Rd.i_var (by with_unfolding_all exact rfl) ?_)) | (with_reducible refine Rd.i_c ?_) | (with_reducible refine Rd.i_op ?_) | (with_reducible refine Rd.i_un ?_)
  | (with_reducible refine Rd.i_rI0 ?_) | ((with_reducible refine Wh.g_rI ?_); (with_reducible refine Rd.i_rI (by with_unfolding_all first | omega | exact Rd.mulL (by omega) (by omega) | exact Rd.mulR (by omega) (by omega) | decide | (refine ⟨?_, ?_⟩ <;> omega) | (refine ⟨?_, ?_, ?_⟩ <;> omega)) ?_))
  | ((with_reducible refine Wh.g_rEq ?_); (with_reducible refine Rd.i_rEq (by with_unfolding_all exact rfl) ?_)) | ((with_reducible refine Wh.g_rNe ?_); (with_reducible refine Rd.i_rNe (by with_unfolding_all exact rfl) ?_))
  | (with_reducible refine Rd.i_test ?_) | (with_reducible refine Rd.i_tB ?_) | (with_reducible refine Rd.i_bl ?_) | (with_reducible refine Rd.i_and ?_) | (with_reducible refine Rd.i_or ?_) | (with_reducible refine Rd.i_not ?_) | (with_reducible refine Rd.i_notV ?_) | (with_reducible refine Rd.i_andV ?_) | (with_reducible refine Rd.i_orV ?_) | (with_reducible refine Rd.i_if ?_) | (with_reducible refine Rd.i_chain ?_)
  | (with_reducible refine Rd.i_call ?_) | (with_reducible refine Rd.i_nil ?_) | (with_reducible refine Rd.i_cons ?_) | (with_reducible refine Rd.i_cb ?_) | (with_reducible refine Rd.i_bm ?_) | (with_reducible refine Rd.i_bm0 ?_) | (with_reducible refine Rd.i_tup ?_) | (with_reducible refine Rd.i_lst ?_)
  | (with_reducible refine Rd.i_int1 ?_) | (with_reducible refine Rd.i_intb ?_) | (with_reducible refine Rd.i_max ?_)
  | ((with_reducible refine Wh.g_ixL ?_); (with_reducible refine Rd.i_ixL (SqL.of (by first | assumption | exact upd_same)) (by with_unfolding_all first | exact rfl | exact atI_nat rfl) ?_)) | ((with_reducible refine Wh.g_ixT ?_); (with_reducible refine Rd.i_ixT (SqT.of (by first | assumption | exact upd_same)) (by with_unfolding_all exact rfl) ?_))
  | ((with_reducible refine Wh.g_setL ?_); (with_reducible refine Rd.i_setL (by first | assumption | exact upd_same) (by with_unfolding_all exact rfl) ?_))
  | (with_reducible refine Xv.i_mkV ?_) | (with_reducible refine Xv.i_xat ?_)
  | (with_reducible refine Rd.i_yes ?_) | (with_reducible refine Rd.i_m1 ?_) | (with_reducible refine Rd.i_m0 ?_) | (with_reducible refine Rd.ite_T ?_) | (with_reducible refine Rd.ite_F ?_) | (with_reducible refine Rd.i_forR ?_) | (with_reducible refine Rd.i_forL ?_) | (with_reducible refine Rd.i_forT ?_)
  | (with_reducible refine Hd.i_rU ?_) | (with_reducible refine Hd.i_pcons ?_) | (with_reducible refine Hd.i_pnil ?_) | (with_reducible refine Hd.i_disp ?_) | (with_reducible refine Hd.i_dget ?_)
  | (with_reducible refine Hd.i_lstRg ?_) | (with_reducible refine Hd.i_rg1 ?_) | (with_reducible refine Hd.i_rg2 ?_) | (with_reducible refine Hd.i_ex1 ?_) | (with_reducible refine Hd.i_ex2 ?_)
  | ((with_reducible refine Wh.g_gtup ?_); (with_reducible refine Rd.i_gtup (SqT.of (by first | assumption | exact upd_same)) (by with_unfolding_all exact rfl) ?_)) | (with_reducible refine Rd.i_gcons ?_) | (with_reducible refine Rd.i_gnil ?_)
  | ((with_reducible refine Wh.g_len ?_); (with_reducible refine Rd.i_lenT (SqT.of (by first | assumption | exact upd_same)) ?_)) | ((with_reducible refine Wh.g_len ?_); (with_reducible refine Rd.i_len (SqL.of (by first | assumption | exact upd_same)) ?_))
  | ((with_reducible refine Wh.g_ite ?_); (with_reducible refine Nr.ite_eF (by first | decide +kernel | with_unfolding_all exact rfl) ?_)) | ((with_reducible refine Wh.g_ite ?_); (with_reducible refine Nr.ite_eT (by first | decide +kernel | with_unfolding_all exact rfl) ?_))
  | ((with_reducible refine Wh.g_tyL ?_); (with_reducible refine Nr.i_tyL (by first | assumption | exact upd_same) ?_))
  | ((with_reducible refine Wh.g_tup ?_); (with_reducible refine Nr.i_tupT (SqT.of (by first | assumption | exact upd_same)) ?_))
  | (with_reducible refine Nr.i_sl ?_) | (with_reducible refine Nr.i_part ?_) | (with_reducible refine Nr.i_nop ?_) | (with_reducible refine Nr.i_star ?_)
  | fail "stop")
local macro_rules | `(tactic| walk_at "rd") => `(tactic| repeat walk_at "rd1")
section
variable {P : Program} {w : World} {K : PySem.W.Frag} {mg : Str → Option Value} {base : Heap}
open Evl Hd
def AhAt (n0 n1 : Str) (H : Hp) (v : V) (r : Nat × Option Jn.St × Bool) : Prop := ∃ t o, v = .ref t ∧ H t = some (.tup [.int (r.1 : Int), o]) ∧ OutAt n0 n1 H o r.2
def spAhead (C : Addr) : Sp := fun vs H Q _ => ∃ (a st : Addr) (n0 n1 n2 : Str) (z c : Int) (n : Nat) (s : Jn.St), vs = [.ref a, .ref st, .int c, .int (n : Int)] ∧ 1 ≤ n ∧ MacAt C H a n0 n1 n2 z ∧ StAt n0 n1 H (.ref st) (some s) ∧ Jn.St.ok (some s) ∧ ∀ v H', Ex H H' → AhAt n0 n1 H' v (Jn.aheadF z s c n) → Q v H'
abbrev kq (m : Str) (l : Int) : List NestedKey := [.text m, .none, .num l]
theorem keyT_of {H : Hp} {m : Str} {l : Int} {t : Addr} (h : H t = some (.tup [.str m, .non, .int l])) : Nk.KeyT H (kq m l) t := ⟨_, h, .cons (.text _) (.cons .non (.cons (.num _) .nil))⟩
theorem kq_ne {m m' : Str} {l l' : Int} (h : m ≠ m') : kq m l ≠ kq m' l' := fun e => by
  injection e with e1 _
  exact h (NestedKey.text.inj e1)
/-- an entry more -/
theorem nk_snoc {H : Hp} {se t : Addr} {es : List Nk.Ent} {ks : List NestedKey} {v : V} (d : Nk.NkD P w H se es) (k : Nk.KeyT H ks t) (hn : ks ∉ es.map (·.1)) (hl : es.length < 1000) : Nk.NkD P w (upd H se (Nk.nkO P w se (es ++ [(ks, t, v)]))) se (es ++ [(ks, t, v)]) := by
  have tn : ∀ {b : Addr} {xs : List V}, H b = some (.tup xs) → upd H se (Nk.nkO P w se (es ++ [(ks, t, v)])) b = some (.tup xs) := fun {b xs} h => by
    rw [upd_ne fun (z : b = se) => by rw [z, d.at_] at h; cases h]
    exact h
  refine ⟨upd_same, fun x hx => ?_, ?_, d.low, by rw [List.length_append]; exact hl⟩
  · rcases List.mem_append.mp hx with h | h
    · exact (d.keys x h).mono fun _ _ => tn
    · rw [List.mem_singleton.mp h]
      exact k.mono fun _ _ => tn
  · rw [List.map_append, List.nodup_append]
    refine ⟨d.nd, by simp, fun a ha b hb => ?_⟩
    rw [List.map_cons, List.map_nil] at hb
    rw [List.mem_singleton.mp hb]
    exact fun e => hn ((show a = ks from e) ▸ ha)
theorem ok_Machine_ahead (T : Mtx w K mg) : FnOk P w K mg base CX0 4 T.f_Machine_ahead T.d_Machine_ahead ["self", "stand", "cell", "count"] (spAhead T.c_Machine) := by
  refine T.F_Machine_ahead.ok sc_Machine_ahead (fun vs H Q E h => ?_) (fun cdv A outer s H vs Q E hr h => ?_)
  · obtain ⟨a, st, n0, n1, n2, z, c, n, s, rfl, _⟩ := h
    rfl
  · obtain ⟨a, st, n0, n1, n2, z, c, n, sg, rfl, hn, hM, hst, hok, k⟩ := h
    refine ⟨_, (pss_cons (ps_set (i := 4) sc_Machine_ahead.nd rfl (Or.inl rfl) pe_int)
      (pss_cons (ps_set (i := 5) sc_Machine_ahead.nd rfl (Or.inl rfl) Nk.pe_dnewN)
      (pss_cons (ps_while PassesOwn.never (pt_cmpR op_lt (pv 4) (pv 3) (nomark _))
        (pss_cons (ps_if (pt_cmpR (Nk.op_inN hr.units) (pv 1) (pv 5) (by rfl))
          (pss_cons (ps_set (i := 4) sc_Machine_ahead.nd rfl (Or.inl rfl) (pe_op op_sub (pv 3) (pe_op op_modN (pe_op op_sub (pv 3) (pv 4)) (pe_op op_sub (pv 4) (pe_dget (hu_of hr) (pv 5) (pv 1) (fun _ _ => rfl))))))
          (pss_cons (ps_set (i := 5) sc_Machine_ahead.nd rfl (Or.inl rfl) Nk.pe_dnewN)
          (pss_one ps_continue)))
          pss_nil)
        (pss_cons (ps_asg (pv 4) (pg_sub (pv 5) (pv 1) (Nk.set_dictN hr.units)))
        (pss_cons (ps_asg (pv 1) (pg_tup (by rfl) (pgs_cons (pg_name (i := 6) sc_Machine_ahead.nd rfl (Or.inl rfl)) (pgs_cons (pg_name (i := 7) sc_Machine_ahead.nd rfl (Or.inl rfl)) (pgs_cons (pg_name (i := 8) sc_Machine_ahead.nd rfl (Or.inl rfl)) pgs_nil)))))
        (pss_cons (ps_set (i := 9) sc_Machine_ahead.nd rfl (Or.inl rfl) (pe_callB (call_min2 rfl) (by rfl) T.z_min (by decide +kernel) (pa_cons (pv 8) (pa_cons (pe_op op_sub (pv 3) (pv 4)) pa_nil))))
        (pss_cons (ps_set (i := 4) sc_Machine_ahead.nd rfl (Or.inl rfl) (pe_op op_add (pv 4) (pv 9)))
        (pss_one (ps_if (pt_cmpR op_lt (pv 9) (pv 8) (nomark _))
          (pss_one (ps_set (i := 1) sc_Machine_ahead.nd rfl (Or.inl rfl) (pe_tup (pa_cons (pv 6) (pa_cons (pv 7) (pa_cons (pe_op op_sub (pv 8) (pv 9)) pa_nil))))))
          (pss_cons (ps_asg (pe_meth (pv 0) T.cl_Machine T.h_Machine_behind (ok_Machine_behind T) (hr.mono (by decide)) T.b_Machine_behind .nil pass0 (pa_cons (pv 1) (pa_cons (pv 2) (pa_cons (pv 2) pa_nil)))) (pg_tup (by rfl) (pgs_cons (pg_name (i := 1) sc_Machine_ahead.nd rfl (Or.inl rfl)) (pgs_cons (pg_name (i := 10) sc_Machine_ahead.nd rfl (Or.inl rfl)) pgs_nil))))
          (pss_one (ps_if (pt_cmpR op_notN (pv 10) pe_non (nomark _))
            (pss_one (ps_ret (pe_tup (pa_cons (pv 4) (pa_cons (pe_tup (pa_cons (pv 1) (pa_cons (pv 10) pa_nil))) pa_nil)))))
            pss_nil)))))))))))
      (pss_one (ps_ret (pe_tup (pa_cons (pv 4) (pa_cons (pe_tup (pa_cons (pv 1) (pa_cons pe_non pa_nil))) pa_nil)))))))), ?_⟩
    have hS : start ["self", "stand", "cell", "count", "passed", "seen", "name", "kept", "left", "cells", "event"] [V.ref a, .ref st, .int c, .int (n : Int)] = [some (.ref a), some (.ref st), some (.int c), some (.int (n : Int)), none, none, none, none, none, none, none] := rfl
    rw [hS]
    obtain ⟨⟨dx, fs, d, t0, t1, t2, ha, f1, f2, f3, f4, f5, hd, h0, h1, h2⟩, d01, d02, d12⟩ := id hM
    walk_at "rd"
    refine Nk.i_dnewN (P := P) (w := w) ?_
    intro se nse low
    have exs : Ex H (upd H se (Nk.nkO P w se [])) := Ex.new nse
    have hse0 : Nk.NkD P w (upd H se (Nk.nkO P w se [])) se [] := ⟨upd_same, fun x hx => absurd hx List.not_mem_nil, List.nodup_nil, low, Nat.zero_le _⟩
    generalize upd H se (Nk.nkO P w se []) = Hc at exs hse0 ⊢
    walk_at "rd"
    refine Wh.startW 4 (fun W hW => ?_)
    cases sg with
    | sk l =>
      obtain ⟨b, hb, hsd⟩ := hst
      cases hb
      have hsd := exs _ _ hsd
      have exc := exs
      have hse := hse0
      have hnew : kq n1 (l : Int) ∉ (([] : List Nk.Ent).map (·.1)) := List.not_mem_nil
      have hes : ([] : List Nk.Ent).length < 1000 := by decide
      generalize hes0 : ([] : List Nk.Ent) = es at hse hnew hes
      have hl1 : 1 ≤ l := hok
      obtain ⟨pp, hpp⟩ : ∃ pp : Int, pp = 0 := ⟨0, rfl⟩
      rw [← hpp]
      have hlt : pp < (n : Int) := by omega
      have fin1 : (n : Int) - pp < l → Jn.aheadF z (.sk l) c n = (n, some (.sk (l - (n - pp.toNat))), false) := fun h => by
        rw [Jn.ah_sk, if_pos (by omega)]
        congr 4
        omega
      have fin2 : ¬ (n : Int) - pp < l → Jn.aheadF z (.sk l) c n = (pp.toNat + l, some .tk, true) := fun h => by
        rw [Jn.ah_sk, if_neg (by omega)]
        congr 1
        omega
      refine hW _ _ _ ?_
      walk_at "rd"
      refine Rd.ite_d (fun _ => ?_) (fun h => absurd hlt h)
      refine Wh.goW ?_
      walk_at "rd"
      refine Nk.i_inN (P := P) (w := w) hse (keyT_of hsd) ?_
      rw [decide_eq_false hnew]
      walk_at "rd"
      refine Nk.i_setN (P := P) (w := w) hse (keyT_of hsd) hnew hes ?_
      have hse2 := nk_snoc (v := .int pp) hse (keyT_of hsd) hnew hes
      have hsd2 : upd Hc se (Nk.nkO P w se (es ++ [(kq n1 (l : Int), st, .int pp)])) st = some (.tup [.str n1, .non, .int (l : Int)]) := by
        rw [upd_ne fun (z : st = se) => by rw [z, hse.at_] at hsd; cases hsd]
        exact hsd
      have exd : Ex H (upd Hc se (Nk.nkO P w se (es ++ [(kq n1 (l : Int), st, .int pp)]))) := ex_mut exc nse
      generalize upd Hc se (Nk.nkO P w se (es ++ [(kq n1 (l : Int), st, .int pp)])) = Hd at hse2 hsd2 exd
      walk_at "rd"
      by_cases hs : (n : Int) - pp < l
      · rw [if_pos hs]
        walk_at "rd"
        refine Rd.ite_d (fun _ => ?_) (fun h => absurd hs h)
        walk_at "rd"
        refine ⟨by show 3 ≤ sizeLine; decide, fun s2 ns2 => ?_⟩
        walk_at "rd"
        refine hW _ _ _ ?_
        walk_at "rd"
        refine Rd.ite_d (fun h => absurd h (by omega)) (fun _ => ?_)
        walk_at "rd"
        refine ⟨by show 2 ≤ sizeLine; decide, fun t1 nt1 => ?_⟩
        walk_at "rd"
        refine ⟨by show 2 ≤ sizeLine; decide, fun t2 nt2 => ?_⟩
        walk_at "rd"
        refine k _ _ (exd.trans ((Ex.new ns2).trans ((Ex.new nt1).trans (Ex.new nt2)))) ?_
        rw [fin1 hs]
        refine ⟨t2, .ref t1, rfl, ?_, t1, .ref s2, rfl, (Ex.new nt2) _ _ upd_same, s2, rfl, (Ex.new nt2) _ _ ((Ex.new nt1) _ _ ?_)⟩
        · rw [upd_same]
          congr 4
          show pp + ((n : Int) - pp) = (n : Int)
          omega
        · rw [upd_same]
          congr 6
          show (l : Int) - ((n : Int) - pp) = ((l - (n - pp.toNat) : Nat) : Int)
          omega
      · rw [if_neg hs]
        walk_at "rd"
        refine Rd.ite_d (fun h => absurd h (by omega)) (fun _ => ?_)
        walk_at "rd"
        refine i_meth ?_
        walk_at "rd"
        refine ⟨a, dx, fs, rfl, exd _ _ ha, f4, ?_⟩
        walk_at "rd"
        refine ⟨a, st, n0, n1, n2, z, c, .sk l, rfl, hM.mono exd, ⟨st, rfl, hsd2⟩, fun v He exe ho => ?_⟩
        obtain ⟨to, xo, rfl, hto, hxo⟩ := ho
        have hto : He to = some (.tup [xo, .str "cut"]) := hto
        walk_at "rd"
        refine ⟨rfl, ?_⟩
        walk_at "rd"
        refine ⟨by show 2 ≤ sizeLine; decide, fun t1 nt1 => ?_⟩
        walk_at "rd"
        refine ⟨by show 2 ≤ sizeLine; decide, fun t2 nt2 => ?_⟩
        walk_at "rd"
        refine k _ _ ((exd.trans exe).trans ((Ex.new nt1).trans (Ex.new nt2))) ?_
        rw [fin2 hs]
        refine ⟨t2, .ref t1, rfl, ?_, t1, xo, rfl, (Ex.new nt2) _ _ upd_same, hxo.mono ((Ex.new nt1).trans (Ex.new nt2))⟩
        rw [upd_same]
        congr 4
        show pp + (l : Int) = ((pp.toNat + l : Nat) : Int)
        omega
    | tk =>
      obtain ⟨b, hb, hsd0⟩ := hst
      cases hb
      have hsdc := exs _ _ hsd0
      refine hW _ _ _ ?_
      walk_at "rd"
      refine Rd.ite_d (fun _ => ?_) (fun h => absurd (by omega) h)
      refine Wh.goW ?_
      walk_at "rd"
      refine Nk.i_inN (P := P) (w := w) hse0 (keyT_of hsdc) ?_
      rw [show decide (kq n0 1 ∈ (([] : List Nk.Ent).map (·.1))) = false from decide_eq_false List.not_mem_nil]
      walk_at "rd"
      refine Nk.i_setN (P := P) (w := w) hse0 (keyT_of hsdc) List.not_mem_nil (by decide) ?_
      have hse2 := nk_snoc (v := .int 0) hse0 (keyT_of hsdc) List.not_mem_nil (by decide)
      have hsd2 : upd Hc se (Nk.nkO P w se ([] ++ [(kq n0 1, st, .int 0)])) st = some (.tup [.str n0, .non, .int 1]) := by
        rw [upd_ne fun (z : st = se) => by rw [z, hse0.at_] at hsdc; cases hsdc]
        exact hsdc
      have exd : Ex H (upd Hc se (Nk.nkO P w se ([] ++ [(kq n0 1, st, .int 0)]))) := ex_mut exs nse
      generalize upd Hc se (Nk.nkO P w se ([] ++ [(kq n0 1, st, .int 0)])) = Hd at hse2 hsd2 exd
      walk_at "rd"
      rw [if_neg (show ¬ ((n : Int) - 0 < 1) by omega)]
      walk_at "rd"
      refine i_meth ?_
      walk_at "rd"
      refine ⟨a, dx, fs, rfl, exd _ _ ha, f4, ?_⟩
      walk_at "rd"
      refine ⟨a, st, n0, n1, n2, z, c, .tk, rfl, hM.mono exd, ⟨st, rfl, hsd2⟩, fun v He exe ho => ?_⟩
      obtain ⟨to, xo, rfl, hto, hxo⟩ := ho
      have ebe : behF z .tk c = Jn.stepF z .tk c := rfl
      rw [ebe, Jn.step_tk] at hto hxo
      have exf := exd.trans exe
      by_cases l0 : c + z < 0
      · rw [if_pos l0] at hto hxo
        have hto : He to = some (.tup [xo, .str "refuse"]) := hto
        walk_at "rd"
        refine ⟨rfl, ?_⟩
        walk_at "rd"
        have hxo : xo = .non := hxo
        subst hxo
        walk_at "rd"
        refine ⟨by show 2 ≤ sizeLine; decide, fun t1 nt1 => ?_⟩
        walk_at "rd"
        refine ⟨by show 2 ≤ sizeLine; decide, fun t2 nt2 => ?_⟩
        walk_at "rd"
        refine k _ _ (exf.trans ((Ex.new nt1).trans (Ex.new nt2))) ?_
        rw [Jn.ah_tk, if_pos l0]
        exact ⟨t2, .ref t1, rfl, upd_same, t1, _, rfl, (Ex.new nt2) _ _ upd_same, rfl⟩
      rw [if_neg l0] at hto hxo
      by_cases l1 : c + z = 0
      · rw [if_pos l1] at hto hxo
        have hto : He to = some (.tup [xo, .str "cut"]) := hto
        walk_at "rd"
        refine ⟨rfl, ?_⟩
        walk_at "rd"
        refine ⟨by show 2 ≤ sizeLine; decide, fun t1 nt1 => ?_⟩
        walk_at "rd"
        refine ⟨by show 2 ≤ sizeLine; decide, fun t2 nt2 => ?_⟩
        walk_at "rd"
        refine k _ _ (exf.trans ((Ex.new nt1).trans (Ex.new nt2))) ?_
        rw [Jn.ah_tk, if_neg l0, if_pos l1]
        exact ⟨t2, .ref t1, rfl, upd_same, t1, xo, rfl, (Ex.new nt2) _ _ upd_same, hxo.mono ((Ex.new nt1).trans (Ex.new nt2))⟩
      rw [if_neg l1] at hto hxo
      have hto : He to = some (.tup [xo, .non]) := hto
      obtain ⟨sd, rfl, hsd⟩ := hxo
      walk_at "rd"
      refine ⟨rfl, ?_⟩
      walk_at "rd"
      generalize hl : (c + z).toNat = l at hsd
      have hl1 : 1 ≤ l := by omega
      by_cases hn1 : n = 1
      · subst hn1
        refine hW _ _ _ ?_
        walk_at "rd"
        refine ⟨by show 2 ≤ sizeLine; decide, fun t1 nt1 => ?_⟩
        walk_at "rd"
        refine ⟨by show 2 ≤ sizeLine; decide, fun t2 nt2 => ?_⟩
        walk_at "rd"
        refine k _ _ (exf.trans ((Ex.new nt1).trans (Ex.new nt2))) ?_
        rw [Jn.ah_tk, if_neg l0, if_neg l1, if_pos rfl, hl]
        exact ⟨t2, .ref t1, rfl, upd_same, t1, _, rfl, (Ex.new nt2) _ _ upd_same, sd, rfl, (Ex.new nt2) _ _ ((Ex.new nt1) _ _ hsd)⟩
      · have exc := exf
        have hse := hse2.ex exe
        obtain ⟨es, hes0⟩ : ∃ es : List Nk.Ent, es = [] ++ [(kq n0 1, st, .int 0)] := ⟨_, rfl⟩
        rw [← hes0] at hse
        have hnew : kq n1 (l : Int) ∉ es.map (·.1) := by
          rw [hes0]
          intro hm
          exact kq_ne (Ne.symm d01) (List.mem_singleton.mp hm)
        have hes : es.length < 1000 := by rw [hes0]; show 1 < 1000; decide
        obtain ⟨pp, hpp⟩ : ∃ pp : Int, pp = 0 + 1 := ⟨_, rfl⟩
        rw [← hpp]
        have hlt : pp < (n : Int) := by omega
        have fin1 : (n : Int) - pp < l → Jn.aheadF z .tk c n = (n, some (.sk (l - (n - pp.toNat))), false) := fun h => by
          rw [Jn.ah_tk, if_neg l0, if_neg l1, if_neg hn1, hl, if_pos (by omega)]
          congr 4
          omega
        have fin2 : ¬ (n : Int) - pp < l → Jn.aheadF z .tk c n = (pp.toNat + l, some .tk, true) := fun h => by
          rw [Jn.ah_tk, if_neg l0, if_neg l1, if_neg hn1, hl, if_neg (by omega)]
          congr 1
          omega
        refine hW _ _ _ ?_
        walk_at "rd"
        refine Rd.ite_d (fun _ => ?_) (fun h => absurd hlt h)
        refine Wh.goW ?_
        walk_at "rd"
        refine Nk.i_inN (P := P) (w := w) hse (keyT_of hsd) ?_
        rw [decide_eq_false hnew]
        walk_at "rd"
        refine Nk.i_setN (P := P) (w := w) hse (keyT_of hsd) hnew hes ?_
        have hse2 := nk_snoc (v := .int pp) hse (keyT_of hsd) hnew hes
        have hsd2 : upd He se (Nk.nkO P w se (es ++ [(kq n1 (l : Int), sd, .int pp)])) sd = some (.tup [.str n1, .non, .int (l : Int)]) := by
          rw [upd_ne fun (z : sd = se) => by rw [z, hse.at_] at hsd; cases hsd]
          exact hsd
        have exd : Ex H (upd He se (Nk.nkO P w se (es ++ [(kq n1 (l : Int), sd, .int pp)]))) := ex_mut exc nse
        generalize upd He se (Nk.nkO P w se (es ++ [(kq n1 (l : Int), sd, .int pp)])) = Hd at hse2 hsd2 exd
        walk_at "rd"
        by_cases hs : (n : Int) - pp < l
        · rw [if_pos hs]
          walk_at "rd"
          refine Rd.ite_d (fun _ => ?_) (fun h => absurd hs h)
          walk_at "rd"
          refine ⟨by show 3 ≤ sizeLine; decide, fun s2 ns2 => ?_⟩
          walk_at "rd"
          refine hW _ _ _ ?_
          walk_at "rd"
          refine Rd.ite_d (fun h => absurd h (by omega)) (fun _ => ?_)
          walk_at "rd"
          refine ⟨by show 2 ≤ sizeLine; decide, fun t1 nt1 => ?_⟩
          walk_at "rd"
          refine ⟨by show 2 ≤ sizeLine; decide, fun t2 nt2 => ?_⟩
          walk_at "rd"
          refine k _ _ (exd.trans ((Ex.new ns2).trans ((Ex.new nt1).trans (Ex.new nt2)))) ?_
          rw [fin1 hs]
          refine ⟨t2, .ref t1, rfl, ?_, t1, .ref s2, rfl, (Ex.new nt2) _ _ upd_same, s2, rfl, (Ex.new nt2) _ _ ((Ex.new nt1) _ _ ?_)⟩
          · rw [upd_same]
            congr 4
            show pp + ((n : Int) - pp) = (n : Int)
            omega
          · rw [upd_same]
            congr 6
            show (l : Int) - ((n : Int) - pp) = ((l - (n - pp.toNat) : Nat) : Int)
            omega
        · rw [if_neg hs]
          walk_at "rd"
          refine Rd.ite_d (fun h => absurd h (by omega)) (fun _ => ?_)
          walk_at "rd"
          refine i_meth ?_
          walk_at "rd"
          refine ⟨a, dx, fs, rfl, exd _ _ ha, f4, ?_⟩
          walk_at "rd"
          refine ⟨a, sd, n0, n1, n2, z, c, .sk l, rfl, hM.mono exd, ⟨sd, rfl, hsd2⟩, fun v He exe ho => ?_⟩
          obtain ⟨to, xo, rfl, hto, hxo⟩ := ho
          have hto : He to = some (.tup [xo, .str "cut"]) := hto
          walk_at "rd"
          refine ⟨rfl, ?_⟩
          walk_at "rd"
          refine ⟨by show 2 ≤ sizeLine; decide, fun t1 nt1 => ?_⟩
          walk_at "rd"
          refine ⟨by show 2 ≤ sizeLine; decide, fun t2 nt2 => ?_⟩
          walk_at "rd"
          refine k _ _ ((exd.trans exe).trans ((Ex.new nt1).trans (Ex.new nt2))) ?_
          rw [fin2 hs]
          refine ⟨t2, .ref t1, rfl, ?_, t1, xo, rfl, (Ex.new nt2) _ _ upd_same, hxo.mono ((Ex.new nt1).trans (Ex.new nt2))⟩
          rw [upd_same]
          congr 4
          show pp + (l : Int) = ((pp.toNat + l : Nat) : Int)
          omega
end
end K02

namespace K02
open PySem L2
local macro_rules | `(tactic| walk_at "rd1") => `(tactic| first
  | (with_reducible refine Wh.i_seqM ?_) | (with_reducible refine Rd.i_seq ?_) | (with_reducible refine Rd.i_asg ?_) | (with_reducible refine Wh.i_nameS ?_) | (with_reducible refine Rd.i_name ?_) | (with_reducible refine Rd.i_nx ?_) | (with_reducible refine Rd.i_rt ?_) | (with_reducible refine Rd.i_next ?_) | (with_reducible refine Rd.i_ct ?_) | (with_reducible refine Rd.i_bk ?_)
  | (with_reducible refine Rd.i_ret ?_) | (with_reducible refine Rd.i_drop ?_) | (with_reducible refine Rd.i_ifS ?_) | (with_reducible refine Rd.i_sub ?_)
  | ((with_reducible refine Wh.g_var ?_); (with_reducible refine Rd.i_var (by with_unfolding_all exact rfl) ?_)) | (with_reducible refine Rd.i_c ?_) | (with_reducible refine Rd.i_op ?_) | (with_reducible refine Rd.i_un ?_)
  | (with_reducible refine Rd.i_rI0 ?_) | ((with_reducible refine Wh.g_rI ?_); (with_reducible refine Rd.i_rI (by with_unfolding_all first | omega | exact Rd.mulL (by omega) (by omega) | exact Rd.mulR (by omega) (by omega) | decide | (refine ⟨?_, ?_⟩ <;> omega) | (refine ⟨?_, ?_, ?_⟩ <;> omega)) ?_))
  | ((with_reducible refine Wh.g_rEq ?_); (with_reducible refine Rd.i_rEq (by with_unfolding_all exact rfl) ?_)) | ((with_reducible refine Wh.g_rNe ?_); (with_reducible refine Rd.i_rNe (by with_unfolding_all exact rfl) ?_))
  | (with_reducible refine Rd.i_test ?_) | (with_reducible refine Rd.i_tB ?_) | (with_reducible refine Rd.i_bl ?_) | (with_reducible refine Rd.i_and ?_) | (with_reducible refine Rd.i_or ?_) | (with_reducible refine Rd.i_not ?_) | (with_reducible refine Rd.i_notV ?_) | (with_reducible refine Rd.i_andV ?_) | (with_reducible refine Rd.i_orV ?_) | (with_reducible refine Rd.i_if ?_) | (with_reducible refine Rd.i_chain ?_)
  | (with_reducible refine Rd.i_call ?_) | (with_reducible refine Rd.i_nil ?_) | (with_reducible refine Rd.i_cons ?_) | (with_reducible refine Rd.i_cb ?_) | (with_reducible refine Rd.i_bm ?_) | (with_reducible refine Rd.i_bm0 ?_) | (with_reducible refine Rd.i_tup ?_) | (with_reducible refine Rd.i_lst ?_)
  | (with_reducible refine Rd.i_int1 ?_) | (with_reducible refine Rd.i_intb ?_) | (with_reducible refine Rd.i_max ?_)
  | ((with_reducible refine Wh.g_ixL ?_); (with_reducible refine Rd.i_ixL (SqL.of (by first | assumption | exact upd_same)) (by with_unfolding_all first | exact rfl | exact atI_nat rfl) ?_)) | ((with_reducible refine Wh.g_ixT ?_); (with_reducible refine Rd.i_ixT (SqT.of (by first | assumption | exact upd_same)) (by with_unfolding_all exact rfl) ?_))
  | ((with_reducible refine Wh.g_setL ?_); (with_reducible refine Rd.i_setL (by first | assumption | exact upd_same) (by with_unfolding_all exact rfl) ?_))
  | (with_reducible refine Xv.i_mkV ?_) | (with_reducible refine Xv.i_xat ?_)
  | (with_reducible refine Rd.i_yes ?_) | (with_reducible refine Rd.i_m1 ?_) | (with_reducible refine Rd.i_m0 ?_) | (with_reducible refine Rd.ite_T ?_) | (with_reducible refine Rd.ite_F ?_) | (with_reducible refine Rd.i_forR ?_) | (with_reducible refine Rd.i_forL ?_) | (with_reducible refine Rd.i_forT ?_)
  | (with_reducible refine Hd.i_rU ?_) | (with_reducible refine Hd.i_pcons ?_) | (with_reducible refine Hd.i_pnil ?_) | (with_reducible refine Hd.i_disp ?_) | (with_reducible refine Hd.i_dget ?_)
  | (with_reducible refine Hd.i_lstRg ?_) | (with_reducible refine Hd.i_rg1 ?_) | (with_reducible refine Hd.i_rg2 ?_) | (with_reducible refine Hd.i_ex1 ?_) | (with_reducible refine Hd.i_ex2 ?_)
  | ((with_reducible refine Wh.g_gtup ?_); (with_reducible refine Rd.i_gtup (SqT.of (by first | assumption | exact upd_same)) (by with_unfolding_all exact rfl) ?_)) | (with_reducible refine Rd.i_gcons ?_) | (with_reducible refine Rd.i_gnil ?_)
  | ((with_reducible refine Wh.g_len ?_); (with_reducible refine Rd.i_lenT (SqT.of (by first | assumption | exact upd_same)) ?_)) | ((with_reducible refine Wh.g_len ?_); (with_reducible refine Rd.i_len (SqL.of (by first | assumption | exact upd_same)) ?_))
  | ((with_reducible refine Wh.g_ite ?_); (with_reducible refine Nr.ite_eF (by first | decide +kernel | with_unfolding_all exact rfl) ?_)) | ((with_reducible refine Wh.g_ite ?_); (with_reducible refine Nr.ite_eT (by first | decide +kernel | with_unfolding_all exact rfl) ?_))
  | ((with_reducible refine Wh.g_tyL ?_); (with_reducible refine Nr.i_tyL (by first | assumption | exact upd_same) ?_))
  | ((with_reducible refine Wh.g_tup ?_); (with_reducible refine Nr.i_tupT (SqT.of (by first | assumption | exact upd_same)) ?_))
  | (with_reducible refine Nr.i_sl ?_) | (with_reducible refine Nr.i_part ?_) | (with_reducible refine Nr.i_nop ?_) | (with_reducible refine Nr.i_star ?_)
  | fail "stop")
local macro_rules | `(tactic| walk_at "rd") => `(tactic| repeat walk_at "rd1")
section
variable {P : Program} {w : World} {K : PySem.W.Frag} {mg : Str → Option Value} {base : Heap}
open Evl Hd
theorem i_prop {C : Addr} {sp : Sp} {dvs : List V} {E : XK} {ta : TE} {σ : L2.St} {H : Hp} {Q : VK} (q : ta σ H fun x H1 => ∃ a dx fs, x = .ref a ∧ H1 a = some (.ins C dx fs) ∧ sp (.ref a :: dvs) H1 Q E) : tProp C sp dvs E ta σ H Q := q
theorem StAt.ref {n0 n1 : Str} {H : Hp} {v : V} : ∀ {s : Jn.St}, StAt n0 n1 H v (some s) → ∃ a, v = .ref a
  | .tk, ⟨a, h, _⟩ => ⟨a, h⟩
  | .sk _, ⟨a, h, _⟩ => ⟨a, h⟩
theorem StAt.mutL {n0 n1 : Str} {H : Hp} {v : V} {D : Addr} {us : List V} {o : HO} (hD : H D = some (.lst us)) : ∀ {s : Option Jn.St}, StAt n0 n1 H v s → StAt n0 n1 (upd H D o) v s := by
  have tp : ∀ {t xs}, H t = some (.tup xs) → upd H D o t = some (.tup xs) := fun {t xs} e => by
    rw [upd_ne fun (z : t = D) => by rw [z, hD] at e; cases e]
    exact e
  intro s h
  match s, h with
  | none, h => exact h
  | some .tk, ⟨a, h1, h2⟩ => exact ⟨a, h1, tp h2⟩
  | some (.sk l), ⟨a, h1, h2⟩ => exact ⟨a, h1, tp h2⟩
def spShort (CW : Addr) : Sp := fun vs H Q _ => ∃ (x : Addr) (rs : List Jn.Rn), vs = [.ref x] ∧ Told CW H x rs ∧ (∀ r ∈ rs, 1 ≤ r.1) ∧ rs.length ≤ 900 ∧ (Jn.expand rs).length ≤ 900 ∧ ∀ r H', Ex H H' → RowAt CW H' r rs → Q (.ref r) H'
theorem ok_short_row_of (T : Mtx w K mg) : FnOk P w K mg base CX0 5 T.f_short_row_of T.d_short_row_of ["row"] (spShort T.r.c_Row) := by
  refine T.F_short_row_of.ok sc_short_row_of (fun vs H Q E h => ?_) (fun cdv A outer s H vs Q E hr h => ?_)
  · obtain ⟨x, rs, rfl, _⟩ := h
    rfl
  · obtain ⟨x, rs, rfl, hT, hpos, hrl, hsz, k⟩ := h
    refine ⟨_, (pss_cons (ps_set (i := 1) sc_short_row_of.nd rfl (Or.inl rfl) (pe_call (ok_row_of T.q) (hr.mono (by decide)) rfl T.r.m_row_of T.r.F_row_of.kp T.r.b_row_of .nil pass0 (pa_cons (pv 0) pa_nil)))
      (pss_cons (ps_if (pt_cmpR op_gt (pe_prop (pv 1) T.r.cl_Row T.r.h_size (ok_Row_size T.r) (hr.mono (by decide)) T.r.b_Row_size .nil pass0 rfl) (pe_glob (v := .int 1000) rfl T.r.m_MOST_CELLS ⟨_, rfl⟩) (nomark _))
        (pss_one ps_never)
        pss_nil)
      (pss_one (ps_ret (pv 1))))), ?_⟩
    have hS : start ["row", "whole"] [V.ref x] = [some (.ref x), none] := rfl
    rw [hS]
    walk_at "rd"
    refine ⟨x, rs, rfl, hT, fun r H1 ex1 hr1 => ?_⟩
    walk_at "rd"
    refine i_prop ?_
    walk_at "rd"
    obtain ⟨dw, wt, us, hw, hwt, hus⟩ := id hr1
    refine ⟨r, dw, _, rfl, hw, r, rs, rfl, hr1, hrl, fun H2 ex2 => ?_⟩
    walk_at "rd"
    have hsum := Jn.size_of hpos
    refine Rd.ite_d (fun h => absurd h (by omega)) (fun _ => ?_)
    walk_at "rd"
    exact k r H2 (ex1.trans ex2) (RowAt.mono ex2 hr1)
theorem cut_some (z : Int) (s : Jn.St) (c : Int) (n : Nat) : (Jn.aheadF z s c n).2.2 = true → (Jn.aheadF z s c n).2.1 ≠ none := by
  cases s with
  | tk =>
    rw [Jn.ah_tk]
    repeat' split
    all_goals simp
  | sk l =>
    rw [Jn.ah_sk]
    split
    all_goals simp
def spShown (CM CW : Addr) : Sp := fun vs H Q _ => ∃ (m r : Addr) (n0 n1 n2 : Str) (z : Int) (rs : List Jn.Rn) (bg : V), vs = [.ref m, .ref r] ∧ MacAt CM H m n0 n1 n2 z ∧ (∃ dx fs, H m = some (.ins CM dx fs) ∧ fs.lookup ("begin" : Str) = some bg) ∧ StAt n0 n1 H bg (some .tk) ∧ RowAt CW H r rs ∧ (∀ r ∈ rs, 1 ≤ r.1) ∧ (Jn.expand rs).length ≤ 900 ∧
  ∀ t l v H', Ex H H' → H l = none → H' l = some (.lst ((Jn.cutsFrom z (Jn.expand rs) 0 (some .tk)).map V.int)) → H' t = some (.tup [.ref l, v]) → Q (.ref t) H'
theorem ok_shown (T : Mtx w K mg) : FnOk P w K mg base CX0 5 T.f_shown T.d_shown ["machine", "row"] (spShown T.c_Machine T.r.c_Row) := by
  refine T.F_shown.ok sc_shown (fun vs H Q E h => ?_) (fun cdv A outer s H vs Q E hr h => ?_)
  · obtain ⟨m, r, n0, n1, n2, z, rs, bg, rfl, _⟩ := h
    rfl
  · obtain ⟨m, r, n0, n1, n2, z, rs, bg, rfl, hM, hbg, hst, hr1, hpos, hsz, k⟩ := h
    refine ⟨_, (pss_cons (ps_set (i := 2) sc_shown.nd rfl (Or.inl rfl) (pe_lst pa_nil))
      (pss_cons (ps_set (i := 3) sc_shown.nd rfl (Or.inl rfl) (pe_fld (pv 0) rfl))
      (pss_cons (ps_set (i := 4) sc_shown.nd rfl (Or.inl rfl) pe_int)
      (pss_cons (ps_for PassesOwn.never rfl (pi_tup (pe_fld (pv 1) rfl)) (pg_tup (by rfl) (pgs_cons (pg_name (i := 5) sc_shown.nd rfl (Or.inl rfl)) (pgs_cons (pg_name (i := 6) sc_shown.nd rfl (Or.inl rfl)) pgs_nil)))
        (pss_cons (ps_set (i := 7) sc_shown.nd rfl (Or.inl rfl) (pv 4))
        (pss_cons (ps_set (i := 4) sc_shown.nd rfl (Or.inl rfl) (pe_op op_add (pv 4) (pv 5)))
        (pss_one (ps_while PassesOwn.never (pt_cmpR op_lt (pv 7) (pv 4) (nomark _))
          (pss_cons (ps_asg (pe_meth (pv 0) T.cl_Machine T.h_Machine_ahead (ok_Machine_ahead T) (hr.mono (by decide)) T.b_Machine_ahead .nil pass0 (pa_cons (pv 3) (pa_cons (pv 6) (pa_cons (pe_op op_sub (pv 4) (pv 7)) pa_nil)))) (pg_tup (by rfl) (pgs_cons (pg_name (i := 8) sc_shown.nd rfl (Or.inl rfl)) (pgs_cons (pg_tup (by rfl) (pgs_cons (pg_name (i := 3) sc_shown.nd rfl (Or.inl rfl)) (pgs_cons (pg_name (i := 9) sc_shown.nd rfl (Or.inl rfl)) pgs_nil))) pgs_nil))))
          (pss_cons (ps_set (i := 7) sc_shown.nd rfl (Or.inl rfl) (pe_op op_add (pv 7) (pv 8)))
          (pss_cons (ps_if (pt_cmpR op_eq (pv 9) (pe_glob (v := .str "refuse") rfl T.m_REFUSE ⟨_, rfl⟩) (nomark _))
            (pss_one (ps_ret (pe_tup (pa_cons (pv 2) (pa_cons (pv 7) pa_nil)))))
            pss_nil)
          (pss_one (ps_if (pt_cmpR op_eq (pv 9) (pe_glob (v := .str "cut") rfl T.m_CUT ⟨_, rfl⟩) (nomark _))
            (pss_one (ps_expr (pe_bm PySem.F.plainAttrs_list PySem.F.slot_list_append PySem.F.type_list_append mt_append (pv 2) (pa_cons (pv 7) pa_nil))))
            pss_nil))))))))))
      (pss_one (ps_ret (pe_tup (pa_cons (pv 2) (pa_cons pe_non pa_nil))))))))), ?_⟩
    have hS : start ["machine", "row", "found", "stand", "end", "count", "cell", "place", "passed", "event"] [V.ref m, .ref r] = [some (.ref m), some (.ref r), none, none, none, none, none, none, none, none] := rfl
    rw [hS]
    obtain ⟨dw, wt, us, hw3, hwt3, hus⟩ := id hr1
    walk_at "rd"
    refine ⟨Nat.zero_le _, fun D nD => ?_⟩
    have e34 : Ex H (upd H D (.lst [])) := Ex.new nD
    have nD3 := nD
    have hM4 := hM.mono e34
    obtain ⟨dm2, fs, hm2, hlk⟩ := hbg
    have hm4 := e34 _ _ hm2
    have hst4 := hst.mono e34
    have hw4 := e34 _ _ hw3
    have hwt4 := e34 _ _ hwt3
    have hD4 : upd H D (.lst []) D = some (.lst []) := upd_same
    generalize upd H D (.lst []) = H4 at hM4 hm4 hst4 hw4 hwt4 hD4 e34 ⊢
    walk_at "rd"
    refine i_fld ?_
    walk_at "rd"
    refine ⟨m, _, dm2, fs, _, rfl, hm4, T.cl_Machine, T.n_begin, hlk, ?_⟩
    walk_at "rd"
    refine i_fld ?_
    walk_at "rd"
    refine ⟨r, _, dw, _, _, rfl, hw4, T.r.cl_Row, T.r.n_runs, rfl, ?_⟩
    have hul := paired_len hus
    have tot := Jn.cuts_len z (Jn.expand rs) 0 (some .tk)
    generalize htot : Jn.cutsFrom z (Jn.expand rs) 0 (some .tk) = total at k tot
    refine Rd.forT (xs := us) (SqT.of hwt4) (fun i σ H5 => ∃ (stv : V) (s5 : Jn.St) (fs : List Int) (p : Int) (u7 u8 u9 u10 u11 : Option V), σ = [some (.ref m), some (.ref r), some (.ref D), some stv, some (.int p), u7, u8, u9, u10, u11] ∧ H5 D = some (.lst (fs.map V.int)) ∧ StAt n0 n1 H5 stv (some s5) ∧ Jn.St.ok (some s5) ∧ Ex H H5 ∧ fs ++ Jn.cutsFrom z (Jn.expand (rs.drop i)) p (some s5) = total) ⟨bg, .tk, [], 0, _, _, _, _, _, rfl, hD4, hst4, True.intro, e34, htot⟩ (fun i σ H5 _ ⟨_, _, _, _, _, _, _, _, _, _, _, _, _, e, _⟩ => SqT.of (e _ _ hwt3)) ?_ ?_
    · rintro i y _ H5 hy ⟨stv, s5, fs, p, u7, u8, u9, u10, u11, rfl, hD5, hst5, hok5, ex5, heq5⟩
      obtain ⟨rr, hrr, ba, rfl, hba⟩ := paired_get hus hy
      have hba5 := ex5 _ _ hba
      have hrp := hpos rr (List.mem_of_getElem? hrr)
      have hdrop : rs.drop i = rr :: rs.drop (i + 1) := by
        obtain ⟨h1, h2⟩ := List.getElem?_eq_some_iff.mp hrr
        rw [List.drop_eq_getElem_cons h1, h2]
      have hexp : Jn.expand (rs.drop i) = List.replicate rr.1.toNat rr.2 ++ Jn.expand (rs.drop (i + 1)) := by
        rw [hdrop]
        rfl
      rw [hexp] at heq5
      walk_at "rd"
      refine Exists.intro (fun (mm : Nat) σ H6 => ∃ (stv : V) (s6 : Jn.St) (fs : List Int) (q : Int) (v10 v11 : Option V), σ = [some (.ref m), some (.ref r), some (.ref D), some stv, some (.int (p + rr.1)), some (.int rr.1), some (.int rr.2), some (.int q), v10, v11] ∧ H6 D = some (.lst (fs.map V.int)) ∧ StAt n0 n1 H6 stv (some s6) ∧ Jn.St.ok (some s6) ∧ Ex H H6 ∧ q + (mm : Int) = p + rr.1 ∧ fs ++ Jn.cutsFrom z (List.replicate mm rr.2 ++ Jn.expand (rs.drop (i + 1))) q (some s6) = total) ⟨⟨rr.1.toNat, stv, s5, fs, p, _, _, rfl, hD5, hst5, hok5, ex5, by omega, heq5⟩, ?_⟩
      rintro mm _ H6 ⟨stv, sd, fs, q, v10, v11, rfl, hD6, hst6, hok6, ex6, hq6, heq6⟩
      walk_at "rd"
      obtain ⟨st, rfl⟩ := hst6.ref
      by_cases hm0 : mm = 0
      · subst hm0
        refine Rd.ite_d (fun h => absurd h (by omega)) (fun _ => ⟨.ref st, sd, fs, _, _, _, _, _, _, rfl, hD6, hst6, hok6, ex6, ?_⟩)
        rw [← heq6, show q = p + rr.1 by omega]
        rfl
      refine Rd.ite_d (fun _ => ?_) (fun h => absurd (by omega) h)
      refine ⟨_, fun _ _ h => h, ?_⟩
      have hM6 := hM.mono ex6
      obtain ⟨⟨dx6, fs6, d6, t06, t16, t26, ha6, _, _, _, _, f56, _, _, _, _⟩, _, _, _⟩ := id hM6
      walk_at "rd"
      refine i_meth ?_
      walk_at "rd"
      refine ⟨m, dx6, fs6, rfl, ha6, f56, ?_⟩
      walk_at "rd"
      refine ⟨m, st, n0, n1, n2, z, rr.2, mm, sd, by rw [show p + rr.1 - q = (mm : Int) by omega]; rfl, by omega, hM6, hst6, hok6, fun v H7 ex7 hah => ?_⟩
      obtain ⟨g1, g2, g3, g4⟩ := Jn.ahead_ok (z := z) (s := sd) (c := rr.2) (p := q) (n := mm) (r := Jn.expand (rs.drop (i + 1))) (by omega) hok6
      have gc := cut_some z sd rr.2 mm
      generalize Jn.aheadF z sd rr.2 mm = rslt at hah g1 g2 g3 g4 gc
      obtain ⟨pa, so', cut⟩ := rslt
      have heq7 := heq6
      rw [g4] at heq7
      have g1 : 1 ≤ pa := g1
      have g2 : pa ≤ mm := g2
      have heq7 : fs ++ ((if cut = true then [q + (pa : Int)] else []) ++ Jn.cutsFrom z (List.replicate (mm - pa) rr.2 ++ Jn.expand (rs.drop (i + 1))) (q + (pa : Int)) so') = total := heq7
      obtain ⟨t, o, rfl, ht, t2, xv, rfl, ht2, hxv⟩ := hah
      have ht : H7 t = some (.tup [.int (pa : Int), .ref t2]) := ht
      have g3 : Jn.St.ok so' := g3
      have hxv : StAt n0 n1 H7 xv so' := hxv
      have hD7 := ex7 _ _ hD6
      have e37 := ex6.trans ex7
      have hfl : fs.length ≤ 900 := by
        have := congrArg List.length heq7
        rw [List.length_append] at this
        omega
      cases so' with
      | none =>
        cases cut with
        | true =>
          have ht2 : H7 t2 = some (.tup [xv, .str "cut"]) := ht2
          exact absurd rfl (gc rfl)
        | false =>
          have heq8 : fs ++ Jn.cutsFrom z (List.replicate (mm - pa) rr.2 ++ Jn.expand (rs.drop (i + 1))) (q + (pa : Int)) none = total := heq7
          rw [Jn.none_cuts, List.append_nil] at heq8
          have ht2 : H7 t2 = some (.tup [xv, .str "refuse"]) := ht2
          walk_at "rd"
          refine ⟨by show 2 ≤ sizeLine; decide, fun t nt => ?_⟩
          walk_at "rd"
          refine k t D _ _ (e37.trans (Ex.new nt)) nD3 ((Ex.new nt) _ _ ?_) upd_same
          rw [← heq8]
          exact hD7
      | some s7 =>
        cases cut with
        | true =>
          have ht2 : H7 t2 = some (.tup [xv, .str "cut"]) := ht2
          walk_at "rd"
          refine Rd.i_append hD7 (small1000 (by rw [List.length_map]; omega)) ?_
          refine ⟨mm - pa, by omega, xv, s7, fs ++ [q + (pa : Int)], _, _, _, rfl, by rw [upd_same, List.map_append]; rfl, hxv.mutL hD7, g3, ex_mut e37 nD3, by omega, ?_⟩
          rw [← heq7, List.append_assoc]
          rfl
        | false =>
          have heq8 : fs ++ Jn.cutsFrom z (List.replicate (mm - pa) rr.2 ++ Jn.expand (rs.drop (i + 1))) (q + (pa : Int)) (some s7) = total := heq7
          have ht2 : H7 t2 = some (.tup [xv, .non]) := ht2
          walk_at "rd"
          exact ⟨mm - pa, by omega, xv, s7, fs, _, _, _, rfl, hD7, hxv, g3, e37, by omega, heq8⟩
    · rintro _ H5 ⟨stv, s5, fs, p, u7, u8, u9, u10, u11, rfl, hD5, hst5, hok5, ex5, heq5⟩
      rw [hul, List.drop_of_length_le (Nat.le_refl _)] at heq5
      have heq5 : fs ++ [] = total := heq5
      rw [List.append_nil] at heq5
      walk_at "rd"
      rw [heq5] at hD5
      refine ⟨by show 2 ≤ sizeLine; decide, fun t nt => ?_⟩
      walk_at "rd"
      exact k t D _ _ (ex5.trans (Ex.new nt)) nD3 ((Ex.new nt) _ _ hD5) upd_same
def spCuts (CM CR CW : Addr) : Sp := fun vs H Q _ => ∃ (rd x tp : Addr) (ts : List V) (n0 n1 n2 : Str) (z : Int) (rs : List Jn.Rn), vs = [.ref rd, .ref x] ∧ Rdr CR H rd tp ∧ Kept H tp ts [n0, n1, n2] (ls3 z) ∧ Told CW H x rs ∧ (∀ r ∈ rs, 1 ≤ r.1) ∧ rs.length ≤ 900 ∧ (Jn.expand rs).length ≤ 900 ∧
  ∀ l H', Ex H H' → H l = none → H' l = some (.lst ((Jn.cutsFrom z (Jn.expand rs) 0 (some .tk)).map V.int)) → Q (.ref l) H'
theorem ok_cuts (T : Mtx w K mg) : FnOk P w K mg base CX0 6 T.f_cuts T.d_cuts ["reader", "row"] (spCuts T.c_Machine T.r.p.c_Reader T.r.c_Row) := by
  refine T.F_cuts.ok sc_cuts (fun vs H Q E h => ?_) (fun cdv A outer s H vs Q E hr h => ?_)
  · obtain ⟨rd, x, tp, ts, n0, n1, n2, z, rs, rfl, _⟩ := h
    rfl
  · obtain ⟨rd, x, tp, ts, n0, n1, n2, z, rs, rfl, hR, hK, hT, hpos, hrl, hsz, k⟩ := h
    refine ⟨_, (pss_cons (ps_set (i := 2) sc_cuts.nd rfl (Or.inl rfl) (pe_call (ok_short_row_of T) (hr.mono (by decide)) rfl T.m_short_row_of T.F_short_row_of.kp T.b_short_row_of .nil pass0 (pa_cons (pv 1) pa_nil)))
      (pss_one (ps_ret (pe_ix ix_tup (pe_call (ok_shown T) (hr.mono (by decide)) rfl T.m_shown T.F_shown.kp T.b_shown .nil pass0 (pa_cons (pe_make T.mk_Machine (ok_Machine___init T) (hr.mono (by decide)) rfl T.m_Machine T.b_Machine___init .nil pass0 (pa_cons (pv 0) pa_nil)) (pa_cons (pv 2) pa_nil))) pe_int (fun _ _ => rfl))))), ?_⟩
    have hS : start ["reader", "row", "whole"] [V.ref rd, .ref x] = [some (.ref rd), some (.ref x), none] := rfl
    rw [hS]
    walk_at "rd"
    refine ⟨x, rs, rfl, hT, hpos, hrl, hsz, fun r H2 e12 hr1 => ?_⟩
    walk_at "rd"
    refine i_make ?_
    walk_at "rd"
    intro m dm nm ndm hne
    have em : Ex H2 (upd (upd H2 dm (.own m)) m (.ins T.c_Machine dm [])) := (Ex.new (o := .own m) ndm).trans (Ex.new (by rw [upd_ne (Ne.symm hne)]; exact nm))
    refine ⟨m, dm, rd, tp, ts, n0, n1, n2, z, rfl, upd_same, hR.mono (e12.trans em), hK.mono (e12.trans em), fun bg H3 ex3 hM hbg hst => ⟨rfl, ?_⟩⟩
    have e23 : Ex H2 H3 := fun c o hc => by
      have hcb : c ≠ m := ne_of_none hc nm
      exact hid_get (ex3 _ _ (hid_iff.mpr ⟨fun z => hcb (List.mem_singleton.mp z), em _ _ hc⟩))
    have e03 := e12.trans e23
    walk_at "rd"
    refine ⟨m, r, n0, n1, n2, z, rs, bg, rfl, hM, hbg, hst, RowAt.mono e23 hr1, hpos, hsz, fun t l v H4 e34 nl hl ht => ?_⟩
    walk_at "rd"
    exact k l H4 (e03.trans e34) (fresh_back e03 nl) hl
end
end K02

namespace K02
open PySem L2
local macro_rules | `(tactic| walk_at "rd1") => `(tactic| first
  | (with_reducible refine Wh.i_seqM ?_) | (with_reducible refine Rd.i_seq ?_) | (with_reducible refine Rd.i_asg ?_) | (with_reducible refine Wh.i_nameS ?_) | (with_reducible refine Rd.i_name ?_) | (with_reducible refine Rd.i_nx ?_) | (with_reducible refine Rd.i_rt ?_) | (with_reducible refine Rd.i_next ?_) | (with_reducible refine Rd.i_ct ?_) | (with_reducible refine Rd.i_bk ?_)
  | (with_reducible refine Rd.i_ret ?_) | (with_reducible refine Rd.i_drop ?_) | (with_reducible refine Rd.i_ifS ?_) | (with_reducible refine Rd.i_sub ?_)
  | ((with_reducible refine Wh.g_var ?_); (with_reducible refine Rd.i_var (by with_unfolding_all exact rfl) ?_)) | (with_reducible refine Rd.i_c ?_) | (with_reducible refine Rd.i_op ?_) | (with_reducible refine Rd.i_un ?_)
  | (with_reducible refine Rd.i_rI0 ?_) | ((with_reducible refine Wh.g_rI ?_); (with_reducible refine Rd.i_rI (by with_unfolding_all first | omega | exact Rd.mulL (by omega) (by omega) | exact Rd.mulR (by omega) (by omega) | decide | (refine ⟨?_, ?_⟩ <;> omega) | (refine ⟨?_, ?_, ?_⟩ <;> omega)) ?_))
  | ((with_reducible refine Wh.g_rEq ?_); (with_reducible refine Rd.i_rEq (by with_unfolding_all exact rfl) ?_)) | ((with_reducible refine Wh.g_rNe ?_); (with_reducible refine Rd.i_rNe (by with_unfolding_all exact rfl) ?_))
  | (with_reducible refine Rd.i_test ?_) | (with_reducible refine Rd.i_tB ?_) | (with_reducible refine Rd.i_bl ?_) | (with_reducible refine Rd.i_and ?_) | (with_reducible refine Rd.i_or ?_) | (with_reducible refine Rd.i_not ?_) | (with_reducible refine Rd.i_notV ?_) | (with_reducible refine Rd.i_andV ?_) | (with_reducible refine Rd.i_orV ?_) | (with_reducible refine Rd.i_if ?_) | (with_reducible refine Rd.i_chain ?_)
  | (with_reducible refine Rd.i_call ?_) | (with_reducible refine Rd.i_nil ?_) | (with_reducible refine Rd.i_cons ?_) | (with_reducible refine Rd.i_cb ?_) | (with_reducible refine Rd.i_bm ?_) | (with_reducible refine Rd.i_bm0 ?_) | (with_reducible refine Rd.i_tup ?_) | (with_reducible refine Rd.i_lst ?_)
  | (with_reducible refine Rd.i_int1 ?_) | (with_reducible refine Rd.i_intb ?_) | (with_reducible refine Rd.i_max ?_)
  | ((with_reducible refine Wh.g_ixL ?_); (with_reducible refine Rd.i_ixL (SqL.of (by first | assumption | exact upd_same)) (by with_unfolding_all first | exact rfl | exact atI_nat rfl) ?_)) | ((with_reducible refine Wh.g_ixT ?_); (with_reducible refine Rd.i_ixT (SqT.of (by first | assumption | exact upd_same)) (by with_unfolding_all exact rfl) ?_))
  | ((with_reducible refine Wh.g_setL ?_); (with_reducible refine Rd.i_setL (by first | assumption | exact upd_same) (by with_unfolding_all exact rfl) ?_))
  | (with_reducible refine Xv.i_mkV ?_) | (with_reducible refine Xv.i_xat ?_)
  | (with_reducible refine Rd.i_yes ?_) | (with_reducible refine Rd.i_m1 ?_) | (with_reducible refine Rd.i_m0 ?_) | (with_reducible refine Rd.ite_T ?_) | (with_reducible refine Rd.ite_F ?_) | (with_reducible refine Rd.i_forR ?_) | (with_reducible refine Rd.i_forL ?_) | (with_reducible refine Rd.i_forT ?_)
  | (with_reducible refine Hd.i_rU ?_) | (with_reducible refine Hd.i_pcons ?_) | (with_reducible refine Hd.i_pnil ?_) | (with_reducible refine Hd.i_disp ?_) | (with_reducible refine Hd.i_dget ?_)
  | (with_reducible refine Hd.i_lstRg ?_) | (with_reducible refine Hd.i_rg1 ?_) | (with_reducible refine Hd.i_rg2 ?_) | (with_reducible refine Hd.i_ex1 ?_) | (with_reducible refine Hd.i_ex2 ?_)
  | ((with_reducible refine Wh.g_gtup ?_); (with_reducible refine Rd.i_gtup (SqT.of (by first | assumption | exact upd_same)) (by with_unfolding_all exact rfl) ?_)) | (with_reducible refine Rd.i_gcons ?_) | (with_reducible refine Rd.i_gnil ?_)
  | ((with_reducible refine Wh.g_len ?_); (with_reducible refine Rd.i_lenT (SqT.of (by first | assumption | exact upd_same)) ?_)) | ((with_reducible refine Wh.g_len ?_); (with_reducible refine Rd.i_len (SqL.of (by first | assumption | exact upd_same)) ?_))
  | ((with_reducible refine Wh.g_ite ?_); (with_reducible refine Nr.ite_eF (by first | decide +kernel | with_unfolding_all exact rfl) ?_)) | ((with_reducible refine Wh.g_ite ?_); (with_reducible refine Nr.ite_eT (by first | decide +kernel | with_unfolding_all exact rfl) ?_))
  | ((with_reducible refine Wh.g_tyL ?_); (with_reducible refine Nr.i_tyL (by first | assumption | exact upd_same) ?_))
  | ((with_reducible refine Wh.g_tup ?_); (with_reducible refine Nr.i_tupT (SqT.of (by first | assumption | exact upd_same)) ?_))
  | (with_reducible refine Nr.i_sl ?_) | (with_reducible refine Nr.i_part ?_) | (with_reducible refine Nr.i_nop ?_) | (with_reducible refine Nr.i_star ?_)
  | fail "stop")
local macro_rules | `(tactic| walk_at "rd") => `(tactic| repeat walk_at "rd1")
abbrev s_law_cell : Stmt := topS 54
theorem sc_law_cell : FnScope ["_law_pen", "_law_kind"] ["_law_pen"] (defScope s_law_cell) := ⟨rfl, rfl, rfl, by decide +kernel, rfl, by decide +kernel, by decide +kernel⟩

abbrev s_law_places : Stmt := topS 55
theorem sc_law_places : FnScope ["_law_cells", "_law_add", "_law_found", "_law_place", "_law_k", "_law_more"] ["_law_cells", "_law_add"] (defScope s_law_places) := ⟨rfl, rfl, rfl, by decide +kernel, rfl, by decide +kernel, by decide +kernel⟩

abbrev s_law : Stmt := topS 56
theorem sc_law : FnScope ["_law_script", "_law_pen", "_law_turn", "_law_names_here", "_law_add", "_law_cells", "_law_k", "_law_lines", "_law_reader", "_law_due", "_law_handed", "_law_told", "_law_place"] ["_law_script"] (defScope s_law) := ⟨rfl, rfl, rfl, by decide +kernel, rfl, by decide +kernel, by decide +kernel⟩

structure Ltx (w : World) (K : PySem.W.Frag) (mg : Str → Option Value) where
  g : Gtx K mg
  m : Mtx w K mg
  z_tuple : mg "tuple" = none
  z_isinstance : mg "isinstance" = none
  kLL : PySem.W.kitOne K (.type "list") (.type "list") = some true
  f_law_cell : Addr
  d_law_cell : FuncData
  F_law_cell : Fun K "_law_cell" "_law_cell" s_law_cell f_law_cell d_law_cell
  b_law_cell : Binds K d_law_cell ["_law_pen"] []
  m_law_cell : mg "_law_cell" = some (.ref f_law_cell)
  f_law_places : Addr
  d_law_places : FuncData
  F_law_places : Fun K "_law_places" "_law_places" s_law_places f_law_places d_law_places
  b_law_places : Binds K d_law_places ["_law_cells", "_law_add"] []
  m_law_places : mg "_law_places" = some (.ref f_law_places)
section
variable {P : Program} {w : World} {K : PySem.W.Frag} {mg : Str → Option Value} {base : Heap}
open Evl Hd
def spCell : Sp := fun vs H Q _ => ∃ (p q : Addr) (s : Int), vs = [.ref p] ∧ Pen H p q s ∧ s + 10 < 1099511627776 ∧ ∀ c s' H', 0 ≤ c → s ≤ s' → s' ≤ s + 4 → Pen H' p q s' → Ex (hid [p, q] H) (hid [p, q] H') → Q (.int c) H'
theorem ok_law_cell (T : Ltx w K mg) : FnOk P w K mg base CX0 2 T.f_law_cell T.d_law_cell ["_law_pen"] spCell := by
  refine T.F_law_cell.ok sc_law_cell (fun vs H Q E h => ?_) (fun cdv A outer s H vs Q E hr h => ?_)
  · obtain ⟨p, q, s, rfl, _⟩ := h
    rfl
  · obtain ⟨p, q, z, rfl, hp, hz, k⟩ := h
    refine ⟨_, (pss_cons (ps_set (i := 1) sc_law_cell.nd rfl (Or.inl rfl) (pe_call (ok_law_draw T.g) (hr.mono (by decide)) rfl T.g.m_law_draw T.g.F_law_draw.kp T.g.b_law_draw .nil pass0 (pa_cons (pv 0) (pa_cons pe_int pa_nil))))
      (pss_cons (ps_if (pt_cmpR op_lt (pv 1) pe_int (nomark _))
        (pss_one (ps_ret (pe_call (ok_law_draw T.g) (hr.mono (by decide)) rfl T.g.m_law_draw T.g.F_law_draw.kp T.g.b_law_draw .nil pass0 (pa_cons (pv 0) (pa_cons pe_int pa_nil)))))
        pss_nil)
      (pss_cons (ps_if (pt_cmpR op_lt (pv 1) pe_int (nomark _))
        (pss_one (ps_ret (pe_call (ok_law_draw T.g) (hr.mono (by decide)) rfl T.g.m_law_draw T.g.F_law_draw.kp T.g.b_law_draw .nil pass0 (pa_cons (pv 0) (pa_cons pe_int pa_nil)))))
        pss_nil)
      (pss_one (ps_ret (pe_op op_add (pe_op op_mul (pe_call (ok_law_draw T.g) (hr.mono (by decide)) rfl T.g.m_law_draw T.g.F_law_draw.kp T.g.b_law_draw .nil pass0 (pa_cons (pv 0) (pa_cons pe_int pa_nil))) (pe_op op_pow pe_int pe_int)) (pe_call (ok_law_draw T.g) (hr.mono (by decide)) rfl T.g.m_law_draw T.g.F_law_draw.kp T.g.b_law_draw .nil pass0 (pa_cons (pv 0) (pa_cons pe_int pa_nil))))))))), ?_⟩
    have hS : start ["_law_pen", "_law_kind"] [V.ref p] = [some (.ref p), none] := rfl
    rw [hS]
    walk_at "rd"
    refine i_draw hp (by omega) (by omega) (by omega) (fun r1 H1 lo1 hi1 pen1 b1 => ?_)
    walk_at "rd"
    refine Rd.ite_d (fun _ => ?_) (fun _ => ?_)
    · walk_at "rd"
      exact i_draw pen1 (by omega) (by omega) (by omega) (fun r2 H2 lo2 hi2 pen2 b2 => k _ _ _ lo2 (by omega) (by omega) pen2 (b1.ex.trans b2.ex))
    walk_at "rd"
    refine Rd.ite_d (fun _ => ?_) (fun _ => ?_)
    · walk_at "rd"
      exact i_draw pen1 (by omega) (by omega) (by omega) (fun r2 H2 lo2 hi2 pen2 b2 => k _ _ _ lo2 (by omega) (by omega) pen2 (b1.ex.trans b2.ex))
    walk_at "rd"
    refine i_draw pen1 (by omega) (by omega) (by omega) (fun r2 H2 lo2 hi2 pen2 b2 => ?_)
    walk_at "rd"
    refine i_draw pen2 (by omega) (by omega) (by omega) (fun r3 H3 lo3 hi3 pen3 b3 => ?_)
    walk_at "rd"
    refine k _ _ _ ?_ (by omega) (by omega) pen3 ((b1.ex.trans b2.ex).trans b3.ex)
    have h20 : (0 : Int) ≤ 10 ^ (20 : Int).toNat := by decide
    have := Int.mul_nonneg lo2 h20
    omega
def spPlaces : Sp := fun vs H Q _ => ∃ (l : Addr) (z : Int) (cs : List Int), vs = [.ref l, .int z] ∧ H l = some (.lst (cs.map V.int)) ∧ cs.length ≤ 900 ∧ ∀ l' H', Ex H H' → H l' = none → H' l' = some (.lst ((Jn.litN z cs cs.length).2.map V.int)) → Q (.ref l') H'
theorem lit_len (z : Int) (cs : List Int) : ∀ k, (Jn.litN z cs k).2.length ≤ k
  | 0 => Nat.le_refl _
  | k + 1 => by
    have h := lit_len z cs k
    show (Jn.lstep z cs (Jn.litN z cs k)).2.length ≤ k + 1
    unfold Jn.lstep
    split
    · show (if _ then _ else _ : List Int).length ≤ k + 1
      split
      · rw [List.length_append]
        show _ + 1 ≤ k + 1
        omega
      · omega
    · omega
theorem ok_law_places (T : Ltx w K mg) : FnOk P w K mg base CX0 1 T.f_law_places T.d_law_places ["_law_cells", "_law_add"] spPlaces := by
  refine T.F_law_places.ok sc_law_places (fun vs H Q E h => ?_) (fun cdv A outer s H vs Q E hr h => ?_)
  · obtain ⟨l, z, cs, rfl, _⟩ := h
    rfl
  · obtain ⟨l, z, cs, rfl, hl, hn, k⟩ := h
    refine ⟨_, (pss_cons (ps_set (i := 2) sc_law_places.nd rfl (Or.inl rfl) (pe_lst pa_nil))
      (pss_cons (ps_set (i := 3) sc_law_places.nd rfl (Or.inl rfl) pe_int)
      (pss_cons (ps_for PassesOwn.never rfl (pi_range1 (by rfl) T.g.z_range (pa_cons (pe_callB call_len_seq (by rfl) T.g.z_len (by decide +kernel) (pa_cons (pv 0) pa_nil)) pa_nil)) (pg_name (i := 4) sc_law_places.nd rfl (Or.inl rfl))
        (pss_one (ps_if (pt_cmpR op_lt (pv 3) (pe_callB call_len_seq (by rfl) T.g.z_len (by decide +kernel) (pa_cons (pv 0) pa_nil)) (nomark _))
          (pss_cons (ps_set (i := 5) sc_law_places.nd rfl (Or.inl rfl) (pe_op op_add (pe_ix ix_list (pv 0) (pv 3) (fun _ _ => rfl)) (pv 1)))
          (pss_cons (ps_set (i := 3) sc_law_places.nd rfl (Or.inl rfl) (pe_ifExp (pt_cmpR op_ge (pv 5) pe_int (nomark _)) (pe_op op_add (pe_op op_add (pv 3) pe_int) (pv 5)) (pe_op op_add (pe_callB call_len_seq (by rfl) T.g.z_len (by decide +kernel) (pa_cons (pv 0) pa_nil)) pe_int)))
          (pss_one (ps_if (pt_cmpR op_le (pv 3) (pe_callB call_len_seq (by rfl) T.g.z_len (by decide +kernel) (pa_cons (pv 0) pa_nil)) (nomark _))
            (pss_one (ps_expr (pe_bm PySem.F.plainAttrs_list PySem.F.slot_list_append PySem.F.type_list_append mt_append (pv 2) (pa_cons (pv 3) pa_nil))))
            pss_nil))))
          pss_nil)))
      (pss_one (ps_ret (pv 2)))))), ?_⟩
    have hS : start ["_law_cells", "_law_add", "_law_found", "_law_place", "_law_k", "_law_more"] [V.ref l, .int z] = [some (.ref l), some (.int z), none, none, none, none] := rfl
    rw [hS]
    have hlen : (cs.map V.int).length = cs.length := List.length_map _
    walk_at "rd"
    refine ⟨Nat.zero_le _, fun D nD => ?_⟩
    have hl1 : upd H D (.lst []) l = some (.lst (cs.map V.int)) := (Ex.new (o := .lst []) nD) _ _ hl
    walk_at "rd"
    refine Rd.forR (by omega) (by omega) (fun i σ H2 => ∃ (u4 u5 : Option V), σ = [some (.ref l), some (.int z), some (.ref D), some (.int (Jn.litN z cs i).1), u4, u5] ∧ H2 D = some (.lst ((Jn.litN z cs i).2.map V.int)) ∧ Ex H H2) ⟨_, _, rfl, upd_same, Ex.new nD⟩ ?_ ?_
    · rintro i _ H2 hi ⟨u4, u5, rfl, hD, ex2⟩
      have hl2 := ex2 _ _ hl
      obtain ⟨h1, h2, _⟩ := Jn.lit_inv (z := z) (cs := cs) i
      have hll := lit_len z cs i
      have hstep : Jn.litN z cs (i + 1) = Jn.lstep z cs (Jn.litN z cs i) := rfl
      rw [hstep]
      generalize Jn.litN z cs i = a at hD h1 h2 hll ⊢
      unfold Jn.lstep
      walk_at "rd"
      refine Rd.ite_d (fun hp => ?_) (fun hp => ?_)
      · rw [hlen] at hp
        rw [if_pos hp]
        have hi2 : a.1.toNat < cs.length := by omega
        have hg : (cs.map V.int)[a.1.toNat]? = some (.int (cs.getD a.1.toNat 0)) := by
          rw [List.getElem?_map, List.getElem?_eq_getElem hi2, List.getD_eq_getElem?_getD, List.getElem?_eq_getElem hi2]
          rfl
        have ea : a.1 = ((a.1.toNat : Nat) : Int) := by omega
        walk_at "rd"
        refine Rd.i_ixL (SqL.of hl2) (by rw [ea]; exact atI_nat hg) ?_
        walk_at "rd"
        have en : Jn.lnext z cs a.1 = if cs.getD a.1.toNat 0 + z ≥ 0 then a.1 + 1 + (cs.getD a.1.toNat 0 + z) else cs.length + 1 := rfl
        rw [en]
        generalize cs.getD a.1.toNat 0 + z = v
        refine Rd.ite_d (fun h0 => ?_) (fun h0 => ?_)
        · rw [if_pos (show v ≥ 0 from h0)]
          walk_at "rd"
          refine Rd.ite_d (fun hq => ?_) (fun hq => ?_)
          · rw [hlen] at hq
            rw [if_pos hq]
            walk_at "rd"
            refine Rd.i_append hD (small1000 (by rw [List.length_map]; omega)) ?_
            walk_at "rd"
            exact ⟨_, _, rfl, by rw [upd_same, List.map_append]; rfl, ex_mut ex2 nD⟩
          · rw [hlen] at hq
            rw [if_neg hq]
            walk_at "rd"
            exact ⟨_, _, rfl, hD, ex2⟩
        · rw [if_neg (show ¬ v ≥ 0 from h0)]
          walk_at "rd"
          rw [hlen]
          walk_at "rd"
          refine Rd.ite_d (fun hq => ?_) (fun hq => ?_)
          · rw [if_pos hq]
            walk_at "rd"
            refine Rd.i_append hD (small1000 (by rw [List.length_map]; omega)) ?_
            walk_at "rd"
            exact ⟨_, _, rfl, by rw [upd_same, List.map_append]; rfl, ex_mut ex2 nD⟩
          · rw [if_neg hq]
            walk_at "rd"
            exact ⟨_, _, rfl, hD, ex2⟩
      · rw [hlen] at hp
        rw [if_neg hp]
        walk_at "rd"
        exact ⟨_, _, rfl, hD, ex2⟩
    · rintro _ H2 ⟨u4, u5, rfl, hD, ex2⟩
      walk_at "rd"
      rw [hlen, Int.toNat_natCast] at hD
      exact k D H2 ex2 nD hD
end
end K02

namespace K02
open PySem L2
local macro_rules | `(tactic| walk_at "rd1") => `(tactic| first
  | (with_reducible refine Wh.i_seqM ?_) | (with_reducible refine Rd.i_seq ?_) | (with_reducible refine Rd.i_asg ?_) | (with_reducible refine Wh.i_nameS ?_) | (with_reducible refine Rd.i_name ?_) | (with_reducible refine Rd.i_nx ?_) | (with_reducible refine Rd.i_rt ?_) | (with_reducible refine Rd.i_next ?_) | (with_reducible refine Rd.i_ct ?_) | (with_reducible refine Rd.i_bk ?_)
  | (with_reducible refine Rd.i_ret ?_) | (with_reducible refine Rd.i_drop ?_) | (with_reducible refine Rd.i_ifS ?_) | (with_reducible refine Rd.i_sub ?_)
  | ((with_reducible refine Wh.g_var ?_); (with_reducible refine Rd.i_var (by with_unfolding_all exact rfl) ?_)) | (with_reducible refine Rd.i_c ?_) | (with_reducible refine Rd.i_op ?_) | (with_reducible refine Rd.i_un ?_)
  | (with_reducible refine Rd.i_rI0 ?_) | ((with_reducible refine Wh.g_rI ?_); (with_reducible refine Rd.i_rI (by with_unfolding_all first | omega | exact Rd.mulL (by omega) (by omega) | exact Rd.mulR (by omega) (by omega) | decide | (refine ⟨?_, ?_⟩ <;> omega) | (refine ⟨?_, ?_, ?_⟩ <;> omega)) ?_))
  | ((with_reducible refine Wh.g_rEq ?_); (with_reducible refine Rd.i_rEq (by with_unfolding_all exact rfl) ?_)) | ((with_reducible refine Wh.g_rNe ?_); (with_reducible refine Rd.i_rNe (by with_unfolding_all exact rfl) ?_))
  | (with_reducible refine Rd.i_test ?_) | (with_reducible refine Rd.i_tB ?_) | (with_reducible refine Rd.i_bl ?_) | (with_reducible refine Rd.i_and ?_) | (with_reducible refine Rd.i_or ?_) | (with_reducible refine Rd.i_not ?_) | (with_reducible refine Rd.i_notV ?_) | (with_reducible refine Rd.i_andV ?_) | (with_reducible refine Rd.i_orV ?_) | (with_reducible refine Rd.i_if ?_) | (with_reducible refine Rd.i_chain ?_)
  | (with_reducible refine Rd.i_call ?_) | (with_reducible refine Rd.i_nil ?_) | (with_reducible refine Rd.i_cons ?_) | (with_reducible refine Rd.i_cb ?_) | (with_reducible refine Rd.i_bm ?_) | (with_reducible refine Rd.i_bm0 ?_) | (with_reducible refine Rd.i_tup ?_) | (with_reducible refine Rd.i_lst ?_)
  | (with_reducible refine Rd.i_int1 ?_) | (with_reducible refine Rd.i_intb ?_) | (with_reducible refine Rd.i_max ?_)
  | ((with_reducible refine Wh.g_ixL ?_); (with_reducible refine Rd.i_ixL (SqL.of (by first | assumption | exact upd_same)) (by with_unfolding_all first | exact rfl | exact atI_nat rfl) ?_)) | ((with_reducible refine Wh.g_ixT ?_); (with_reducible refine Rd.i_ixT (SqT.of (by first | assumption | exact upd_same)) (by with_unfolding_all exact rfl) ?_))
  | ((with_reducible refine Wh.g_setL ?_); (with_reducible refine Rd.i_setL (by first | assumption | exact upd_same) (by with_unfolding_all exact rfl) ?_))
  | (with_reducible refine Xv.i_mkV ?_) | (with_reducible refine Xv.i_xat ?_)
  | (with_reducible refine Rd.i_yes ?_) | (with_reducible refine Rd.i_m1 ?_) | (with_reducible refine Rd.i_m0 ?_) | (with_reducible refine Rd.ite_T ?_) | (with_reducible refine Rd.ite_F ?_) | (with_reducible refine Rd.i_forR ?_) | (with_reducible refine Rd.i_forL ?_) | (with_reducible refine Rd.i_forT ?_)
  | (with_reducible refine Hd.i_rU ?_) | (with_reducible refine Hd.i_pcons ?_) | (with_reducible refine Hd.i_pnil ?_) | (with_reducible refine Hd.i_disp ?_) | (with_reducible refine Hd.i_dget ?_)
  | (with_reducible refine Hd.i_lstRg ?_) | (with_reducible refine Hd.i_rg1 ?_) | (with_reducible refine Hd.i_rg2 ?_) | (with_reducible refine Hd.i_ex1 ?_) | (with_reducible refine Hd.i_ex2 ?_)
  | ((with_reducible refine Wh.g_gtup ?_); (with_reducible refine Rd.i_gtup (SqT.of (by first | assumption | exact upd_same)) (by with_unfolding_all exact rfl) ?_)) | (with_reducible refine Rd.i_gcons ?_) | (with_reducible refine Rd.i_gnil ?_)
  | ((with_reducible refine Wh.g_len ?_); (with_reducible refine Rd.i_lenT (SqT.of (by first | assumption | exact upd_same)) ?_)) | ((with_reducible refine Wh.g_len ?_); (with_reducible refine Rd.i_len (SqL.of (by first | assumption | exact upd_same)) ?_))
  | ((with_reducible refine Wh.g_ite ?_); (with_reducible refine Nr.ite_eF (by first | decide +kernel | with_unfolding_all exact rfl) ?_)) | ((with_reducible refine Wh.g_ite ?_); (with_reducible refine Nr.ite_eT (by first | decide +kernel | with_unfolding_all exact rfl) ?_))
  | ((with_reducible refine Wh.g_tyL ?_); (with_reducible refine Nr.i_tyL (by first | assumption | exact upd_same) ?_))
  | ((with_reducible refine Wh.g_tup ?_); (with_reducible refine Nr.i_tupT (SqT.of (by first | assumption | exact upd_same)) ?_))
  | (with_reducible refine Nr.i_sl ?_) | (with_reducible refine Nr.i_part ?_) | (with_reducible refine Nr.i_nop ?_) | (with_reducible refine Nr.i_star ?_)
  | fail "stop")
local macro_rules | `(tactic| walk_at "rd") => `(tactic| repeat walk_at "rd1")
section
variable {P : Program} {w : World} {K : PySem.W.Frag} {mg : Str → Option Value} {base : Heap}
open Evl Hd
theorem Kept.upd {H : Hp} {l D : Addr} {ts us : List V} {ns : List Str} {ls : List Li} {o : HO} (h : Kept H l ts ns ls) (hD : H D = some (.lst us)) : Kept (upd H D o) l ts ns ls := by
  refine ⟨?_, paired_mono (fun v y q => prT_mut q hD) h.prs, h.fms⟩
  rw [upd_ne fun (z : l = D) => by have := h.at_; rw [z, hD] at this; cases this]
  exact h.at_
theorem LtAt.hid {H : Hp} {ns : List Str} {v : V} {S : List Addr} (hS : ∀ a ∈ S, ∃ us, H a = some (.lst us)) : ∀ {li : Li}, LtAt H ns v li → LtAt (hid S H) ns v li := by
  have tp : ∀ {t xs}, H t = some (.tup xs) → Hd.hid S H t = some (.tup xs) := fun {t xs} e => hid_iff.mpr ⟨(fun z => by
    obtain ⟨us, hu⟩ := hS t z
    rw [e] at hu
    cases hu), e⟩
  intro li
  cases li with
  | case wy q => exact fun ⟨t, l, ts, h1, h2, h3, h4⟩ => ⟨t, l, ts, h1, tp h2, tp h3, paired_mono (fun _ _ ⟨a, b, c⟩ => ⟨a, b, tp c⟩) h4⟩
  | take q => exact fun ⟨t, h1, h2⟩ => ⟨t, h1, tp h2⟩
  | num w c q => exact fun ⟨t, h1, h2⟩ => ⟨t, h1, tp h2⟩
  | upto c a b => exact fun ⟨t, h1, h2⟩ => ⟨t, h1, tp h2⟩
  | fin w => exact fun ⟨t, h1, h2⟩ => ⟨t, h1, tp h2⟩
theorem pen_lst {H : Hp} {p q : Addr} {s : Int} (h : Pen H p q s) : ∀ a ∈ [p, q], ∃ us, H a = some (.lst us) := fun a ha => by
  obtain ⟨_, ns, h1, h2, _⟩ := h
  rcases List.mem_cons.mp ha with rfl | ha
  · exact ⟨_, h1⟩
  · rw [List.mem_singleton.mp ha]
    exact ⟨_, h2⟩
theorem Kept.pen {H : Hp} {p q l : Addr} {s : Int} {ts : List V} {ns : List Str} {ls : List Li} (h : Kept H l ts ns ls) (hp : Pen H p q s) : Kept (hid [p, q] H) l ts ns ls := by
  have hS := pen_lst hp
  have tp : ∀ {t xs}, H t = some (.tup xs) → Hd.hid [p, q] H t = some (.tup xs) := fun {t xs} e => hid_iff.mpr ⟨(fun z => by
    obtain ⟨us, hu⟩ := hS t z
    rw [e] at hu
    cases hu), e⟩
  exact ⟨tp h.at_, paired_mono (fun v y ⟨t, x, h1, h2, h3⟩ => ⟨t, x, h1, tp h2, h3.hid hS⟩) h.prs, h.fms⟩
theorem Rdr.pen {C : Addr} {H : Hp} {p q a tp : Addr} {s : Int} (h : Rdr C H a tp) (hp : Pen H p q s) : Rdr C (hid [p, q] H) a tp := by
  obtain ⟨dx, h⟩ := h
  refine ⟨dx, hid_iff.mpr ⟨fun z => ?_, h⟩⟩
  obtain ⟨us, hu⟩ := pen_lst hp a z
  rw [h] at hu
  cases hu
theorem Rdr.upd {C : Addr} {H : Hp} {a tp D : Addr} {us : List V} {o : HO} (h : Rdr C H a tp) (hD : H D = some (.lst us)) : Rdr C (upd H D o) a tp := by
  obtain ⟨dx, h⟩ := h
  refine ⟨dx, ?_⟩
  rw [upd_ne fun (z : a = D) => by rw [z, hD] at h; cases h]
  exact h
/-- a list that is not the pen changes -/
theorem Pen.lst {H : Hp} {p q D : Addr} {s : Int} {o : HO} (h : Pen H p q s) (hD : D ∉ [p, q]) : Pen (upd H D o) p q s := h.mut hD
theorem i_orT {ta tb : TE} {σ : L2.St} {H : Hp} {Q : VK} (q : ta σ H fun x H1 => ∃ k, TruV K x H1 k ∧ if k = true then Q x H1 else tb σ H1 Q) : tOrT K ta tb σ H Q := q
theorem ex_hid {S : List Addr} {H H' : Hp} (e : Ex H H') (n : ∀ b ∈ S, H b = none) : Ex H (hid S H') := fun b o h => hid_iff.mpr ⟨(fun z => by
  rw [n b z] at h
  cases h), e b o h⟩
theorem Kept.draw {H H' : Hp} {p q l : Addr} {s : Int} {ts : List V} {ns : List Str} {ls : List Li} (h : Kept H l ts ns ls) (hp : Pen H p q s) (b : But2 p q H H') : Kept H' l ts ns ls := ((h.pen hp).mono b.ex).mono hid_sub
theorem Rdr.draw {C : Addr} {H H' : Hp} {p q a tp : Addr} {s : Int} (h : Rdr C H a tp) (hp : Pen H p q s) (b : But2 p q H H') : Rdr C H' a tp := ((h.pen hp).mono b.ex).mono hid_sub
theorem ints_dp {H : Hp} {l : Addr} {xs : List Int} (h : H l = some (.lst (xs.map V.int))) : Dp K H (.ref l) (.list (xs.map PyData.int)) := .lst (SqL.of h) (by
  clear h
  induction xs with
  | nil => exact .nil
  | cons x r ih => exact .cons (.int _) ih)
theorem ints_sh (xs : List Int) : SeqAt.shaped (.list (xs.map PyData.int)) = true := by
  have h1 : PyData.canLay0 (.list (xs.map PyData.int)) = true := by
    show PyData.canLayAll0 (xs.map PyData.int) = true
    induction xs with
    | nil => rfl
    | cons x r ih =>
      show (PyData.canLay0 (.int x) && PyData.canLayAll0 (r.map PyData.int)) = true
      rw [ih]
      rfl
  have h2 : PyData.depth (.list (xs.map PyData.int)) ≤ 1 := by
    have h : PyData.depthAll (xs.map PyData.int) ≤ 0 := by
      clear h1
      induction xs with
      | nil => exact Nat.le_refl _
      | cons x r ih => exact Nat.max_le.mpr ⟨Nat.le_refl _, ih⟩
    show PyData.depthAll (xs.map PyData.int) + 1 ≤ 1
    omega
  unfold SeqAt.shaped
  rw [h1, decide_eq_true (Nat.le_trans h2 (by decide))]
  rfl
theorem drawn3 {n0 n1 n2 : Str} {z : Int} (hnd : [n0, n1, n2].Nodup) (hnm : ∀ x ∈ [n0, n1, n2], Nm x) (h1 : -3 ≤ z) (h2 : z ≤ 4) : Drawn [n0, n1, n2] ["take", "skip", "cut"] (ls3 z) where
  len := rfl
  lenL := rfl
  pos := by decide
  most := by decide
  nd := hnd
  nm := hnm
  wds := ⟨by decide +kernel, .inl ⟨_, rfl, by decide +kernel⟩⟩
  ok := fun i li h => by
    rcases i with _ | _ | _ | i
    · cases h
      exact ⟨rfl, by decide, fun h => absurd (show Lk "take" by decide +kernel) h⟩
    · cases h
      refine ⟨rfl, ?_, by decide, fun _ => .inr ⟨by decide, by decide⟩⟩
      exact .inr (.inr (.inr (.inr ⟨rfl, h1, h2⟩)))
    · cases h
      exact ⟨rfl, .inl rfl⟩
    · cases h
def spLaw (K : PySem.W.Frag) : Sp := fun vs H Q _ => ∃ (a : Addr) (ns : List Int), vs = [.ref a] ∧ SqL K H a (ns.map V.int) ∧ ns.length ≤ 63 ∧ ∀ H', Q (.bl true) H'
theorem ok_law (T : Ltx w K mg) {f : Addr} {fd : FuncData} (F : Fun K "law" "law" s_law f fd) : FnOk P w K mg base CX0 12 f fd ["_law_script"] (spLaw K) := by
  refine F.ok sc_law (fun vs H Q E h => ?_) (fun cdv A outer s H vs Q E hr h => ?_)
  · obtain ⟨a, ns, rfl, _⟩ := h
    rfl
  · obtain ⟨a, ks, rfl, ha, hn, k⟩ := h
    refine ⟨_, (Evl.pss_cut (ps_set (i := 1) sc_law.nd rfl (Or.inr rfl) (pe_lst (pa_cons (pe_orT (pe_callTy call_list_of (by rfl) T.g.z_list (by decide +kernel) (pa_cons (pv 0) pa_nil)) (pe_one (pe_lst (pa_cons pe_int pa_nil)))) (pa_cons pe_int pa_nil))))
      (pss_cons (ps_for PassesOwn.never rfl (pi_range1 (by rfl) T.g.z_range (pa_cons (pe_callB (call_max2 rfl) (by rfl) T.g.z_max (by decide +kernel) (pa_cons pe_int (pa_cons (pe_callB (call_min2 rfl) (by rfl) T.g.z_min (by decide +kernel) (pa_cons pe_int (pa_cons (pe_callB call_len_seq (by rfl) T.g.z_len (by decide +kernel) (pa_cons (pv 0) pa_nil)) pa_nil))) pa_nil))) pa_nil)) (pg_name (i := 2) sc_law.nd rfl (Or.inl rfl))
        (pss_cons (ps_set (i := 3) sc_law.nd rfl (Or.inl rfl) (pe_call (ok_law_names T.g) (hr.mono (by decide)) rfl T.g.m_law_names T.g.F_law_names.kp T.g.b_law_names .nil pass0 (pa_cons (pv 1) (pa_cons pe_int pa_nil))))
        (pss_cons (ps_set (i := 4) sc_law.nd rfl (Or.inl rfl) (pe_op op_sub (pe_call (ok_law_draw T.g) (hr.mono (by decide)) rfl T.g.m_law_draw T.g.F_law_draw.kp T.g.b_law_draw .nil pass0 (pa_cons (pv 1) (pa_cons pe_int pa_nil))) pe_int))
        (pss_cons (ps_setLc (i := 5) rfl sc_law.nd rfl rfl (sw_true rfl rfl rfl (by decide +kernel)) (pi_range1 (by rfl) T.g.z_range (pa_cons (pe_call (ok_law_draw T.g) (hr.mono (by decide)) rfl T.g.m_law_draw T.g.F_law_draw.kp T.g.b_law_draw .nil pass0 (pa_cons (pv 1) (pa_cons pe_int pa_nil))) pa_nil)) (blkOk_by (own := [("_law_k", 6)]) (N := ["_law_script", "_law_pen", "_law_turn", "_law_names_here", "_law_add", "_law_cells", "_law_k", "_law_lines", "_law_reader", "_law_due", "_law_handed", "_law_told", "_law_place"]) (sc := defScope s_law) (by decide +kernel)) (fun _ _ _ _ _ => (pg_name (i := 6) sc_law.nd rfl (Or.inl rfl))) (fun _ _ _ _ _ => pts_nil) (fun _ _ _ _ _ => (pe_call (ok_law_cell T) (hr.mono (by decide)) rfl T.m_law_cell T.F_law_cell.kp T.b_law_cell .nil pass0 (pa_cons (pv 1) pa_nil))))
        (pss_cons (ps_set (i := 7) sc_law.nd rfl (Or.inl rfl) (pe_lst (pa_cons (pe_tup (pa_cons (pe_ix ix_list (pv 3) pe_int (fun _ _ => rfl)) (pa_cons (pe_tup (pa_cons pe_str (pa_cons (pe_ix ix_list (pv 3) pe_int (fun _ _ => rfl)) pa_nil))) pa_nil))) (pa_cons (pe_tup (pa_cons (pe_ix ix_list (pv 3) pe_int (fun _ _ => rfl)) (pa_cons (pe_tup (pa_cons pe_str (pa_cons (pv 4) (pa_cons (pe_ix ix_list (pv 3) pe_int (fun _ _ => rfl)) pa_nil)))) pa_nil))) (pa_cons (pe_tup (pa_cons (pe_ix ix_list (pv 3) pe_int (fun _ _ => rfl)) (pa_cons (pe_tup (pa_cons pe_str pa_nil)) pa_nil))) pa_nil)))))
        (pss_cons (ps_set (i := 8) sc_law.nd rfl (Or.inl rfl) (pe_make T.m.r.p.mk_Reader (ok_Reader___init T.m.r.p) (hr.mono (by decide)) rfl T.m.r.p.m_Reader T.m.r.p.b_Reader___init .nil pass0 (pa_cons (pv 7) pa_nil)))
        (pss_cons (ps_set (i := 9) sc_law.nd rfl (Or.inl rfl) (pe_call (ok_law_places T) (hr.mono (by decide)) rfl T.m_law_places T.F_law_places.kp T.b_law_places .nil pass0 (pa_cons (pv 5) (pa_cons (pv 4) pa_nil))))
        (pss_cons (ps_set (i := 10) sc_law.nd rfl (Or.inl rfl) (pe_callTy call_list_of (by rfl) T.g.z_list (by decide +kernel) (pa_cons (pv 5) pa_nil)))
        (pss_cons (ps_set (i := 11) sc_law.nd rfl (Or.inl rfl) (pe_call (ok_cuts T.m) (hr.mono (by decide)) rfl T.m.m_cuts T.m.F_cuts.kp T.m.b_cuts .nil pass0 (pa_cons (pv 8) (pa_cons (pv 10) pa_nil))))
        (pss_cons (ps_if (PW.pt (pw_or (pt_cmpR (op_neD hr.units) (pv 11) (pv 9) (nomark _)) (pw_or (pt_not (pt_val (pe_callB call_isi (by rfl) T.z_isinstance (by decide +kernel) (pa_cons (pv 11) (pa_cons (pe_bltn (v := .ty "list") (by rfl) T.g.z_list (by decide +kernel) rfl) pa_nil))))) (pw_or1 (pt_cmpR (op_neD hr.units) (pv 10) (pv 5) (nomark _))))))
          (pss_one (ps_ret pe_bl))
          pss_nil)
        (pss_cons (ps_if (pt_cmpR (op_neD hr.units) (pe_lc (tt := tNot (tB (tCB (rIsi K) (tCons (tVar 12) (tCons (tC (.ty "int")) tNil))))) rfl sc_law.nd (pi_list (pv 11)) (blkOk_by (own := [("_law_place", 12)]) (N := ["_law_script", "_law_pen", "_law_turn", "_law_names_here", "_law_add", "_law_cells", "_law_k", "_law_lines", "_law_reader", "_law_due", "_law_handed", "_law_told", "_law_place"]) (sc := defScope s_law) (by decide +kernel)) (fun _ _ _ _ _ => (pg_name (i := 12) sc_law.nd rfl (Or.inl rfl))) (fun _ _ _ _ _ => (pts_one (pt_not (pt_val (pe_callB call_isi (by rfl) T.z_isinstance (by decide +kernel) (pa_cons (pv 12) (pa_cons (pe_bltn (v := .ty "int") (by rfl) T.g.z_int (by decide +kernel) rfl) pa_nil))))))) (fun _ _ _ _ _ => (pv 12))) (pe_lst pa_nil) (nomark _))
          (pss_one (ps_ret pe_bl))
          pss_nil)
        (pss_cons (ps_expr (pe_bm PySem.F.plainAttrs_list PySem.F.slot_list_append PySem.F.type_list_append mt_append (pv 11) (pa_cons pe_int pa_nil)))
        (pss_one (ps_if (PW.pt (pw_or (pt_cmpR (op_neD hr.units) (pe_call (ok_cuts T.m) (hr.mono (by decide)) rfl T.m.m_cuts T.m.F_cuts.kp T.m.b_cuts .nil pass0 (pa_cons (pv 8) (pa_cons (pe_callTy Nr.call_tupR (by rfl) T.z_tuple (by decide +kernel) (pa_cons (pv 5) pa_nil)) pa_nil))) (pv 9) (nomark _)) (pw_or1 (pt_cmpR (op_neD hr.units) (pe_call (ok_cuts T.m) (hr.mono (by decide)) rfl T.m.m_cuts T.m.F_cuts.kp T.m.b_cuts .nil pass0 (pa_cons (pv 8) (pa_cons (pe_make T.m.r.mk_Row (ok_Row___init T.m.r) (hr.mono (by decide)) rfl T.m.r.m_Row T.m.r.b_Row___init .nil pass0 (pa_cons (pv 5) pa_nil)) pa_nil))) (pv 9) (nomark _)))))
          (pss_one (ps_ret pe_bl))
          pss_nil))))))))))))))
      (pss_one (ps_ret pe_bl)))), ?_⟩
    have hS : start ["_law_script", "_law_pen", "_law_turn", "_law_names_here", "_law_add", "_law_cells", "_law_k", "_law_lines", "_law_reader", "_law_due", "_law_handed", "_law_told", "_law_place"] [V.ref a] = [some (.ref a), none, none, none, none, none, none, none, none, none, none, none, none] := rfl
    rw [hS]
    refine Evl.q_cut (M := fun σ H' => ∃ p q, σ = [some (.ref a), some (.ref p), none, none, none, none, none, none, none, none, none, none, none] ∧ Pen H' p q 0 ∧ SqL K (hid [p, q] H') a (ks.map V.int)) ?_ (fun σ H1 hM => ?_)
    · walk_at "rd"
      refine i_orT ?_
      walk_at "rd"
      refine Rd.i_len ha ?_
      intro l nl
      refine ⟨!((ks.map V.int)).isEmpty, .inl ⟨_, SqL.of upd_same, rfl⟩, ?_⟩
      cases ks with
      | nil =>
        refine Rd.ite_F ?_
        walk_at "rd"
        refine ⟨by show 1 ≤ sizeLine; decide, fun z nz => ?_⟩
        walk_at "rd"
        refine ⟨by show 2 ≤ sizeLine; decide, fun p np => ?_⟩
        walk_at "rd"
        have e1 := (Ex.new (o := .lst []) nl).trans (Ex.new (o := .lst [.int 0]) nz)
        have e2 : Ex (upd (upd H l (.lst [])) z (.lst [.int 0])) (upd (upd (upd H l (.lst [])) z (.lst [.int 0])) p (.lst [.ref z, .int 0])) := Ex.new np
        have hp : Pen (upd (upd (upd H l (.lst [])) z (.lst [.int 0])) p (.lst [.ref z, .int 0])) p z 0 := ⟨by omega, [0], upd_same, e2 _ _ upd_same, by decide, by decide⟩
        refine ⟨p, z, rfl, hp, ex_l (ex_hid (e1.trans e2) fun b hb => ?_) ha⟩
        rcases List.mem_cons.mp hb with rfl | hb
        · exact fresh_back e1 np
        · rw [List.mem_singleton.mp hb]
          exact fresh_back (Ex.new nl) nz
      | cons x r =>
        refine Rd.ite_T ?_
        walk_at "rd"
        refine ⟨by show 2 ≤ sizeLine; decide, fun p np => ?_⟩
        walk_at "rd"
        have e2 : Ex (upd H l (.lst ((x :: r).map V.int))) (upd (upd H l (.lst ((x :: r).map V.int))) p (.lst [.ref l, .int 0])) := Ex.new np
        have hp : Pen (upd (upd H l (.lst ((x :: r).map V.int))) p (.lst [.ref l, .int 0])) p l 0 := ⟨by omega, x :: r, upd_same, e2 _ _ upd_same, by simp, by omega⟩
        refine ⟨p, l, rfl, hp, ex_l (ex_hid ((Ex.new nl).trans e2) fun b hb => ?_) ha⟩
        rcases List.mem_cons.mp hb with rfl | hb
        · exact fresh_back (Ex.new nl) np
        · rw [List.mem_singleton.mp hb]
          exact nl
    obtain ⟨p, q, rfl, hpen, hSq⟩ := hM
    walk_at "rd"
    refine Rd.i_len (ex_l hid_sub hSq) ?_
    walk_at "rd"
    have hb4 : ∀ n : Int, (if (if n < 4 then n else 4) > 1 then (if n < 4 then n else 4) else 1) ≤ 4 ∧ 1 ≤ (if (if n < 4 then n else 4) > 1 then (if n < 4 then n else 4) else 1) := fun n => by
      constructor <;> (repeat' split) <;> omega
    obtain ⟨hb1, hb2⟩ := hb4 ((ks.map V.int).length : Int)
    refine Rd.forR (Int.le_trans (by decide) hb2) (Int.lt_of_le_of_lt hb1 (by decide)) (fun i σ H2 => ∃ (u2 u3 u4 u5 u6 u7 u8 u9 u10 u11 u12 : Option V) (s' : Int), σ = [some (.ref a), some (.ref p), u2, u3, u4, u5, u6, u7, u8, u9, u10, u11, u12] ∧ Pen H2 p q s' ∧ s' ≤ 100000 * i) ⟨_, _, _, _, _, _, _, _, _, _, _, 0, rfl, hpen, by omega⟩ ?_ ?_
    · rintro i _ H2 hi ⟨u2, u3, u4, u5, u6, u7, u8, u9, u10, u11, u12, s0, rfl, pen2, hs0⟩
      have hi3 : i < 4 := by omega
      clear hb1 hb2 hb4
      walk_at "rd"
      refine ⟨p, q, 3, s0, rfl, pen2, by omega, by omega, fun ns l s1 H3 hns hnd hnm hl nl lo1 hi1 pen3 ex3 => ?_⟩
      obtain ⟨n0, n1, n2, rfl⟩ : ∃ x y z, ns = [x, y, z] := by
        match ns, hns with
        | [x, y, z], _ => exact ⟨x, y, z, rfl⟩
      walk_at "rd"
      refine i_draw pen3 (by omega) (by omega) (by omega) (fun ra H4 lo4 hi4 pen4 b4 => ?_)
      walk_at "rd"
      have hl4 := b4.ex _ _ hl
      refine Rd.i_lcR ?_
      walk_at "rd"
      refine i_draw pen4 (by omega) (by omega) (by omega) (fun rc H5 lo5 hi5 pen5 b5 => ?_)
      have hl5 := b5.ex _ _ hl4
      walk_at "rd"
      refine Rd.lcR (n := rc) (by omega) (by omega) (fun D nD => ⟨fun j H6 => ∃ (cs : List Int) (s6 : Int), H6 D = some (.lst (cs.map V.int)) ∧ cs.length = j ∧ (∀ c ∈ cs, 0 ≤ c) ∧ Pen H6 p q s6 ∧ s6 ≤ s1 + 1 + 1 + 4 * j ∧ Ex (hid [p, q] H5) (hid [p, q] H6), ⟨[], _, upd_same, rfl, fun c hc => absurd hc List.not_mem_nil, pen5.ex (Ex.new nD), by omega, hid_ex (Ex.new nD)⟩, ?_, ?_⟩)
      · rintro j H6 hj ⟨cs, s6, hD6, hcl, hcs, pen6, hs6, ex6⟩
        have hDn := pen5.new nD
        walk_at "rd"
        refine ⟨rfl, ?_⟩
        walk_at "rd"
        refine ⟨p, q, s6, rfl, pen6, by omega, fun c s7 H7 hc lo7 hi7 pen7 ex7 => ?_⟩
        have hD7 := hid_get (ex7 _ _ (hid_iff.mpr ⟨hDn, hD6⟩))
        refine ⟨_, hD7, small1000 (by rw [List.length_map]; omega), cs ++ [c], s7, by rw [upd_same, List.map_append]; rfl, by rw [List.length_append, hcl]; rfl, fun x hx => ?_, pen7.mut hDn, by omega, hid_mut (ex6.trans ex7) nD⟩
        rcases List.mem_append.mp hx with h | h
        · exact hcs x h
        · rw [List.mem_singleton.mp h]
          exact hc
      rintro H6 ⟨cs, s6, hD6, hcl, hcs, pen6, hs6, ex6⟩
      have hcn : cs.length ≤ 40 := by omega
      have hl6 : H6 l = some (.lst [.str n0, .str n1, .str n2]) := hid_get (ex6 _ _ hl5)
      walk_at "rd"
      refine ⟨by show 2 ≤ sizeLine; decide, fun t0 nt0 => ?_⟩
      have x1 : Ex H6 (upd H6 t0 (.tup [.str "take", .str n1])) := Ex.new nt0
      walk_at "rd"
      refine ⟨by show 2 ≤ sizeLine; decide, fun p0 np0 => ?_⟩
      have x2 := x1.trans (Ex.new (o := .tup [.str n0, .ref t0]) np0)
      have hl7 := x2 _ _ hl6
      walk_at "rd"
      refine ⟨by show 3 ≤ sizeLine; decide, fun t1 nt1 => ?_⟩
      have x3 := x2.trans (Ex.new (o := .tup [.str "skip", .int (ra - 3), .str n2]) nt1)
      walk_at "rd"
      refine ⟨by show 2 ≤ sizeLine; decide, fun p1 np1 => ?_⟩
      have x4 := x3.trans (Ex.new (o := .tup [.str n1, .ref t1]) np1)
      have hl8 := x4 _ _ hl6
      walk_at "rd"
      refine ⟨by show 1 ≤ sizeLine; decide, fun t2 nt2 => ?_⟩
      have x5 := x4.trans (Ex.new (o := .tup [.str "cut"]) nt2)
      walk_at "rd"
      refine ⟨by show 2 ≤ sizeLine; decide, fun p2 np2 => ?_⟩
      have x6 := x5.trans (Ex.new (o := .tup [.str n2, .ref t2]) np2)
      walk_at "rd"
      refine ⟨by show 3 ≤ sizeLine; decide, fun L nL => ?_⟩
      have e7 : Ex _ _ := Ex.new (o := .lst [.ref p0, .ref p1, .ref p2]) nL
      have x7 := x6.trans e7
      have y6 := (Ex.new (o := .tup [.str n2, .ref t2]) np2).trans e7
      have y5 := (Ex.new (o := .tup [.str "cut"]) nt2).trans y6
      have y4 := (Ex.new (o := .tup [.str n1, .ref t1]) np1).trans y5
      have y3 := (Ex.new (o := .tup [.str "skip", .int (ra - 3), .str n2]) nt1).trans y4
      have y2 := (Ex.new (o := .tup [.str n0, .ref t0]) np0).trans y3
      have ht0 := y2 _ _ (upd_same (H := H6) (a := t0) (o := .tup [.str "take", .str n1]))
      have hp0 := y3 _ _ (upd_same (a := p0) (o := .tup [.str n0, .ref t0]))
      have ht1 := y4 _ _ (upd_same (a := t1) (o := .tup [.str "skip", .int (ra - 3), .str n2]))
      have hp1 := y5 _ _ (upd_same (a := p1) (o := .tup [.str n1, .ref t1]))
      have ht2 := y6 _ _ (upd_same (a := t2) (o := .tup [.str "cut"]))
      have hp2 := e7 _ _ (upd_same (a := p2) (o := .tup [.str n2, .ref t2]))
      have hL : upd (upd (upd (upd (upd (upd (upd H6 t0 (.tup [.str "take", .str n1])) p0 (.tup [.str n0, .ref t0])) t1 (.tup [.str "skip", .int (ra - 3), .str n2])) p1 (.tup [.str n1, .ref t1])) t2 (.tup [.str "cut"])) p2 (.tup [.str n2, .ref t2])) L (.lst [.ref p0, .ref p1, .ref p2]) L = some (.lst [.ref p0, .ref p1, .ref p2]) := upd_same
      generalize upd (upd (upd (upd (upd (upd (upd H6 t0 (.tup [.str "take", .str n1])) p0 (.tup [.str n0, .ref t0])) t1 (.tup [.str "skip", .int (ra - 3), .str n2])) p1 (.tup [.str n1, .ref t1])) t2 (.tup [.str "cut"])) p2 (.tup [.str n2, .ref t2])) L (.lst [.ref p0, .ref p1, .ref p2]) = H7 at ht0 hp0 ht1 hp1 ht2 hp2 hL x7 ⊢
      have pen7 := pen6.ex x7
      have hD7 := x7 _ _ hD6
      clear y2 y3 y4 y5 y6 e7 x6 x5 x4 x3 x2 x1 hl8 hl7
      walk_at "rd"
      refine i_make ?_
      walk_at "rd"
      intro rd dxr nrd ndx hne
      have em : Ex H7 (upd (upd H7 dxr (.own rd)) rd (.ins T.m.r.p.c_Reader dxr [])) := (Ex.new (o := .own rd) ndx).trans (Ex.new (by rw [upd_ne (Ne.symm hne)]; exact nrd))
      refine ⟨rd, dxr, L, _, [n0, n1, n2], ["take", "skip", "cut"], ls3 (ra - 3), rfl, upd_same, em _ _ hL, .cons ⟨p0, .ref t0, rfl, em _ _ hp0, t0, rfl, em _ _ ht0⟩ (.cons ⟨p1, .ref t1, rfl, em _ _ hp1, t1, rfl, em _ _ ht1⟩ (.cons ⟨p2, .ref t2, rfl, em _ _ hp2, t2, rfl, em _ _ ht2⟩ .nil)), drawn3 hnd hnm (by omega) (by omega), fun tp vs H8 ex8 hR hK => ⟨rfl, ?_⟩⟩
      have e78 : Ex H7 H8 := fun c o hc => by
        have hcb : c ≠ rd := ne_of_none hc nrd
        exact hid_get (ex8 _ _ (hid_iff.mpr ⟨fun z => hcb (List.mem_singleton.mp z), em _ _ hc⟩))
      have pen8 := pen7.ex e78
      have hD8 := e78 _ _ hD7
      walk_at "rd"
      refine ⟨D, ra - 3, cs, rfl, hD8, by omega, fun ld H9 ex9 nld hld => ?_⟩
      rw [Jn.lit_end] at hld
      have hD9 := ex9 _ _ hD8
      have hR9 := hR.mono ex9
      have hK9 := hK.mono ex9
      have pen9 := pen8.ex ex9
      generalize htot : Jn.cutsFrom (ra - 3) cs 0 (some .tk) = total at hld
      have htl : total.length ≤ 40 := by
        have := Jn.cuts_len (ra - 3) cs 0 (some .tk)
        rw [htot] at this
        omega
      walk_at "rd"
      intro lh nlh
      have x10 : Ex H9 (upd H9 lh (.lst (cs.map V.int))) := Ex.new nlh
      have hlh : upd H9 lh (.lst (cs.map V.int)) lh = some (.lst (cs.map V.int)) := upd_same
      generalize upd H9 lh (.lst (cs.map V.int)) = H10 at x10 hlh ⊢
      have hD10 := x10 _ _ hD9
      have hld10 := x10 _ _ hld
      have hR10 := hR9.mono x10
      have hK10 := hK9.mono x10
      have pen10 := pen9.ex x10
      walk_at "rd"
      have hol : (ones cs).length = cs.length := List.length_map _
      obtain ⟨jp, je⟩ := Jn.join_ok (ps := ones cs) (fun r hr => by
        obtain ⟨c, _, rfl⟩ := List.mem_map.mp hr
        show (0 : Int) ≤ 1
        omega)
      have je : Jn.expand (Jn.joinR (ones cs)) = cs := je.trans (Jn.expand_ones cs)
      have jl := Jn.join_len (ones cs)
      refine ⟨rd, lh, tp, vs, n0, n1, n2, ra - 3, Jn.joinR (ones cs), rfl, hR10, hK10, .inr ⟨cs, .inl hlh, hcs, by omega, rfl⟩, jp, by omega, by rw [je]; omega, fun lt H11 ex11 nlt hlt => ?_⟩
      rw [je, htot] at hlt
      have hD11 := ex11 _ _ hD10
      have hld11 := ex11 _ _ hld10
      have hlh11 := ex11 _ _ hlh
      have hltne : ∀ {b : Addr} {o : HO}, H10 b = some o → b ≠ lt := fun h e => by rw [e, nlt] at h; cases h
      walk_at "rd"
      refine Xv.i_neSame (ints_dp hlt) (ints_dp hld11) (ints_sh total) ?_
      walk_at "rd"
      refine ⟨.ref lt, .ty "list", .type "list", .type "list", true, rfl, .ty _, .base (.lst hlt), T.kLL, ?_⟩
      walk_at "rd"
      refine Xv.i_neSame (ints_dp hlh11) (ints_dp hD11) (ints_sh cs) ?_
      walk_at "rd"
      refine Rd.i_lcL ?_
      walk_at "rd"
      refine Rd.lcL (xs := total.map V.int) (SqL.of hlt) (fun F nF => ⟨fun i H12 => H12 F = some (.lst []) ∧ Ex H11 H12, ⟨upd_same, Ex.new nF⟩, fun i H12 _ h => SqL.of (h.2 _ _ hlt), ?_, ?_⟩)
      · rintro j y H12 hy ⟨hF, ex12⟩
        obtain ⟨v, rfl⟩ : ∃ v : Int, y = .int v := by
          obtain ⟨h1, h2⟩ := List.getElem?_eq_some_iff.mp hy
          rw [List.getElem_map] at h2
          exact ⟨_, h2.symm⟩
        walk_at "rd"
        refine ⟨rfl, ?_⟩
        walk_at "rd"
        refine ⟨.int v, .ty "int", .type "int", .type "int", true, rfl, .ty _, .base (.int _), T.m.kII, ?_⟩
        walk_at "rd"
        exact ⟨hF, ex12⟩
      rintro H12 ⟨hF, ex12⟩
      walk_at "rd"
      refine ⟨Nat.zero_le _, fun F2 nF2 => ?_⟩
      have x13 : Ex H12 (upd H12 F2 (.lst [])) := Ex.new nF2
      refine Xv.i_neSame (d := .list []) (.lst (SqL.of (x13 _ _ hF)) .nil) (.lst (SqL.of upd_same) .nil) (by rfl) ?_
      have x1113 := ex12.trans x13
      have hlt13 := x1113 _ _ hlt
      walk_at "rd"
      refine Rd.i_append hlt13 (small1000 (by rw [List.length_map]; omega)) ?_
      have hD14 : upd (upd H12 F2 (.lst [])) lt (.lst (total.map V.int ++ [.int 0])) D = some (.lst (cs.map V.int)) := by
        rw [upd_ne (hltne hD10)]
        exact x1113 _ _ hD11
      have hld14 : upd (upd H12 F2 (.lst [])) lt (.lst (total.map V.int ++ [.int 0])) ld = some (.lst (total.map V.int)) := by
        rw [upd_ne (hltne hld10)]
        exact x1113 _ _ hld11
      have hR14 := ((hR10.mono ex11).mono x1113).upd (o := .lst (total.map V.int ++ [.int 0])) hlt13
      have hK14 := ((hK10.mono ex11).mono x1113).upd (o := .lst (total.map V.int ++ [.int 0])) hlt13
      have pen14 := ((pen10.ex ex11).ex x1113).mut (o := .lst (total.map V.int ++ [.int 0])) (pen10.new nlt)
      generalize upd (upd H12 F2 (.lst [])) lt (.lst (total.map V.int ++ [.int 0])) = H14 at hD14 hld14 hR14 hK14 pen14 ⊢
      walk_at "rd"
      refine Nr.i_tupL (SqL.of hD14) (fun tc ntc => ?_)
      have x15 : Ex H14 (upd H14 tc (.tup (cs.map V.int))) := Ex.new ntc
      walk_at "rd"
      refine ⟨rd, tc, tp, vs, n0, n1, n2, ra - 3, Jn.joinR (ones cs), rfl, hR14.mono x15, hK14.mono x15, .inr ⟨cs, .inr upd_same, hcs, by omega, rfl⟩, jp, by omega, by rw [je]; omega, fun l2 H16 ex16 nl2 hl2 => ?_⟩
      rw [je, htot] at hl2
      have x1416 := x15.trans ex16
      walk_at "rd"
      refine Xv.i_neSame (ints_dp hl2) (ints_dp (x1416 _ _ hld14)) (ints_sh total) ?_
      walk_at "rd"
      refine i_make ?_
      walk_at "rd"
      intro rw_ drw nrw ndw hnw
      have ew : Ex H16 (upd (upd H16 drw (.own rw_)) rw_ (.ins T.m.r.c_Row drw [])) := (Ex.new (o := .own rw_) ndw).trans (Ex.new (by rw [upd_ne (Ne.symm hnw)]; exact nrw))
      refine ⟨rw_, drw, D, cs, rfl, upd_same, .inl (SqL.of (ew _ _ (x1416 _ _ hD14))), hcs, by omega, fun H17 ex17 hrow => ⟨rfl, ?_⟩⟩
      have e1617 : Ex H16 H17 := fun c o hc => by
        have hcb : c ≠ rw_ := ne_of_none hc nrw
        exact hid_get (ex17 _ _ (hid_iff.mpr ⟨fun z => hcb (List.mem_singleton.mp z), ew _ _ hc⟩))
      have x1417 := x1416.trans e1617
      walk_at "rd"
      refine ⟨rd, rw_, tp, vs, n0, n1, n2, ra - 3, Jn.joinR (ones cs), rfl, hR14.mono x1417, hK14.mono x1417, .inl hrow, jp, by omega, by rw [je]; omega, fun l3 H18 ex18 nl3 hl3 => ?_⟩
      rw [je, htot] at hl3
      walk_at "rd"
      refine Xv.i_neSame (ints_dp hl3) (ints_dp ((x1417.trans ex18) _ _ hld14)) (ints_sh total) ?_
      walk_at "rd"
      exact ⟨_, _, _, _, _, _, _, _, _, _, _, _, rfl, pen14.ex (x1417.trans ex18), by omega⟩
    · rintro _ H2 ⟨u2, u3, u4, u5, u6, u7, u8, u9, u10, u11, u12, s0, rfl, pen2, hs0⟩
      walk_at "rd"
      exact k _
end
end K02

namespace K02
open PySem L2
theorem all_mk {l : PySem.W.OpenLaw} {w : World} {K : PySem.W.Frag} {h : Heap} {mg : Str → Option Value} {fa : Addr} (X : K.In h) (G : h.Ns mainGlobals mg) (hfa : mg "law" = some (.ref fa)) {C_Reader f_Reader___init C_Machine f_Machine___init f_Machine_come f_Machine_behind f_Machine_ahead C_Row A_dflt A_none A_size f_Row___init f_Row_size f_law_draw f_law_word f_law_names f_is_name f_within f_are_ways f_has_form f_frozen f_goals f_check_forms f_check_goals f_silent_ways f_reached f_check_rings f_check_begin f_joined f_row_of f_length f_way f_is_at_most f_short_row_of f_shown f_cuts f_law_cell f_law_places f_law A_ENTRIES A_BOUNDS A_b_rest A_b_cap A_b_jump A_b_set A_b_upto A_b_skip A_VALUES A_READING A_NEVER_FIRST : Addr} {od_Reader___init an_Reader___init od_Machine___init an_Machine___init od_Machine_come an_Machine_come od_Machine_behind an_Machine_behind od_Machine_ahead an_Machine_ahead od_Row___init an_Row___init od_Row_size an_Row_size od_law_draw an_law_draw od_law_word an_law_word od_law_names an_law_names od_is_name an_is_name od_within an_within od_are_ways an_are_ways od_has_form an_has_form od_frozen an_frozen od_goals an_goals od_check_forms an_check_forms od_check_goals an_check_goals od_silent_ways an_silent_ways od_reached an_reached od_check_rings an_check_rings od_check_begin an_check_begin od_joined an_joined od_row_of an_row_of od_length an_length od_way an_way od_is_at_most an_is_at_most od_short_row_of an_short_row_of od_shown an_shown od_cuts an_cuts od_law_cell an_law_cell od_law_places an_law_places od_law an_law : Option Addr} {oc_Reader___init kV_Reader___init dc_Reader___init pm_Reader___init cd_Reader___init ct_Reader___init oc_Machine___init kV_Machine___init dc_Machine___init pm_Machine___init cd_Machine___init ct_Machine___init oc_Machine_come kV_Machine_come dc_Machine_come pm_Machine_come cd_Machine_come ct_Machine_come oc_Machine_behind kV_Machine_behind dc_Machine_behind pm_Machine_behind cd_Machine_behind ct_Machine_behind oc_Machine_ahead kV_Machine_ahead dc_Machine_ahead pm_Machine_ahead cd_Machine_ahead ct_Machine_ahead oc_Row___init kV_Row___init dc_Row___init pm_Row___init cd_Row___init ct_Row___init oc_Row_size kV_Row_size dc_Row_size pm_Row_size cd_Row_size ct_Row_size oc_law_draw kV_law_draw dc_law_draw pm_law_draw cd_law_draw ct_law_draw oc_law_word kV_law_word dc_law_word pm_law_word cd_law_word ct_law_word oc_law_names kV_law_names dc_law_names pm_law_names cd_law_names ct_law_names oc_is_name kV_is_name dc_is_name pm_is_name cd_is_name ct_is_name oc_within kV_within dc_within pm_within cd_within ct_within oc_are_ways kV_are_ways dc_are_ways pm_are_ways cd_are_ways ct_are_ways oc_has_form kV_has_form dc_has_form pm_has_form cd_has_form ct_has_form oc_frozen kV_frozen dc_frozen pm_frozen cd_frozen ct_frozen oc_goals kV_goals dc_goals pm_goals cd_goals ct_goals oc_check_forms kV_check_forms dc_check_forms pm_check_forms cd_check_forms ct_check_forms oc_check_goals kV_check_goals dc_check_goals pm_check_goals cd_check_goals ct_check_goals oc_silent_ways kV_silent_ways dc_silent_ways pm_silent_ways cd_silent_ways ct_silent_ways oc_reached kV_reached dc_reached pm_reached cd_reached ct_reached oc_check_rings kV_check_rings dc_check_rings pm_check_rings cd_check_rings ct_check_rings oc_check_begin kV_check_begin dc_check_begin pm_check_begin cd_check_begin ct_check_begin oc_joined kV_joined dc_joined pm_joined cd_joined ct_joined oc_row_of kV_row_of dc_row_of pm_row_of cd_row_of ct_row_of oc_length kV_length dc_length pm_length cd_length ct_length oc_way kV_way dc_way pm_way cd_way ct_way oc_is_at_most kV_is_at_most dc_is_at_most pm_is_at_most cd_is_at_most ct_is_at_most oc_short_row_of kV_short_row_of dc_short_row_of pm_short_row_of cd_short_row_of ct_short_row_of oc_shown kV_shown dc_shown pm_shown cd_shown ct_shown oc_cuts kV_cuts dc_cuts pm_cuts cd_cuts ct_cuts oc_law_cell kV_law_cell dc_law_cell pm_law_cell cd_law_cell ct_law_cell oc_law_places kV_law_places dc_law_places pm_law_places cd_law_places ct_law_places oc_law kV_law dc_law pm_law cd_law ct_law : Value} {sl_Reader___init sl_Machine___init sl_Machine_come sl_Machine_behind sl_Machine_ahead sl_Row___init sl_Row_size sl_law_draw sl_law_word sl_law_names sl_is_name sl_within sl_are_ways sl_has_form sl_frozen sl_goals sl_check_forms sl_check_goals sl_silent_ways sl_reached sl_check_rings sl_check_begin sl_joined sl_row_of sl_length sl_way sl_is_at_most sl_short_row_of sl_shown sl_cuts sl_law_cell sl_law_places sl_law : Array (Option Value)} {te_case te_take te_rest te_cap te_jump te_set te_upto te_skip te_cut te_refuse tt_b_rest_0 tt_b_rest_1 tt_b_cap_0 tt_b_cap_1 tt_b_jump_0 tt_b_jump_1 tt_b_set_0 tt_b_set_1 tt_b_upto_0 tt_b_upto_1 tt_b_skip_0 tt_b_skip_1 tt_VALUES_0 tt_VALUES_1 tt_READING_0 tt_READING_1 tt_READING_2 tt_READING_3 tt_READING_4 tt_NEVER_FIRST_0 tt_NEVER_FIRST_1 tt_NEVER_FIRST_2 t_L t_M t_N t_R t_C t_CU t_RE : Tok} {nt_dflt : Nat} {ot_dflt : Option Addr} {st_dflt : Array (Option Value)} {ct_dflt : Value} {rest_size : List Value} {es_ENTRIES : Array DictEntry} {n_ENTRIES : Nat} {es_BOUNDS : Array DictEntry} {n_BOUNDS : Nat} {nt_b_rest : Nat} {ot_b_rest : Option Addr} {st_b_rest : Array (Option Value)} {nt_b_cap : Nat} {ot_b_cap : Option Addr} {st_b_cap : Array (Option Value)} {nt_b_jump : Nat} {ot_b_jump : Option Addr} {st_b_jump : Array (Option Value)} {nt_b_set : Nat} {ot_b_set : Option Addr} {st_b_set : Array (Option Value)} {nt_b_upto : Nat} {ot_b_upto : Option Addr} {st_b_upto : Array (Option Value)} {nt_b_skip : Nat} {ot_b_skip : Option Addr} {st_b_skip : Array (Option Value)} {nt_VALUES : Nat} {ot_VALUES : Option Addr} {st_VALUES : Array (Option Value)} {nt_READING : Nat} {ot_READING : Option Addr} {st_READING : Array (Option Value)} {nt_NEVER_FIRST : Nat} {ot_NEVER_FIRST : Option Addr} {st_NEVER_FIRST : Array (Option Value)}
    (sp : PySem.W.specialIn K (.builtin "object.__class__") "__get__" = some (some (.builtin "getset_descriptor.__get__")))
    (tk : PySem.W.takesIn K (.builtin "object.__class__") = some true)
    (g_Reader : PySem.W.nsIn K mainGlobals "Reader" = some (some (.ref C_Reader)))
    (pg_Reader : PySem.W.plainGet K C_Reader Str.empty = true)
    (hd_Reader : PySem.W.hasDictIn K C_Reader = true)
    (po_Reader : PySem.W.plainOver K C_Reader = true)
    (sa_Reader : PySem.W.findIn K (.ref C_Reader) "__setattr__" = some (some (.builtin "object.__setattr__")))
    (mk_Reader : PySem.W.makesIn K C_Reader = true)
    (kc_Reader : PySem.W.keepIn K (.ref C_Reader) = true)
    (nlines_Reader : PySem.W.findIn K (.ref C_Reader) "lines" = some none)
    (a_Reader___init : PySem.W.findIn K (.ref C_Reader) "__init__" = some (some (.ref f_Reader___init)))
    (l_Reader___init : K.lookup f_Reader___init = some ⟨oc_Reader___init, od_Reader___init, .func (PySem.W.fnOf "__init__" "Reader.__init__" (defArgs s_Reader___init) (defBody s_Reader___init) (defScope s_Reader___init) .none kV_Reader___init dc_Reader___init pm_Reader___init an_Reader___init cd_Reader___init ct_Reader___init), sl_Reader___init⟩)
    (c_Reader___init : PySem.W.codeIn K cd_Reader___init "Reader.__init__" = true)
    (k_Reader___init : PySem.W.keepIn K (.ref f_Reader___init) = true)
    (i_Reader___init : PySem.W.isFn K (.ref f_Reader___init) = true)
    (g_Machine : PySem.W.nsIn K mainGlobals "Machine" = some (some (.ref C_Machine)))
    (pg_Machine : PySem.W.plainGet K C_Machine Str.empty = true)
    (hd_Machine : PySem.W.hasDictIn K C_Machine = true)
    (po_Machine : PySem.W.plainOver K C_Machine = true)
    (sa_Machine : PySem.W.findIn K (.ref C_Machine) "__setattr__" = some (some (.builtin "object.__setattr__")))
    (mk_Machine : PySem.W.makesIn K C_Machine = true)
    (kc_Machine : PySem.W.keepIn K (.ref C_Machine) = true)
    (nlines_Machine : PySem.W.findIn K (.ref C_Machine) "lines" = some none)
    (nfirst_Machine : PySem.W.findIn K (.ref C_Machine) "first" = some none)
    (nbegin_Machine : PySem.W.findIn K (.ref C_Machine) "begin" = some none)
    (a_Machine___init : PySem.W.findIn K (.ref C_Machine) "__init__" = some (some (.ref f_Machine___init)))
    (l_Machine___init : K.lookup f_Machine___init = some ⟨oc_Machine___init, od_Machine___init, .func (PySem.W.fnOf "__init__" "Machine.__init__" (defArgs s_Machine___init) (defBody s_Machine___init) (defScope s_Machine___init) .none kV_Machine___init dc_Machine___init pm_Machine___init an_Machine___init cd_Machine___init ct_Machine___init), sl_Machine___init⟩)
    (c_Machine___init : PySem.W.codeIn K cd_Machine___init "Machine.__init__" = true)
    (k_Machine___init : PySem.W.keepIn K (.ref f_Machine___init) = true)
    (i_Machine___init : PySem.W.isFn K (.ref f_Machine___init) = true)
    (a_Machine_come : PySem.W.findIn K (.ref C_Machine) "come" = some (some (.ref f_Machine_come)))
    (l_Machine_come : K.lookup f_Machine_come = some ⟨oc_Machine_come, od_Machine_come, .func (PySem.W.fnOf "come" "Machine.come" (defArgs s_Machine_come) (defBody s_Machine_come) (defScope s_Machine_come) .none kV_Machine_come dc_Machine_come pm_Machine_come an_Machine_come cd_Machine_come ct_Machine_come), sl_Machine_come⟩)
    (c_Machine_come : PySem.W.codeIn K cd_Machine_come "Machine.come" = true)
    (k_Machine_come : PySem.W.keepIn K (.ref f_Machine_come) = true)
    (i_Machine_come : PySem.W.isFn K (.ref f_Machine_come) = true)
    (a_Machine_behind : PySem.W.findIn K (.ref C_Machine) "behind" = some (some (.ref f_Machine_behind)))
    (l_Machine_behind : K.lookup f_Machine_behind = some ⟨oc_Machine_behind, od_Machine_behind, .func (PySem.W.fnOf "behind" "Machine.behind" (defArgs s_Machine_behind) (defBody s_Machine_behind) (defScope s_Machine_behind) .none kV_Machine_behind dc_Machine_behind pm_Machine_behind an_Machine_behind cd_Machine_behind ct_Machine_behind), sl_Machine_behind⟩)
    (c_Machine_behind : PySem.W.codeIn K cd_Machine_behind "Machine.behind" = true)
    (k_Machine_behind : PySem.W.keepIn K (.ref f_Machine_behind) = true)
    (i_Machine_behind : PySem.W.isFn K (.ref f_Machine_behind) = true)
    (a_Machine_ahead : PySem.W.findIn K (.ref C_Machine) "ahead" = some (some (.ref f_Machine_ahead)))
    (l_Machine_ahead : K.lookup f_Machine_ahead = some ⟨oc_Machine_ahead, od_Machine_ahead, .func (PySem.W.fnOf "ahead" "Machine.ahead" (defArgs s_Machine_ahead) (defBody s_Machine_ahead) (defScope s_Machine_ahead) .none kV_Machine_ahead dc_Machine_ahead pm_Machine_ahead an_Machine_ahead cd_Machine_ahead ct_Machine_ahead), sl_Machine_ahead⟩)
    (c_Machine_ahead : PySem.W.codeIn K cd_Machine_ahead "Machine.ahead" = true)
    (k_Machine_ahead : PySem.W.keepIn K (.ref f_Machine_ahead) = true)
    (i_Machine_ahead : PySem.W.isFn K (.ref f_Machine_ahead) = true)
    (g_Row : PySem.W.nsIn K mainGlobals "Row" = some (some (.ref C_Row)))
    (pg_Row : PySem.W.plainGet K C_Row Str.empty = true)
    (hd_Row : PySem.W.hasDictIn K C_Row = true)
    (po_Row : PySem.W.plainOver K C_Row = true)
    (sa_Row : PySem.W.findIn K (.ref C_Row) "__setattr__" = some (some (.builtin "object.__setattr__")))
    (mk_Row : PySem.W.makesIn K C_Row = true)
    (kc_Row : PySem.W.keepIn K (.ref C_Row) = true)
    (nruns_Row : PySem.W.findIn K (.ref C_Row) "runs" = some none)
    (a_Row___init : PySem.W.findIn K (.ref C_Row) "__init__" = some (some (.ref f_Row___init)))
    (l_Row___init : K.lookup f_Row___init = some ⟨oc_Row___init, od_Row___init, .func (PySem.W.fnOf "__init__" "Row.__init__" (defArgs s_Row___init) (defBody s_Row___init) (defScope s_Row___init) (.ref A_dflt) kV_Row___init dc_Row___init pm_Row___init an_Row___init cd_Row___init ct_Row___init), sl_Row___init⟩)
    (c_Row___init : PySem.W.codeIn K cd_Row___init "Row.__init__" = true)
    (k_Row___init : PySem.W.keepIn K (.ref f_Row___init) = true)
    (i_Row___init : PySem.W.isFn K (.ref f_Row___init) = true)
    (u_dflt : K.lookup A_dflt = some ⟨ct_dflt, ot_dflt, .seq #[.ref A_none] nt_dflt, st_dflt⟩)
    (p_at : PySem.W.findIn K (.ref C_Row) "size" = some (some (.ref A_size)))
    (p_get : PySem.W.specialIn K (.ref A_size) "__get__" = some (some (.builtin "property.__get__")))
    (p_tak : PySem.W.takesIn K (.ref A_size) = some true)
    (p_rec : PySem.W.recIn K A_size "property" = some (.ref f_Row_size :: rest_size))
    (l_Row_size : K.lookup f_Row_size = some ⟨oc_Row_size, od_Row_size, .func (PySem.W.fnOf "size" "Row.size" (defArgs s_Row_size) (defBody s_Row_size) (defScope s_Row_size) .none kV_Row_size dc_Row_size pm_Row_size an_Row_size cd_Row_size ct_Row_size), sl_Row_size⟩)
    (c_Row_size : PySem.W.codeIn K cd_Row_size "Row.size" = true)
    (k_Row_size : PySem.W.keepIn K (.ref f_Row_size) = true)
    (ca_Row : PySem.W.findIn K (.ref C_Row) "__class__" = some (some (.builtin "object.__class__")))
    (mo_Row : PySem.W.mroIn K C_Row (.type "object") = some true)
    (a_law_draw : PySem.W.nsIn K mainGlobals "_law_draw" = some (some (.ref f_law_draw)))
    (l_law_draw : K.lookup f_law_draw = some ⟨oc_law_draw, od_law_draw, .func (PySem.W.fnOf "_law_draw" "_law_draw" (defArgs s_law_draw) (defBody s_law_draw) (defScope s_law_draw) .none kV_law_draw dc_law_draw pm_law_draw an_law_draw cd_law_draw ct_law_draw), sl_law_draw⟩)
    (c_law_draw : PySem.W.codeIn K cd_law_draw "_law_draw" = true)
    (k_law_draw : PySem.W.keepIn K (.ref f_law_draw) = true)
    (a_law_word : PySem.W.nsIn K mainGlobals "_law_word" = some (some (.ref f_law_word)))
    (l_law_word : K.lookup f_law_word = some ⟨oc_law_word, od_law_word, .func (PySem.W.fnOf "_law_word" "_law_word" (defArgs s_law_word) (defBody s_law_word) (defScope s_law_word) .none kV_law_word dc_law_word pm_law_word an_law_word cd_law_word ct_law_word), sl_law_word⟩)
    (c_law_word : PySem.W.codeIn K cd_law_word "_law_word" = true)
    (k_law_word : PySem.W.keepIn K (.ref f_law_word) = true)
    (a_law_names : PySem.W.nsIn K mainGlobals "_law_names" = some (some (.ref f_law_names)))
    (l_law_names : K.lookup f_law_names = some ⟨oc_law_names, od_law_names, .func (PySem.W.fnOf "_law_names" "_law_names" (defArgs s_law_names) (defBody s_law_names) (defScope s_law_names) .none kV_law_names dc_law_names pm_law_names an_law_names cd_law_names ct_law_names), sl_law_names⟩)
    (c_law_names : PySem.W.codeIn K cd_law_names "_law_names" = true)
    (k_law_names : PySem.W.keepIn K (.ref f_law_names) = true)
    (a_is_name : PySem.W.nsIn K mainGlobals "is_name" = some (some (.ref f_is_name)))
    (l_is_name : K.lookup f_is_name = some ⟨oc_is_name, od_is_name, .func (PySem.W.fnOf "is_name" "is_name" (defArgs s_is_name) (defBody s_is_name) (defScope s_is_name) .none kV_is_name dc_is_name pm_is_name an_is_name cd_is_name ct_is_name), sl_is_name⟩)
    (c_is_name : PySem.W.codeIn K cd_is_name "is_name" = true)
    (k_is_name : PySem.W.keepIn K (.ref f_is_name) = true)
    (a_within : PySem.W.nsIn K mainGlobals "_within" = some (some (.ref f_within)))
    (l_within : K.lookup f_within = some ⟨oc_within, od_within, .func (PySem.W.fnOf "_within" "_within" (defArgs s_within) (defBody s_within) (defScope s_within) .none kV_within dc_within pm_within an_within cd_within ct_within), sl_within⟩)
    (c_within : PySem.W.codeIn K cd_within "_within" = true)
    (k_within : PySem.W.keepIn K (.ref f_within) = true)
    (a_are_ways : PySem.W.nsIn K mainGlobals "_are_ways" = some (some (.ref f_are_ways)))
    (l_are_ways : K.lookup f_are_ways = some ⟨oc_are_ways, od_are_ways, .func (PySem.W.fnOf "_are_ways" "_are_ways" (defArgs s_are_ways) (defBody s_are_ways) (defScope s_are_ways) .none kV_are_ways dc_are_ways pm_are_ways an_are_ways cd_are_ways ct_are_ways), sl_are_ways⟩)
    (c_are_ways : PySem.W.codeIn K cd_are_ways "_are_ways" = true)
    (k_are_ways : PySem.W.keepIn K (.ref f_are_ways) = true)
    (a_has_form : PySem.W.nsIn K mainGlobals "_has_form" = some (some (.ref f_has_form)))
    (l_has_form : K.lookup f_has_form = some ⟨oc_has_form, od_has_form, .func (PySem.W.fnOf "_has_form" "_has_form" (defArgs s_has_form) (defBody s_has_form) (defScope s_has_form) .none kV_has_form dc_has_form pm_has_form an_has_form cd_has_form ct_has_form), sl_has_form⟩)
    (c_has_form : PySem.W.codeIn K cd_has_form "_has_form" = true)
    (k_has_form : PySem.W.keepIn K (.ref f_has_form) = true)
    (a_frozen : PySem.W.nsIn K mainGlobals "_frozen" = some (some (.ref f_frozen)))
    (l_frozen : K.lookup f_frozen = some ⟨oc_frozen, od_frozen, .func (PySem.W.fnOf "_frozen" "_frozen" (defArgs s_frozen) (defBody s_frozen) (defScope s_frozen) .none kV_frozen dc_frozen pm_frozen an_frozen cd_frozen ct_frozen), sl_frozen⟩)
    (c_frozen : PySem.W.codeIn K cd_frozen "_frozen" = true)
    (k_frozen : PySem.W.keepIn K (.ref f_frozen) = true)
    (a_goals : PySem.W.nsIn K mainGlobals "_goals" = some (some (.ref f_goals)))
    (l_goals : K.lookup f_goals = some ⟨oc_goals, od_goals, .func (PySem.W.fnOf "_goals" "_goals" (defArgs s_goals) (defBody s_goals) (defScope s_goals) .none kV_goals dc_goals pm_goals an_goals cd_goals ct_goals), sl_goals⟩)
    (c_goals : PySem.W.codeIn K cd_goals "_goals" = true)
    (k_goals : PySem.W.keepIn K (.ref f_goals) = true)
    (a_check_forms : PySem.W.nsIn K mainGlobals "_check_forms" = some (some (.ref f_check_forms)))
    (l_check_forms : K.lookup f_check_forms = some ⟨oc_check_forms, od_check_forms, .func (PySem.W.fnOf "_check_forms" "_check_forms" (defArgs s_check_forms) (defBody s_check_forms) (defScope s_check_forms) .none kV_check_forms dc_check_forms pm_check_forms an_check_forms cd_check_forms ct_check_forms), sl_check_forms⟩)
    (c_check_forms : PySem.W.codeIn K cd_check_forms "_check_forms" = true)
    (k_check_forms : PySem.W.keepIn K (.ref f_check_forms) = true)
    (a_check_goals : PySem.W.nsIn K mainGlobals "_check_goals" = some (some (.ref f_check_goals)))
    (l_check_goals : K.lookup f_check_goals = some ⟨oc_check_goals, od_check_goals, .func (PySem.W.fnOf "_check_goals" "_check_goals" (defArgs s_check_goals) (defBody s_check_goals) (defScope s_check_goals) .none kV_check_goals dc_check_goals pm_check_goals an_check_goals cd_check_goals ct_check_goals), sl_check_goals⟩)
    (c_check_goals : PySem.W.codeIn K cd_check_goals "_check_goals" = true)
    (k_check_goals : PySem.W.keepIn K (.ref f_check_goals) = true)
    (a_silent_ways : PySem.W.nsIn K mainGlobals "_silent_ways" = some (some (.ref f_silent_ways)))
    (l_silent_ways : K.lookup f_silent_ways = some ⟨oc_silent_ways, od_silent_ways, .func (PySem.W.fnOf "_silent_ways" "_silent_ways" (defArgs s_silent_ways) (defBody s_silent_ways) (defScope s_silent_ways) .none kV_silent_ways dc_silent_ways pm_silent_ways an_silent_ways cd_silent_ways ct_silent_ways), sl_silent_ways⟩)
    (c_silent_ways : PySem.W.codeIn K cd_silent_ways "_silent_ways" = true)
    (k_silent_ways : PySem.W.keepIn K (.ref f_silent_ways) = true)
    (a_reached : PySem.W.nsIn K mainGlobals "_reached" = some (some (.ref f_reached)))
    (l_reached : K.lookup f_reached = some ⟨oc_reached, od_reached, .func (PySem.W.fnOf "_reached" "_reached" (defArgs s_reached) (defBody s_reached) (defScope s_reached) .none kV_reached dc_reached pm_reached an_reached cd_reached ct_reached), sl_reached⟩)
    (c_reached : PySem.W.codeIn K cd_reached "_reached" = true)
    (k_reached : PySem.W.keepIn K (.ref f_reached) = true)
    (a_check_rings : PySem.W.nsIn K mainGlobals "_check_rings" = some (some (.ref f_check_rings)))
    (l_check_rings : K.lookup f_check_rings = some ⟨oc_check_rings, od_check_rings, .func (PySem.W.fnOf "_check_rings" "_check_rings" (defArgs s_check_rings) (defBody s_check_rings) (defScope s_check_rings) .none kV_check_rings dc_check_rings pm_check_rings an_check_rings cd_check_rings ct_check_rings), sl_check_rings⟩)
    (c_check_rings : PySem.W.codeIn K cd_check_rings "_check_rings" = true)
    (k_check_rings : PySem.W.keepIn K (.ref f_check_rings) = true)
    (a_check_begin : PySem.W.nsIn K mainGlobals "_check_begin" = some (some (.ref f_check_begin)))
    (l_check_begin : K.lookup f_check_begin = some ⟨oc_check_begin, od_check_begin, .func (PySem.W.fnOf "_check_begin" "_check_begin" (defArgs s_check_begin) (defBody s_check_begin) (defScope s_check_begin) .none kV_check_begin dc_check_begin pm_check_begin an_check_begin cd_check_begin ct_check_begin), sl_check_begin⟩)
    (c_check_begin : PySem.W.codeIn K cd_check_begin "_check_begin" = true)
    (k_check_begin : PySem.W.keepIn K (.ref f_check_begin) = true)
    (a_joined : PySem.W.nsIn K mainGlobals "_joined" = some (some (.ref f_joined)))
    (l_joined : K.lookup f_joined = some ⟨oc_joined, od_joined, .func (PySem.W.fnOf "_joined" "_joined" (defArgs s_joined) (defBody s_joined) (defScope s_joined) .none kV_joined dc_joined pm_joined an_joined cd_joined ct_joined), sl_joined⟩)
    (c_joined : PySem.W.codeIn K cd_joined "_joined" = true)
    (k_joined : PySem.W.keepIn K (.ref f_joined) = true)
    (a_row_of : PySem.W.nsIn K mainGlobals "row_of" = some (some (.ref f_row_of)))
    (l_row_of : K.lookup f_row_of = some ⟨oc_row_of, od_row_of, .func (PySem.W.fnOf "row_of" "row_of" (defArgs s_row_of) (defBody s_row_of) (defScope s_row_of) .none kV_row_of dc_row_of pm_row_of an_row_of cd_row_of ct_row_of), sl_row_of⟩)
    (c_row_of : PySem.W.codeIn K cd_row_of "row_of" = true)
    (k_row_of : PySem.W.keepIn K (.ref f_row_of) = true)
    (a_length : PySem.W.nsIn K mainGlobals "_length" = some (some (.ref f_length)))
    (l_length : K.lookup f_length = some ⟨oc_length, od_length, .func (PySem.W.fnOf "_length" "_length" (defArgs s_length) (defBody s_length) (defScope s_length) .none kV_length dc_length pm_length an_length cd_length ct_length), sl_length⟩)
    (c_length : PySem.W.codeIn K cd_length "_length" = true)
    (k_length : PySem.W.keepIn K (.ref f_length) = true)
    (a_way : PySem.W.nsIn K mainGlobals "_way" = some (some (.ref f_way)))
    (l_way : K.lookup f_way = some ⟨oc_way, od_way, .func (PySem.W.fnOf "_way" "_way" (defArgs s_way) (defBody s_way) (defScope s_way) .none kV_way dc_way pm_way an_way cd_way ct_way), sl_way⟩)
    (c_way : PySem.W.codeIn K cd_way "_way" = true)
    (k_way : PySem.W.keepIn K (.ref f_way) = true)
    (a_is_at_most : PySem.W.nsIn K mainGlobals "_is_at_most" = some (some (.ref f_is_at_most)))
    (l_is_at_most : K.lookup f_is_at_most = some ⟨oc_is_at_most, od_is_at_most, .func (PySem.W.fnOf "_is_at_most" "_is_at_most" (defArgs s_is_at_most) (defBody s_is_at_most) (defScope s_is_at_most) .none kV_is_at_most dc_is_at_most pm_is_at_most an_is_at_most cd_is_at_most ct_is_at_most), sl_is_at_most⟩)
    (c_is_at_most : PySem.W.codeIn K cd_is_at_most "_is_at_most" = true)
    (k_is_at_most : PySem.W.keepIn K (.ref f_is_at_most) = true)
    (a_short_row_of : PySem.W.nsIn K mainGlobals "short_row_of" = some (some (.ref f_short_row_of)))
    (l_short_row_of : K.lookup f_short_row_of = some ⟨oc_short_row_of, od_short_row_of, .func (PySem.W.fnOf "short_row_of" "short_row_of" (defArgs s_short_row_of) (defBody s_short_row_of) (defScope s_short_row_of) .none kV_short_row_of dc_short_row_of pm_short_row_of an_short_row_of cd_short_row_of ct_short_row_of), sl_short_row_of⟩)
    (c_short_row_of : PySem.W.codeIn K cd_short_row_of "short_row_of" = true)
    (k_short_row_of : PySem.W.keepIn K (.ref f_short_row_of) = true)
    (a_shown : PySem.W.nsIn K mainGlobals "shown" = some (some (.ref f_shown)))
    (l_shown : K.lookup f_shown = some ⟨oc_shown, od_shown, .func (PySem.W.fnOf "shown" "shown" (defArgs s_shown) (defBody s_shown) (defScope s_shown) .none kV_shown dc_shown pm_shown an_shown cd_shown ct_shown), sl_shown⟩)
    (c_shown : PySem.W.codeIn K cd_shown "shown" = true)
    (k_shown : PySem.W.keepIn K (.ref f_shown) = true)
    (a_cuts : PySem.W.nsIn K mainGlobals "cuts" = some (some (.ref f_cuts)))
    (l_cuts : K.lookup f_cuts = some ⟨oc_cuts, od_cuts, .func (PySem.W.fnOf "cuts" "cuts" (defArgs s_cuts) (defBody s_cuts) (defScope s_cuts) .none kV_cuts dc_cuts pm_cuts an_cuts cd_cuts ct_cuts), sl_cuts⟩)
    (c_cuts : PySem.W.codeIn K cd_cuts "cuts" = true)
    (k_cuts : PySem.W.keepIn K (.ref f_cuts) = true)
    (a_law_cell : PySem.W.nsIn K mainGlobals "_law_cell" = some (some (.ref f_law_cell)))
    (l_law_cell : K.lookup f_law_cell = some ⟨oc_law_cell, od_law_cell, .func (PySem.W.fnOf "_law_cell" "_law_cell" (defArgs s_law_cell) (defBody s_law_cell) (defScope s_law_cell) .none kV_law_cell dc_law_cell pm_law_cell an_law_cell cd_law_cell ct_law_cell), sl_law_cell⟩)
    (c_law_cell : PySem.W.codeIn K cd_law_cell "_law_cell" = true)
    (k_law_cell : PySem.W.keepIn K (.ref f_law_cell) = true)
    (a_law_places : PySem.W.nsIn K mainGlobals "_law_places" = some (some (.ref f_law_places)))
    (l_law_places : K.lookup f_law_places = some ⟨oc_law_places, od_law_places, .func (PySem.W.fnOf "_law_places" "_law_places" (defArgs s_law_places) (defBody s_law_places) (defScope s_law_places) .none kV_law_places dc_law_places pm_law_places an_law_places cd_law_places ct_law_places), sl_law_places⟩)
    (c_law_places : PySem.W.codeIn K cd_law_places "_law_places" = true)
    (k_law_places : PySem.W.keepIn K (.ref f_law_places) = true)
    (a_law : PySem.W.nsIn K mainGlobals "law" = some (some (.ref f_law)))
    (l_law : K.lookup f_law = some ⟨oc_law, od_law, .func (PySem.W.fnOf "law" "law" (defArgs s_law) (defBody s_law) (defScope s_law) .none kV_law dc_law pm_law an_law cd_law ct_law), sl_law⟩)
    (c_law : PySem.W.codeIn K cd_law "law" = true)
    (k_law : PySem.W.keepIn K (.ref f_law) = true)
    (z_int : PySem.W.nsIn K mainGlobals "int" = some none)
    (z_len : PySem.W.nsIn K mainGlobals "len" = some none)
    (z_max : PySem.W.nsIn K mainGlobals "max" = some none)
    (z_min : PySem.W.nsIn K mainGlobals "min" = some none)
    (z_range : PySem.W.nsIn K mainGlobals "range" = some none)
    (z_list : PySem.W.nsIn K mainGlobals "list" = some none)
    (z_all : PySem.W.nsIn K mainGlobals "all" = some none)
    (z_tuple : PySem.W.nsIn K mainGlobals "tuple" = some none)
    (z_enumerate : PySem.W.nsIn K mainGlobals "enumerate" = some none)
    (z_isinstance : PySem.W.nsIn K mainGlobals "isinstance" = some none)
    (z_sum : PySem.W.nsIn K mainGlobals "sum" = some none)
    (z_str : PySem.W.nsIn K mainGlobals "str" = some none)
    (g_ENTRIES : PySem.W.nsIn K mainGlobals "ENTRIES" = some (some (.ref A_ENTRIES)))
    (l_ENTRIES : K.lookup A_ENTRIES = some ⟨.type "dict", none, .dict es_ENTRIES n_ENTRIES, #[]⟩)
    (y_ENTRIES : es_ENTRIES.toList.map He.keyOf = He.keysIn w.params ["case", "take", "rest", "cap", "jump", "set", "upto", "skip", "cut", "refuse"])
    (w_ENTRIES : (A_ENTRIES == sysModules) = false)
    (g_BOUNDS : PySem.W.nsIn K mainGlobals "BOUNDS" = some (some (.ref A_BOUNDS)))
    (l_BOUNDS : K.lookup A_BOUNDS = some ⟨.type "dict", none, .dict es_BOUNDS n_BOUNDS, #[]⟩)
    (y_BOUNDS : es_BOUNDS.toList.map He.keyOf = He.keysIn w.params ["rest", "cap", "jump", "set", "upto", "skip"])
    (w_BOUNDS : (A_BOUNDS == sysModules) = false)
    (e_case : PySem.W.nsIn K A_ENTRIES "case" = some (some (.int 3 te_case)))
    (e_take : PySem.W.nsIn K A_ENTRIES "take" = some (some (.int 2 te_take)))
    (e_rest : PySem.W.nsIn K A_ENTRIES "rest" = some (some (.int 3 te_rest)))
    (e_cap : PySem.W.nsIn K A_ENTRIES "cap" = some (some (.int 3 te_cap)))
    (e_jump : PySem.W.nsIn K A_ENTRIES "jump" = some (some (.int 3 te_jump)))
    (e_set : PySem.W.nsIn K A_ENTRIES "set" = some (some (.int 3 te_set)))
    (e_upto : PySem.W.nsIn K A_ENTRIES "upto" = some (some (.int 4 te_upto)))
    (e_skip : PySem.W.nsIn K A_ENTRIES "skip" = some (some (.int 3 te_skip)))
    (e_cut : PySem.W.nsIn K A_ENTRIES "cut" = some (some (.int 1 te_cut)))
    (e_refuse : PySem.W.nsIn K A_ENTRIES "refuse" = some (some (.int 1 te_refuse)))
    (b_rest : PySem.W.nsIn K A_BOUNDS "rest" = some (some (.ref A_b_rest)))
    (u_b_rest : K.lookup A_b_rest = some ⟨.type "tuple", ot_b_rest, .seq #[.int 2 tt_b_rest_0, .int 4 tt_b_rest_1] nt_b_rest, st_b_rest⟩)
    (b_cap : PySem.W.nsIn K A_BOUNDS "cap" = some (some (.ref A_b_cap)))
    (u_b_cap : K.lookup A_b_cap = some ⟨.type "tuple", ot_b_cap, .seq #[.int 0 tt_b_cap_0, .int 5 tt_b_cap_1] nt_b_cap, st_b_cap⟩)
    (b_jump : PySem.W.nsIn K A_BOUNDS "jump" = some (some (.ref A_b_jump)))
    (u_b_jump : K.lookup A_b_jump = some ⟨.type "tuple", ot_b_jump, .seq #[.int 1 tt_b_jump_0, .int 4 tt_b_jump_1] nt_b_jump, st_b_jump⟩)
    (b_set : PySem.W.nsIn K A_BOUNDS "set" = some (some (.ref A_b_set)))
    (u_b_set : K.lookup A_b_set = some ⟨.type "tuple", ot_b_set, .seq #[.int 0 tt_b_set_0, .int 5 tt_b_set_1] nt_b_set, st_b_set⟩)
    (b_upto : PySem.W.nsIn K A_BOUNDS "upto" = some (some (.ref A_b_upto)))
    (u_b_upto : K.lookup A_b_upto = some ⟨.type "tuple", ot_b_upto, .seq #[.int 0 tt_b_upto_0, .int 5 tt_b_upto_1] nt_b_upto, st_b_upto⟩)
    (b_skip : PySem.W.nsIn K A_BOUNDS "skip" = some (some (.ref A_b_skip)))
    (u_b_skip : K.lookup A_b_skip = some ⟨.type "tuple", ot_b_skip, .seq #[.int (-3) tt_b_skip_0, .int 4 tt_b_skip_1] nt_b_skip, st_b_skip⟩)
    (o_case : PySem.W.nsIn K A_BOUNDS "case" = some none)
    (o_take : PySem.W.nsIn K A_BOUNDS "take" = some none)
    (o_cut : PySem.W.nsIn K A_BOUNDS "cut" = some none)
    (o_refuse : PySem.W.nsIn K A_BOUNDS "refuse" = some none)
    (g_VALUES : PySem.W.nsIn K mainGlobals "VALUES" = some (some (.ref A_VALUES)))
    (u_VALUES : K.lookup A_VALUES = some ⟨.type "tuple", ot_VALUES, .seq #[.int 0 tt_VALUES_0, .int 5 tt_VALUES_1] nt_VALUES, st_VALUES⟩)
    (g_READING : PySem.W.nsIn K mainGlobals "READING" = some (some (.ref A_READING)))
    (u_READING : K.lookup A_READING = some ⟨.type "tuple", ot_READING, .seq #[.str "case" tt_READING_0, .str "take" tt_READING_1, .str "rest" tt_READING_2, .str "cap" tt_READING_3, .str "jump" tt_READING_4] nt_READING, st_READING⟩)
    (g_NEVER_FIRST : PySem.W.nsIn K mainGlobals "NEVER_FIRST" = some (some (.ref A_NEVER_FIRST)))
    (u_NEVER_FIRST : K.lookup A_NEVER_FIRST = some ⟨.type "tuple", ot_NEVER_FIRST, .seq #[.str "cut" tt_NEVER_FIRST_0, .str "skip" tt_NEVER_FIRST_1, .str "refuse" tt_NEVER_FIRST_2] nt_NEVER_FIRST, st_NEVER_FIRST⟩)
    (m_MOST_LINES : PySem.W.nsIn K mainGlobals "MOST_LINES" = some (some (.int 8 t_L)))
    (m_MOST_LETTERS : PySem.W.nsIn K mainGlobals "MOST_LETTERS" = some (some (.int 12 t_M)))
    (m_LETTERS : PySem.W.nsIn K mainGlobals "LETTERS" = some (some (.str "abcdefghijklmnopqrstuvwxyz" t_N)))
    (m_MOST_RUNS : PySem.W.nsIn K mainGlobals "MOST_RUNS" = some (some (.int 1000 t_R)))
    (m_MOST_CELLS : PySem.W.nsIn K mainGlobals "MOST_CELLS" = some (some (.int 1000 t_C)))
    (m_CUT : PySem.W.nsIn K mainGlobals "CUT" = some (some (.str "cut" t_CU)))
    (m_REFUSE : PySem.W.nsIn K mainGlobals "REFUSE" = some (some (.str "refuse" t_RE)))
    (kRR : PySem.W.kitOne K (.ref C_Row) (.ref C_Row) = some true)
    (kLR : PySem.W.kitOne K (.type "list") (.ref C_Row) = some false)
    (kTR : PySem.W.kitOne K (.type "tuple") (.ref C_Row) = some false)
    (kIS : PySem.W.kitOne K (.type "int") (.type "str") = some false)
    (kII : PySem.W.kitOne K (.type "int") (.type "int") = some true)
    (kLL : PySem.W.kitOne K (.type "list") (.type "list") = some true)
    : ∃ fd : FuncData, (∀ (s : Shared) (v : Value), BindsTo s fd ⟨[v], []⟩ [("_law_script", v)]) ∧ ∀ base : Heap, K.In base → base.Ns mainGlobals mg → FnOk l.prog w K mg base CX0 12 fa fd ["_law_script"] (spLaw K) := by
  have e := hfa.symm.trans (PySem.W.mg_of X G a_law)
  cases e
  let Tg : Gtx K mg := {
    f_law_draw := f_law_draw,
    d_law_draw := _,
    F_law_draw := fun_mk (st := s_law_draw) l_law_draw c_law_draw k_law_draw,
    b_law_draw := (fun_mk (st := s_law_draw) l_law_draw c_law_draw k_law_draw).binds (ps := ["_law_pen", "_law_many"]) fun _ _ _ _ _ _ us hl => match us, hl with | [_, _], _ => rfl,
    m_law_draw := PySem.W.mg_of X G a_law_draw,
    f_law_word := f_law_word,
    d_law_word := _,
    F_law_word := fun_mk (st := s_law_word) l_law_word c_law_word k_law_word,
    b_law_word := (fun_mk (st := s_law_word) l_law_word c_law_word k_law_word).binds (ps := ["_law_pen", "_law_most"]) fun _ _ _ _ _ _ us hl => match us, hl with | [_, _], _ => rfl,
    m_law_word := PySem.W.mg_of X G a_law_word,
    f_law_names := f_law_names,
    d_law_names := _,
    F_law_names := fun_mk (st := s_law_names) l_law_names c_law_names k_law_names,
    b_law_names := (fun_mk (st := s_law_names) l_law_names c_law_names k_law_names).binds (ps := ["_law_pen", "_law_many"]) fun _ _ _ _ _ _ us hl => match us, hl with | [_, _], _ => rfl,
    m_law_names := PySem.W.mg_of X G a_law_names,
    z_int := PySem.W.mg_none_of X G z_int,
    z_len := PySem.W.mg_none_of X G z_len,
    z_max := PySem.W.mg_none_of X G z_max,
    z_min := PySem.W.mg_none_of X G z_min,
    z_range := PySem.W.mg_none_of X G z_range,
    z_list := PySem.W.mg_none_of X G z_list }
  have kl_ENTRIES := He.keysLit_of y_ENTRIES
  have kl_BOUNDS := He.keysLit_of y_BOUNDS
  have vE : ∀ x n, (x, n) ∈ entT → KDct K w A_ENTRIES x (.int n) := by
    intro x n hx
    simp only [entT, List.mem_cons, List.not_mem_nil, or_false, Prod.mk.injEq] at hx
    rcases hx with ⟨rfl, rfl⟩ | ⟨rfl, rfl⟩ | ⟨rfl, rfl⟩ | ⟨rfl, rfl⟩ | ⟨rfl, rfl⟩ | ⟨rfl, rfl⟩ | ⟨rfl, rfl⟩ | ⟨rfl, rfl⟩ | ⟨rfl, rfl⟩ | ⟨rfl, rfl⟩
    · exact ⟨_, _, _, l_ENTRIES, kl_ENTRIES, e_case, ⟨_, rfl⟩⟩
    · exact ⟨_, _, _, l_ENTRIES, kl_ENTRIES, e_take, ⟨_, rfl⟩⟩
    · exact ⟨_, _, _, l_ENTRIES, kl_ENTRIES, e_rest, ⟨_, rfl⟩⟩
    · exact ⟨_, _, _, l_ENTRIES, kl_ENTRIES, e_cap, ⟨_, rfl⟩⟩
    · exact ⟨_, _, _, l_ENTRIES, kl_ENTRIES, e_jump, ⟨_, rfl⟩⟩
    · exact ⟨_, _, _, l_ENTRIES, kl_ENTRIES, e_set, ⟨_, rfl⟩⟩
    · exact ⟨_, _, _, l_ENTRIES, kl_ENTRIES, e_upto, ⟨_, rfl⟩⟩
    · exact ⟨_, _, _, l_ENTRIES, kl_ENTRIES, e_skip, ⟨_, rfl⟩⟩
    · exact ⟨_, _, _, l_ENTRIES, kl_ENTRIES, e_cut, ⟨_, rfl⟩⟩
    · exact ⟨_, _, _, l_ENTRIES, kl_ENTRIES, e_refuse, ⟨_, rfl⟩⟩
  have vB : ∀ x lo hi, (x, lo, hi) ∈ bndT → ∃ a, KDct K w A_BOUNDS x (.ref a) ∧ ∀ H, SqT K H a [.int lo, .int hi] := by
    intro x lo hi hx
    simp only [bndT, List.mem_cons, List.not_mem_nil, or_false, Prod.mk.injEq] at hx
    rcases hx with ⟨rfl, rfl, rfl⟩ | ⟨rfl, rfl, rfl⟩ | ⟨rfl, rfl, rfl⟩ | ⟨rfl, rfl, rfl⟩ | ⟨rfl, rfl, rfl⟩ | ⟨rfl, rfl, rfl⟩
    · exact ⟨_, ⟨_, _, _, l_BOUNDS, kl_BOUNDS, b_rest, rfl⟩, fun H => .inr ⟨_, _, _, u_b_rest, rfl, rfl, (by show 2 ≤ sizeLine; decide), (.cons ⟨_, rfl⟩ (.cons ⟨_, rfl⟩ .nil))⟩⟩
    · exact ⟨_, ⟨_, _, _, l_BOUNDS, kl_BOUNDS, b_cap, rfl⟩, fun H => .inr ⟨_, _, _, u_b_cap, rfl, rfl, (by show 2 ≤ sizeLine; decide), (.cons ⟨_, rfl⟩ (.cons ⟨_, rfl⟩ .nil))⟩⟩
    · exact ⟨_, ⟨_, _, _, l_BOUNDS, kl_BOUNDS, b_jump, rfl⟩, fun H => .inr ⟨_, _, _, u_b_jump, rfl, rfl, (by show 2 ≤ sizeLine; decide), (.cons ⟨_, rfl⟩ (.cons ⟨_, rfl⟩ .nil))⟩⟩
    · exact ⟨_, ⟨_, _, _, l_BOUNDS, kl_BOUNDS, b_set, rfl⟩, fun H => .inr ⟨_, _, _, u_b_set, rfl, rfl, (by show 2 ≤ sizeLine; decide), (.cons ⟨_, rfl⟩ (.cons ⟨_, rfl⟩ .nil))⟩⟩
    · exact ⟨_, ⟨_, _, _, l_BOUNDS, kl_BOUNDS, b_upto, rfl⟩, fun H => .inr ⟨_, _, _, u_b_upto, rfl, rfl, (by show 2 ≤ sizeLine; decide), (.cons ⟨_, rfl⟩ (.cons ⟨_, rfl⟩ .nil))⟩⟩
    · exact ⟨_, ⟨_, _, _, l_BOUNDS, kl_BOUNDS, b_skip, rfl⟩, fun H => .inr ⟨_, _, _, u_b_skip, rfl, rfl, (by show 2 ≤ sizeLine; decide), (.cons ⟨_, rfl⟩ (.cons ⟨_, rfl⟩ .nil))⟩⟩
  have oB : ∀ x, x ∈ (["case", "take", "cut", "refuse"] : List Str) → PySem.W.nsIn K A_BOUNDS x = some none := by
    intro x hx
    simp only [List.mem_cons, List.not_mem_nil, or_false] at hx
    rcases hx with rfl | rfl | rfl | rfl
    · exact o_case
    · exact o_take
    · exact o_cut
    · exact o_refuse
  let Tp : Ptx w K mg := {
    f_is_name := f_is_name,
    d_is_name := _,
    F_is_name := fun_mk (st := s_is_name) l_is_name c_is_name k_is_name,
    b_is_name := (fun_mk (st := s_is_name) l_is_name c_is_name k_is_name).binds (ps := ["text"]) fun _ _ _ _ _ _ us hl => match us, hl with | [_], _ => rfl,
    m_is_name := PySem.W.mg_of X G a_is_name,
    f_within := f_within,
    d_within := _,
    F_within := fun_mk (st := s_within) l_within c_within k_within,
    b_within := (fun_mk (st := s_within) l_within c_within k_within).binds (ps := ["number", "bounds"]) fun _ _ _ _ _ _ us hl => match us, hl with | [_, _], _ => rfl,
    m_within := PySem.W.mg_of X G a_within,
    f_are_ways := f_are_ways,
    d_are_ways := _,
    F_are_ways := fun_mk (st := s_are_ways) l_are_ways c_are_ways k_are_ways,
    b_are_ways := (fun_mk (st := s_are_ways) l_are_ways c_are_ways k_are_ways).binds (ps := ["ways"]) fun _ _ _ _ _ _ us hl => match us, hl with | [_], _ => rfl,
    m_are_ways := PySem.W.mg_of X G a_are_ways,
    f_has_form := f_has_form,
    d_has_form := _,
    F_has_form := fun_mk (st := s_has_form) l_has_form c_has_form k_has_form,
    b_has_form := (fun_mk (st := s_has_form) l_has_form c_has_form k_has_form).binds (ps := ["line"]) fun _ _ _ _ _ _ us hl => match us, hl with | [_], _ => rfl,
    m_has_form := PySem.W.mg_of X G a_has_form,
    f_frozen := f_frozen,
    d_frozen := _,
    F_frozen := fun_mk (st := s_frozen) l_frozen c_frozen k_frozen,
    b_frozen := (fun_mk (st := s_frozen) l_frozen c_frozen k_frozen).binds (ps := ["line"]) fun _ _ _ _ _ _ us hl => match us, hl with | [_], _ => rfl,
    m_frozen := PySem.W.mg_of X G a_frozen,
    f_goals := f_goals,
    d_goals := _,
    F_goals := fun_mk (st := s_goals) l_goals c_goals k_goals,
    b_goals := (fun_mk (st := s_goals) l_goals c_goals k_goals).binds (ps := ["line"]) fun _ _ _ _ _ _ us hl => match us, hl with | [_], _ => rfl,
    m_goals := PySem.W.mg_of X G a_goals,
    f_check_forms := f_check_forms,
    d_check_forms := _,
    F_check_forms := fun_mk (st := s_check_forms) l_check_forms c_check_forms k_check_forms,
    b_check_forms := (fun_mk (st := s_check_forms) l_check_forms c_check_forms k_check_forms).binds (ps := ["lines"]) fun _ _ _ _ _ _ us hl => match us, hl with | [_], _ => rfl,
    m_check_forms := PySem.W.mg_of X G a_check_forms,
    f_check_goals := f_check_goals,
    d_check_goals := _,
    F_check_goals := fun_mk (st := s_check_goals) l_check_goals c_check_goals k_check_goals,
    b_check_goals := (fun_mk (st := s_check_goals) l_check_goals c_check_goals k_check_goals).binds (ps := ["lines"]) fun _ _ _ _ _ _ us hl => match us, hl with | [_], _ => rfl,
    m_check_goals := PySem.W.mg_of X G a_check_goals,
    f_silent_ways := f_silent_ways,
    d_silent_ways := _,
    F_silent_ways := fun_mk (st := s_silent_ways) l_silent_ways c_silent_ways k_silent_ways,
    b_silent_ways := (fun_mk (st := s_silent_ways) l_silent_ways c_silent_ways k_silent_ways).binds (ps := ["lines"]) fun _ _ _ _ _ _ us hl => match us, hl with | [_], _ => rfl,
    m_silent_ways := PySem.W.mg_of X G a_silent_ways,
    f_reached := f_reached,
    d_reached := _,
    F_reached := fun_mk (st := s_reached) l_reached c_reached k_reached,
    b_reached := (fun_mk (st := s_reached) l_reached c_reached k_reached).binds (ps := ["ways", "names"]) fun _ _ _ _ _ _ us hl => match us, hl with | [_, _], _ => rfl,
    m_reached := PySem.W.mg_of X G a_reached,
    f_check_rings := f_check_rings,
    d_check_rings := _,
    F_check_rings := fun_mk (st := s_check_rings) l_check_rings c_check_rings k_check_rings,
    b_check_rings := (fun_mk (st := s_check_rings) l_check_rings c_check_rings k_check_rings).binds (ps := ["lines"]) fun _ _ _ _ _ _ us hl => match us, hl with | [_], _ => rfl,
    m_check_rings := PySem.W.mg_of X G a_check_rings,
    f_check_begin := f_check_begin,
    d_check_begin := _,
    F_check_begin := fun_mk (st := s_check_begin) l_check_begin c_check_begin k_check_begin,
    b_check_begin := (fun_mk (st := s_check_begin) l_check_begin c_check_begin k_check_begin).binds (ps := ["lines"]) fun _ _ _ _ _ _ us hl => match us, hl with | [_], _ => rfl,
    m_check_begin := PySem.W.mg_of X G a_check_begin,
    a_ENTRIES := A_ENTRIES,
    es_E := _,
    n_E := _,
    m_ENTRIES := PySem.W.mg_of X G g_ENTRIES,
    kd_E := ⟨l_ENTRIES, kl_ENTRIES, w_ENTRIES⟩,
    v_E := vE,
    a_BOUNDS := A_BOUNDS,
    es_B := _,
    n_B := _,
    m_BOUNDS := PySem.W.mg_of X G g_BOUNDS,
    kd_B := ⟨l_BOUNDS, kl_BOUNDS, w_BOUNDS⟩,
    v_B := vB,
    o_B := oB,
    a_VALUES := A_VALUES,
    m_VALUES := PySem.W.mg_of X G g_VALUES,
    q_VALUES := fun H => .inr ⟨_, _, _, u_VALUES, rfl, rfl, (by show 2 ≤ sizeLine; decide), (.cons ⟨_, rfl⟩ (.cons ⟨_, rfl⟩ .nil))⟩,
    a_READING := A_READING,
    m_READING := PySem.W.mg_of X G g_READING,
    q_READING := fun H => .inr ⟨_, _, _, u_READING, rfl, rfl, (by show 5 ≤ sizeLine; decide), (.cons ⟨_, rfl⟩ (.cons ⟨_, rfl⟩ (.cons ⟨_, rfl⟩ (.cons ⟨_, rfl⟩ (.cons ⟨_, rfl⟩ .nil)))))⟩,
    a_NEVER_FIRST := A_NEVER_FIRST,
    m_NEVER_FIRST := PySem.W.mg_of X G g_NEVER_FIRST,
    q_NEVER_FIRST := fun H => .inr ⟨_, _, _, u_NEVER_FIRST, rfl, rfl, (by show 3 ≤ sizeLine; decide), (.cons ⟨_, rfl⟩ (.cons ⟨_, rfl⟩ (.cons ⟨_, rfl⟩ .nil)))⟩,
    t_L := t_L,
    t_M := t_M,
    t_N := t_N,
    m_MOST_LINES := PySem.W.mg_of X G m_MOST_LINES,
    m_MOST_LETTERS := PySem.W.mg_of X G m_MOST_LETTERS,
    m_LETTERS := PySem.W.mg_of X G m_LETTERS,
    z_len := PySem.W.mg_none_of X G z_len,
    z_all := PySem.W.mg_none_of X G z_all,
    z_list := PySem.W.mg_none_of X G z_list,
    z_tuple := PySem.W.mg_none_of X G z_tuple,
    z_enumerate := PySem.W.mg_none_of X G z_enumerate,
    z_isinstance := PySem.W.mg_none_of X G z_isinstance,
    c_Reader := C_Reader,
    m_Reader := PySem.W.mg_of X G g_Reader,
    cl_Reader := ⟨pg_Reader, hd_Reader, po_Reader, sa_Reader⟩,
    n_lines := nlines_Reader,
    f_Reader___init := f_Reader___init,
    d_Reader___init := _,
    F_Reader___init := fun_mk (st := s_Reader___init) l_Reader___init c_Reader___init k_Reader___init,
    b_Reader___init := (fun_mk (st := s_Reader___init) l_Reader___init c_Reader___init k_Reader___init).binds (ps := ["self", "lines"]) fun _ _ _ _ _ _ us hl => match us, hl with | [_, _], _ => rfl,
    mk_Reader := ⟨mk_Reader, a_Reader___init, i_Reader___init, kc_Reader⟩ }
  have FR : FunD K "__init__" "Row.__init__" (defArgs s_Row___init) (defBody s_Row___init) (defScope s_Row___init) [.ref A_none] [] f_Row___init _ := ⟨⟨_, _, _, _, _, _, _, _, _, _, rfl, l_Row___init, c_Row___init, .inr ⟨by simp, A_dflt, _, [.ref A_none], _, rfl, u_dflt, rfl, .cons rfl .nil⟩, .inl rfl⟩, k_Row___init⟩
  obtain ⟨dsR, vR, bR⟩ := FR.binds1 (ps := ["self", "cells"]) 2 1 (by simp) rfl (fun _ _ _ _ _ _ _ us its h1 h2 => match us, h1, its, h2 with | [_, _], _, [_], _ => ⟨_, rfl, rfl⟩)
  have eR : dsR = [] := by cases vR; rfl
  subst eR
  let Tr : Rtx w K mg := {
    p := Tp,
    z_len := PySem.W.mg_none_of X G z_len,
    z_tuple := PySem.W.mg_none_of X G z_tuple,
    z_sum := PySem.W.mg_none_of X G z_sum,
    z_isinstance := PySem.W.mg_none_of X G z_isinstance,
    t_R := t_R,
    t_C := t_C,
    m_MOST_RUNS := PySem.W.mg_of X G m_MOST_RUNS,
    m_MOST_CELLS := PySem.W.mg_of X G m_MOST_CELLS,
    f_joined := f_joined,
    d_joined := _,
    F_joined := fun_mk (st := s_joined) l_joined c_joined k_joined,
    b_joined := (fun_mk (st := s_joined) l_joined c_joined k_joined).binds (ps := ["pairs"]) fun _ _ _ _ _ _ us hl => match us, hl with | [_], _ => rfl,
    m_joined := PySem.W.mg_of X G a_joined,
    f_row_of := f_row_of,
    d_row_of := _,
    F_row_of := fun_mk (st := s_row_of) l_row_of c_row_of k_row_of,
    b_row_of := (fun_mk (st := s_row_of) l_row_of c_row_of k_row_of).binds (ps := ["row"]) fun _ _ _ _ _ _ us hl => match us, hl with | [_], _ => rfl,
    m_row_of := PySem.W.mg_of X G a_row_of,
    c_Row := C_Row,
    m_Row := PySem.W.mg_of X G g_Row,
    cl_Row := ⟨pg_Row, hd_Row, po_Row, sa_Row⟩,
    n_runs := nruns_Row,
    f_Row___init := f_Row___init,
    d_Row___init := _,
    v_Row := .ref A_none,
    F_Row___init := FR,
    b_Row___init := bR,
    mk_Row := ⟨mk_Row, a_Row___init, i_Row___init, kc_Row⟩,
    a_size := A_size,
    f_Row_size := f_Row_size,
    d_Row_size := _,
    F_Row_size := fun_mk (st := s_Row_size) l_Row_size c_Row_size k_Row_size,
    b_Row_size := (fun_mk (st := s_Row_size) l_Row_size c_Row_size k_Row_size).binds (ps := ["self"]) fun _ _ _ _ _ _ us hl => match us, hl with | [_], _ => rfl,
    h_size := ⟨p_at, p_get, p_tak, ⟨_, p_rec⟩⟩ }
  let Tq : Qtx w K mg := { r := Tr, kRR := kRR, kLR := kLR, kTR := kTR, ty := fun h => .base (.ins h ⟨pg_Row, hd_Row, po_Row, sa_Row⟩ ca_Row sp tk mo_Row) }
  let Tm : Mtx w K mg := {
    q := Tq,
    z_len := PySem.W.mg_none_of X G z_len,
    z_min := PySem.W.mg_none_of X G z_min,
    z_int := PySem.W.mg_none_of X G z_int,
    z_str := PySem.W.mg_none_of X G z_str,
    z_isinstance := PySem.W.mg_none_of X G z_isinstance,
    t_CU := t_CU,
    t_RE := t_RE,
    m_CUT := PySem.W.mg_of X G m_CUT,
    m_REFUSE := PySem.W.mg_of X G m_REFUSE,
    kIS := kIS,
    kII := kII,
    f_length := f_length,
    d_length := _,
    F_length := fun_mk (st := s_length) l_length c_length k_length,
    b_length := (fun_mk (st := s_length) l_length c_length k_length).binds (ps := ["kept", "more"]) fun _ _ _ _ _ _ us hl => match us, hl with | [_, _], _ => rfl,
    m_length := PySem.W.mg_of X G a_length,
    f_way := f_way,
    d_way := _,
    F_way := fun_mk (st := s_way) l_way c_way k_way,
    b_way := (fun_mk (st := s_way) l_way c_way k_way).binds (ps := ["line", "cell"]) fun _ _ _ _ _ _ us hl => match us, hl with | [_, _], _ => rfl,
    m_way := PySem.W.mg_of X G a_way,
    f_is_at_most := f_is_at_most,
    d_is_at_most := _,
    F_is_at_most := fun_mk (st := s_is_at_most) l_is_at_most c_is_at_most k_is_at_most,
    b_is_at_most := (fun_mk (st := s_is_at_most) l_is_at_most c_is_at_most k_is_at_most).binds (ps := ["kept", "number"]) fun _ _ _ _ _ _ us hl => match us, hl with | [_, _], _ => rfl,
    m_is_at_most := PySem.W.mg_of X G a_is_at_most,
    f_short_row_of := f_short_row_of,
    d_short_row_of := _,
    F_short_row_of := fun_mk (st := s_short_row_of) l_short_row_of c_short_row_of k_short_row_of,
    b_short_row_of := (fun_mk (st := s_short_row_of) l_short_row_of c_short_row_of k_short_row_of).binds (ps := ["row"]) fun _ _ _ _ _ _ us hl => match us, hl with | [_], _ => rfl,
    m_short_row_of := PySem.W.mg_of X G a_short_row_of,
    f_shown := f_shown,
    d_shown := _,
    F_shown := fun_mk (st := s_shown) l_shown c_shown k_shown,
    b_shown := (fun_mk (st := s_shown) l_shown c_shown k_shown).binds (ps := ["machine", "row"]) fun _ _ _ _ _ _ us hl => match us, hl with | [_, _], _ => rfl,
    m_shown := PySem.W.mg_of X G a_shown,
    f_cuts := f_cuts,
    d_cuts := _,
    F_cuts := fun_mk (st := s_cuts) l_cuts c_cuts k_cuts,
    b_cuts := (fun_mk (st := s_cuts) l_cuts c_cuts k_cuts).binds (ps := ["reader", "row"]) fun _ _ _ _ _ _ us hl => match us, hl with | [_, _], _ => rfl,
    m_cuts := PySem.W.mg_of X G a_cuts,
    c_Machine := C_Machine,
    m_Machine := PySem.W.mg_of X G g_Machine,
    cl_Machine := ⟨pg_Machine, hd_Machine, po_Machine, sa_Machine⟩,
    n_lines := nlines_Machine,
    n_first := nfirst_Machine,
    n_begin := nbegin_Machine,
    f_Machine___init := f_Machine___init,
    d_Machine___init := _,
    F_Machine___init := fun_mk (st := s_Machine___init) l_Machine___init c_Machine___init k_Machine___init,
    b_Machine___init := (fun_mk (st := s_Machine___init) l_Machine___init c_Machine___init k_Machine___init).binds (ps := ["self", "reader"]) fun _ _ _ _ _ _ us hl => match us, hl with | [_, _], _ => rfl,
    mk_Machine := ⟨mk_Machine, a_Machine___init, i_Machine___init, kc_Machine⟩,
    f_Machine_come := f_Machine_come,
    d_Machine_come := _,
    F_Machine_come := fun_mk (st := s_Machine_come) l_Machine_come c_Machine_come k_Machine_come,
    b_Machine_come := (fun_mk (st := s_Machine_come) l_Machine_come c_Machine_come k_Machine_come).binds (ps := ["self", "name", "kept"]) fun _ _ _ _ _ _ us hl => match us, hl with | [_, _, _], _ => rfl,
    h_Machine_come := ⟨a_Machine_come, i_Machine_come, k_Machine_come⟩,
    f_Machine_behind := f_Machine_behind,
    d_Machine_behind := _,
    F_Machine_behind := fun_mk (st := s_Machine_behind) l_Machine_behind c_Machine_behind k_Machine_behind,
    b_Machine_behind := (fun_mk (st := s_Machine_behind) l_Machine_behind c_Machine_behind k_Machine_behind).binds (ps := ["self", "stand", "cell", "taken"]) fun _ _ _ _ _ _ us hl => match us, hl with | [_, _, _, _], _ => rfl,
    h_Machine_behind := ⟨a_Machine_behind, i_Machine_behind, k_Machine_behind⟩,
    f_Machine_ahead := f_Machine_ahead,
    d_Machine_ahead := _,
    F_Machine_ahead := fun_mk (st := s_Machine_ahead) l_Machine_ahead c_Machine_ahead k_Machine_ahead,
    b_Machine_ahead := (fun_mk (st := s_Machine_ahead) l_Machine_ahead c_Machine_ahead k_Machine_ahead).binds (ps := ["self", "stand", "cell", "count"]) fun _ _ _ _ _ _ us hl => match us, hl with | [_, _, _, _], _ => rfl,
    h_Machine_ahead := ⟨a_Machine_ahead, i_Machine_ahead, k_Machine_ahead⟩ }
  let T : Ltx w K mg := {
    g := Tg,
    m := Tm,
    kLL := kLL,
    z_tuple := PySem.W.mg_none_of X G z_tuple,
    z_isinstance := PySem.W.mg_none_of X G z_isinstance,
    f_law_cell := f_law_cell,
    d_law_cell := _,
    F_law_cell := fun_mk (st := s_law_cell) l_law_cell c_law_cell k_law_cell,
    b_law_cell := (fun_mk (st := s_law_cell) l_law_cell c_law_cell k_law_cell).binds (ps := ["_law_pen"]) fun _ _ _ _ _ _ us hl => match us, hl with | [_], _ => rfl,
    m_law_cell := PySem.W.mg_of X G a_law_cell,
    f_law_places := f_law_places,
    d_law_places := _,
    F_law_places := fun_mk (st := s_law_places) l_law_places c_law_places k_law_places,
    b_law_places := (fun_mk (st := s_law_places) l_law_places c_law_places k_law_places).binds (ps := ["_law_cells", "_law_add"]) fun _ _ _ _ _ _ us hl => match us, hl with | [_, _], _ => rfl,
    m_law_places := PySem.W.mg_of X G a_law_places }
  exact ⟨PySem.W.fnOf "law" "law" (defArgs s_law) (defBody s_law) (defScope s_law) .none kV_law dc_law pm_law an_law cd_law ct_law, fun s v => .of_eq rfl, fun base _ _ => ok_law T (fun_mk (st := s_law) l_law c_law k_law)⟩
theorem walk {l : PySem.W.OpenLaw} {q : Program} {loose : List Str} {XP : (Str → Option Value) → Heap → Prop} {YP : World → Heap → Prop} {d : DefRec} {K : Params → PySem.W.Frag} (hn : l.most = some 63) (hdf : d.params.defaults = [])
    (hY : ∀ (w : World) (h : Heap), YP w h → (K w.params).In h)
    (F : ∀ (w : World) (mg : Str → Option Value) (fa : Addr) (h : Heap), (K w.params).In h → h.Ns mainGlobals mg → mg d.name = some (.ref fa) →
      ∃ fd : FuncData, (∀ (s : Shared) (u : Value), BindsTo s fd ⟨[u], []⟩ [("_law_script", u)]) ∧ ∀ base : Heap, (K w.params).In base → base.Ns mainGlobals mg → FnOk l.prog w (K w.params) mg base CX0 12 fa fd ["_law_script"] (spLaw (K w.params))) :
    PySem.W.WalkO q loose XP YP l.row.toRowW d [] (fun f vs => PySem.call f vs) :=
  L2.walk_of (n := 63) (k := 12) (x := "_law_script") (CX := fun _ => CX0) (sp := fun w => spLaw (K w.params)) hn (by decide) hdf ⟨rfl, by decide, by decide⟩ hY F (fun _ _ a ns hl _ hS => ⟨a, ns, rfl, hS, hl, fun _ => rfl⟩) fun _ _ _ _ _ z => z
end K02

open PySem PySem.W PyProof.Rows in
set_option maxRecDepth 100000 in
set_option maxHeartbeats 0 in
theorem PySem.Challenge.cw_splitalike_k01_cuts_by_lengths_holds : PySem.Challenge.rw_splitalike_k01_cuts_by_lengths.Holds := by
  w_on; o_law; k_head; (case hw => w_witness2)
  k_fill
  refine K02.walk (l := PySem.Challenge.rw_splitalike_k01_cuts_by_lengths) rfl rfl (fun w h Y => PySem.W.kIn_of Y) ?F
  case F =>
    intro w mg fa h KX G hmg
    refine' K02.all_mk KX G hmg ?sp ?tk ?g_Reader ?pg_Reader ?hd_Reader ?po_Reader ?sa_Reader ?mk_Reader ?kc_Reader ?nlines_Reader ?a_Reader___init ?l_Reader___init ?c_Reader___init ?k_Reader___init ?i_Reader___init ?g_Machine ?pg_Machine ?hd_Machine ?po_Machine ?sa_Machine ?mk_Machine ?kc_Machine ?nlines_Machine ?nfirst_Machine ?nbegin_Machine ?a_Machine___init ?l_Machine___init ?c_Machine___init ?k_Machine___init ?i_Machine___init ?a_Machine_come ?l_Machine_come ?c_Machine_come ?k_Machine_come ?i_Machine_come ?a_Machine_behind ?l_Machine_behind ?c_Machine_behind ?k_Machine_behind ?i_Machine_behind ?a_Machine_ahead ?l_Machine_ahead ?c_Machine_ahead ?k_Machine_ahead ?i_Machine_ahead ?g_Row ?pg_Row ?hd_Row ?po_Row ?sa_Row ?mk_Row ?kc_Row ?nruns_Row ?a_Row___init ?l_Row___init ?c_Row___init ?k_Row___init ?i_Row___init ?u_dflt ?p_at ?p_get ?p_tak ?p_rec ?l_Row_size ?c_Row_size ?k_Row_size ?ca_Row ?mo_Row ?a_law_draw ?l_law_draw ?c_law_draw ?k_law_draw ?a_law_word ?l_law_word ?c_law_word ?k_law_word ?a_law_names ?l_law_names ?c_law_names ?k_law_names ?a_is_name ?l_is_name ?c_is_name ?k_is_name ?a_within ?l_within ?c_within ?k_within ?a_are_ways ?l_are_ways ?c_are_ways ?k_are_ways ?a_has_form ?l_has_form ?c_has_form ?k_has_form ?a_frozen ?l_frozen ?c_frozen ?k_frozen ?a_goals ?l_goals ?c_goals ?k_goals ?a_check_forms ?l_check_forms ?c_check_forms ?k_check_forms ?a_check_goals ?l_check_goals ?c_check_goals ?k_check_goals ?a_silent_ways ?l_silent_ways ?c_silent_ways ?k_silent_ways ?a_reached ?l_reached ?c_reached ?k_reached ?a_check_rings ?l_check_rings ?c_check_rings ?k_check_rings ?a_check_begin ?l_check_begin ?c_check_begin ?k_check_begin ?a_joined ?l_joined ?c_joined ?k_joined ?a_row_of ?l_row_of ?c_row_of ?k_row_of ?a_length ?l_length ?c_length ?k_length ?a_way ?l_way ?c_way ?k_way ?a_is_at_most ?l_is_at_most ?c_is_at_most ?k_is_at_most ?a_short_row_of ?l_short_row_of ?c_short_row_of ?k_short_row_of ?a_shown ?l_shown ?c_shown ?k_shown ?a_cuts ?l_cuts ?c_cuts ?k_cuts ?a_law_cell ?l_law_cell ?c_law_cell ?k_law_cell ?a_law_places ?l_law_places ?c_law_places ?k_law_places ?a_law ?l_law ?c_law ?k_law ?z_int ?z_len ?z_max ?z_min ?z_range ?z_list ?z_all ?z_tuple ?z_enumerate ?z_isinstance ?z_sum ?z_str ?g_ENTRIES ?l_ENTRIES ?y_ENTRIES ?w_ENTRIES ?g_BOUNDS ?l_BOUNDS ?y_BOUNDS ?w_BOUNDS ?e_case ?e_take ?e_rest ?e_cap ?e_jump ?e_set ?e_upto ?e_skip ?e_cut ?e_refuse ?b_rest ?u_b_rest ?b_cap ?u_b_cap ?b_jump ?u_b_jump ?b_set ?u_b_set ?b_upto ?u_b_upto ?b_skip ?u_b_skip ?o_case ?o_take ?o_cut ?o_refuse ?g_VALUES ?u_VALUES ?g_READING ?u_READING ?g_NEVER_FIRST ?u_NEVER_FIRST ?m_MOST_LINES ?m_MOST_LETTERS ?m_LETTERS ?m_MOST_RUNS ?m_MOST_CELLS ?m_CUT ?m_REFUSE ?kRR ?kLR ?kTR ?kIS ?kII ?kLL
    (case sp => k_is)
    (case tk => k_is)
    (case g_Reader => k_is)
    (case pg_Reader => k_is)
    (case hd_Reader => k_is)
    (case po_Reader => k_is)
    (case sa_Reader => k_is)
    (case mk_Reader => k_is)
    (case kc_Reader => k_is)
    (case nlines_Reader => k_is)
    (case a_Reader___init => k_is)
    (case l_Reader___init => k_is)
    (case c_Reader___init => k_is)
    (case k_Reader___init => k_is)
    (case i_Reader___init => k_is)
    (case g_Machine => k_is)
    (case pg_Machine => k_is)
    (case hd_Machine => k_is)
    (case po_Machine => k_is)
    (case sa_Machine => k_is)
    (case mk_Machine => k_is)
    (case kc_Machine => k_is)
    (case nlines_Machine => k_is)
    (case nfirst_Machine => k_is)
    (case nbegin_Machine => k_is)
    (case a_Machine___init => k_is)
    (case l_Machine___init => k_is)
    (case c_Machine___init => k_is)
    (case k_Machine___init => k_is)
    (case i_Machine___init => k_is)
    (case a_Machine_come => k_is)
    (case l_Machine_come => k_is)
    (case c_Machine_come => k_is)
    (case k_Machine_come => k_is)
    (case i_Machine_come => k_is)
    (case a_Machine_behind => k_is)
    (case l_Machine_behind => k_is)
    (case c_Machine_behind => k_is)
    (case k_Machine_behind => k_is)
    (case i_Machine_behind => k_is)
    (case a_Machine_ahead => k_is)
    (case l_Machine_ahead => k_is)
    (case c_Machine_ahead => k_is)
    (case k_Machine_ahead => k_is)
    (case i_Machine_ahead => k_is)
    (case g_Row => k_is)
    (case pg_Row => k_is)
    (case hd_Row => k_is)
    (case po_Row => k_is)
    (case sa_Row => k_is)
    (case mk_Row => k_is)
    (case kc_Row => k_is)
    (case nruns_Row => k_is)
    (case a_Row___init => k_is)
    (case l_Row___init => k_is)
    (case c_Row___init => k_is)
    (case k_Row___init => k_is)
    (case i_Row___init => k_is)
    (case u_dflt => k_is)
    (case p_at => k_is)
    (case p_get => k_is)
    (case p_tak => k_is)
    (case p_rec => k_is)
    (case l_Row_size => k_is)
    (case c_Row_size => k_is)
    (case k_Row_size => k_is)
    (case ca_Row => k_is)
    (case mo_Row => k_is)
    (case a_law_draw => k_is)
    (case l_law_draw => k_is)
    (case c_law_draw => k_is)
    (case k_law_draw => k_is)
    (case a_law_word => k_is)
    (case l_law_word => k_is)
    (case c_law_word => k_is)
    (case k_law_word => k_is)
    (case a_law_names => k_is)
    (case l_law_names => k_is)
    (case c_law_names => k_is)
    (case k_law_names => k_is)
    (case a_is_name => k_is)
    (case l_is_name => k_is)
    (case c_is_name => k_is)
    (case k_is_name => k_is)
    (case a_within => k_is)
    (case l_within => k_is)
    (case c_within => k_is)
    (case k_within => k_is)
    (case a_are_ways => k_is)
    (case l_are_ways => k_is)
    (case c_are_ways => k_is)
    (case k_are_ways => k_is)
    (case a_has_form => k_is)
    (case l_has_form => k_is)
    (case c_has_form => k_is)
    (case k_has_form => k_is)
    (case a_frozen => k_is)
    (case l_frozen => k_is)
    (case c_frozen => k_is)
    (case k_frozen => k_is)
    (case a_goals => k_is)
    (case l_goals => k_is)
    (case c_goals => k_is)
    (case k_goals => k_is)
    (case a_check_forms => k_is)
    (case l_check_forms => k_is)
    (case c_check_forms => k_is)
    (case k_check_forms => k_is)
    (case a_check_goals => k_is)
    (case l_check_goals => k_is)
    (case c_check_goals => k_is)
    (case k_check_goals => k_is)
    (case a_silent_ways => k_is)
    (case l_silent_ways => k_is)
    (case c_silent_ways => k_is)
    (case k_silent_ways => k_is)
    (case a_reached => k_is)
    (case l_reached => k_is)
    (case c_reached => k_is)
    (case k_reached => k_is)
    (case a_check_rings => k_is)
    (case l_check_rings => k_is)
    (case c_check_rings => k_is)
    (case k_check_rings => k_is)
    (case a_check_begin => k_is)
    (case l_check_begin => k_is)
    (case c_check_begin => k_is)
    (case k_check_begin => k_is)
    (case a_joined => k_is)
    (case l_joined => k_is)
    (case c_joined => k_is)
    (case k_joined => k_is)
    (case a_row_of => k_is)
    (case l_row_of => k_is)
    (case c_row_of => k_is)
    (case k_row_of => k_is)
    (case a_length => k_is)
    (case l_length => k_is)
    (case c_length => k_is)
    (case k_length => k_is)
    (case a_way => k_is)
    (case l_way => k_is)
    (case c_way => k_is)
    (case k_way => k_is)
    (case a_is_at_most => k_is)
    (case l_is_at_most => k_is)
    (case c_is_at_most => k_is)
    (case k_is_at_most => k_is)
    (case a_short_row_of => k_is)
    (case l_short_row_of => k_is)
    (case c_short_row_of => k_is)
    (case k_short_row_of => k_is)
    (case a_shown => k_is)
    (case l_shown => k_is)
    (case c_shown => k_is)
    (case k_shown => k_is)
    (case a_cuts => k_is)
    (case l_cuts => k_is)
    (case c_cuts => k_is)
    (case k_cuts => k_is)
    (case a_law_cell => k_is)
    (case l_law_cell => k_is)
    (case c_law_cell => k_is)
    (case k_law_cell => k_is)
    (case a_law_places => k_is)
    (case l_law_places => k_is)
    (case c_law_places => k_is)
    (case k_law_places => k_is)
    (case a_law => k_is)
    (case l_law => k_is)
    (case c_law => k_is)
    (case k_law => k_is)
    (case z_int => k_is)
    (case z_len => k_is)
    (case z_max => k_is)
    (case z_min => k_is)
    (case z_range => k_is)
    (case z_list => k_is)
    (case z_all => k_is)
    (case z_tuple => k_is)
    (case z_enumerate => k_is)
    (case z_isinstance => k_is)
    (case z_sum => k_is)
    (case z_str => k_is)
    (case g_ENTRIES => k_is)
    (case l_ENTRIES => k_is)
    (case y_ENTRIES => rfl)
    (case w_ENTRIES => first | rfl | decide +kernel)
    (case g_BOUNDS => k_is)
    (case l_BOUNDS => k_is)
    (case y_BOUNDS => rfl)
    (case w_BOUNDS => first | rfl | decide +kernel)
    (case e_case => k_is)
    (case e_take => k_is)
    (case e_rest => k_is)
    (case e_cap => k_is)
    (case e_jump => k_is)
    (case e_set => k_is)
    (case e_upto => k_is)
    (case e_skip => k_is)
    (case e_cut => k_is)
    (case e_refuse => k_is)
    (case b_rest => k_is)
    (case u_b_rest => k_is)
    (case b_cap => k_is)
    (case u_b_cap => k_is)
    (case b_jump => k_is)
    (case u_b_jump => k_is)
    (case b_set => k_is)
    (case u_b_set => k_is)
    (case b_upto => k_is)
    (case u_b_upto => k_is)
    (case b_skip => k_is)
    (case u_b_skip => k_is)
    (case o_case => k_is)
    (case o_take => k_is)
    (case o_cut => k_is)
    (case o_refuse => k_is)
    (case g_VALUES => k_is)
    (case u_VALUES => k_is)
    (case g_READING => k_is)
    (case u_READING => k_is)
    (case g_NEVER_FIRST => k_is)
    (case u_NEVER_FIRST => k_is)
    (case m_MOST_LINES => k_is)
    (case m_MOST_LETTERS => k_is)
    (case m_LETTERS => k_is)
    (case m_MOST_RUNS => k_is)
    (case m_MOST_CELLS => k_is)
    (case m_CUT => k_is)
    (case m_REFUSE => k_is)
    (case kRR => exact of_decide_eq_true (by kernel_rfl))
    (case kLR => exact of_decide_eq_true (by kernel_rfl))
    (case kTR => exact of_decide_eq_true (by kernel_rfl))
    (case kIS => exact of_decide_eq_true (by kernel_rfl))
    (case kII => exact of_decide_eq_true (by kernel_rfl))
    (case kLL => exact of_decide_eq_true (by kernel_rfl))
#print axioms PySem.Challenge.cw_splitalike_k01_cuts_by_lengths_holds

