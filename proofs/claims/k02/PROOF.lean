import PyProof.Rows.All
import Wide.All
import OpenK.AllK
import Wide.FinOn
import HandS.ForMost
import HandS.Exc
import HandS.ExcOwn
import HandS.ExcInit
import HandS.ExcField
import HandS.ExcValue
import HandS.Evl
import HandS.IsInst
import HandS.ExcIs
import KE.KExcIs
import PyProof.StrOps2
import HandS.Conv
import HandS.More
import HandS.DictComp
import KE.KStar
import KE.GoesEnum
import HandS.OwnEq
import HandS.WordsExc
import HandS.Walk
import HandS.TupAny
import HandS.LawCells
import HandS.Flow
import HandS.HeadHook3
import PySem.Challenge.RW_splitalike_k02_readers_kept
set_option Elab.async false
set_option linter.all false
set_option maxRecDepth 100000
/-! Readings, one step at a time: what a reading asks, by its head. -/
namespace Rd
open PySem L2
section
variable {K : PySem.W.Frag} {σ : L2.St} {H : Hp} {ta tb tc te : TE} {t u : TT} {x y z v : V} {r r' : R2} {D : Ends} {s s1 s2 : TS} {Q : VK} {QB : Bool → Hp → Prop} {QA : List V → Hp → Prop} {QS : L2.St → Hp → Prop} {g : TG} {A A' : TA}
theorem i_var {i : Nat} (h : σ[i]? = some (some v)) (q : Q v H) : tVar i σ H Q := ⟨v, h, q⟩
theorem i_c (q : Q v H) : tC v σ H Q := q
theorem i_op (q : ta σ H fun x H1 => tb σ H1 fun y H2 => r x y H2 Q) : tOp r ta tb σ H Q := q
theorem i_un {r : V → Hp → VK → Prop} (q : ta σ H fun x H1 => r x H1 Q) : tUn r ta σ H Q := q
theorem i_rI0 {g : Int → Int → V} {i j : Int} (q : Q (g i j) H) : rI0 g (.int i) (.int j) H Q := ⟨i, j, rfl, rfl, q⟩
theorem i_rI {C : Int → Int → Prop} {g : Int → Int → V} {i j : Int} (c : C i j) (q : Q (g i j) H) : rI C g (.int i) (.int j) H Q := ⟨i, j, rfl, rfl, c, q⟩
theorem i_rEq (s : scal x y = true) (q : Q (.bl (decide (x = y))) H) : rEq x y H Q := ⟨s, q⟩
theorem i_rNe (s : scal x y = true) (q : Q (.bl (!decide (x = y))) H) : rNe x y H Q := ⟨s, q⟩
theorem i_test (q : ta σ H fun x H' => ∃ k, x = .bl k ∧ QB k H') : tTest ta σ H QB := q
theorem i_tB (q : ta σ H fun x H' => ∃ k, x = .bl k ∧ QB k H') : tB ta σ H QB := q
theorem i_bl {b : Bool} {R : Bool → Prop} (q : R b) : ∃ k, V.bl b = V.bl k ∧ R k := ⟨b, rfl, q⟩
theorem i_and (q : t σ H fun c H1 => if c = true then u σ H1 QB else QB false H1) : tAnd t u σ H QB := q
theorem i_or (q : t σ H fun c H1 => if c = true then QB true H1 else u σ H1 QB) : tOr t u σ H QB := q
theorem i_not (q : t σ H fun c H1 => QB (!c) H1) : tNot t σ H QB := q
theorem i_notV (q : ta σ H fun x H1 => ∃ c, x = .bl c ∧ Q (.bl (!c)) H1) : tNotV ta σ H Q := q
theorem i_andV (q : ta σ H fun x H1 => ∃ c, x = .bl c ∧ if c = true then tb σ H1 Q else Q (.bl false) H1) : tAndV ta tb σ H Q := q
theorem i_orV (q : ta σ H fun x H1 => ∃ c, x = .bl c ∧ if c = true then Q (.bl true) H1 else tb σ H1 Q) : tOrV ta tb σ H Q := q
theorem i_if (q : t σ H fun c H1 => if c = true then ta σ H1 Q else tb σ H1 Q) : tIf t ta tb σ H Q := q
theorem i_chain (q : ta σ H fun x H1 => tb σ H1 fun y H2 => r x y H2 fun z H3 => ∃ k, z = .bl k ∧ (if k = true then tc σ H3 fun w' H4 => r' y w' H4 Q else Q (.bl false) H3)) : tChain r r' ta tb tc σ H Q := q
theorem i_call {sp : Sp} {dvs : List V} {E : XK} (q : A σ H fun vs H1 => sp (vs ++ dvs) H1 Q E) : tCall sp dvs E A σ H Q := q
theorem i_nil (q : QA [] H) : tNil σ H QA := q
theorem i_cons (q : ta σ H fun x H1 => A σ H1 fun xs H2 => QA (x :: xs) H2) : tCons ta A σ H QA := q
theorem i_cb {r : List V → Hp → VK → Prop} (q : A σ H fun vs H1 => r vs H1 Q) : tCB r A σ H Q := q
theorem i_bm {T : String} {r : V → List V → Hp → VK → Prop} (q : ta σ H fun x H1 => tyV K T x H1 ∧ A σ H1 fun xs H2 => r x xs H2 Q) : tBM K T r ta A σ H Q := q
theorem i_bm0 {T : String} {r : V → List V → Hp → VK → Prop} (q : ta σ H fun x H1 => tyV K T x H1 ∧ r x [] H1 Q) : tBM0 K T r ta σ H Q := q
theorem i_tup (q : A σ H fun xs H1 => xs.length ≤ sizeLine ∧ ∀ p, H1 p = none → Q (.ref p) (upd H1 p (.tup xs))) : tTup A σ H Q := q
theorem i_lst (q : A σ H fun xs H1 => xs.length ≤ sizeLine ∧ ∀ p, H1 p = none → Q (.ref p) (upd H1 p (.lst xs))) : tLst A σ H Q := q
theorem i_seq (q : s1 { D with nx := s2 D } σ H) : tSeq s1 s2 D σ H := q
theorem i_asg (q : te σ H fun x H1 => g x σ H1 D.nx) : tAsg te g D σ H := q
theorem i_name {i : Nat} (q : QS (σ.set i (some v)) H) : gName i v σ H QS := q
theorem i_sub {ts : TSet} (q : ta σ H fun o H1 => tb σ H1 fun i H2 => ts o i v H2 fun H3 => QS σ H3) : gSub ta tb ts v σ H QS := q
theorem i_ret (q : te σ H D.rt) : tRet te D σ H := q
theorem i_drop (q : te σ H fun _ H1 => D.nx σ H1) : tDrop te D σ H := q
theorem i_ifS (q : t σ H fun b H1 => if b = true then s1 D σ H1 else s2 D σ H1) : tIfS t s1 s2 D σ H := q
theorem i_next (q : D.nx σ H) : tNext D σ H := q
theorem i_nx {f b c : L2.St → Hp → Prop} {r : VK} (q : f σ H) : Ends.nx ⟨f, r, b, c⟩ σ H := q
theorem i_rt {f b c : L2.St → Hp → Prop} {r : VK} (q : r v H) : Ends.rt ⟨f, r, b, c⟩ v H := q
theorem i_bk {f b c : L2.St → Hp → Prop} {r : VK} (q : b σ H) : Ends.bk ⟨f, r, b, c⟩ σ H := q
theorem i_ct {f b c : L2.St → Hp → Prop} {r : VK} (q : c σ H) : Ends.ct ⟨f, r, b, c⟩ σ H := q
theorem i_ixL {p : Addr} {xs : List V} {i : Int} (h : SqL K H p xs) (e : atI xs i = some v) (q : Q v H) : rIxL K (.ref p) (.int i) H Q := ⟨p, xs, i, v, rfl, rfl, h, e, q⟩
theorem i_ixT {p : Addr} {xs : List V} {i : Int} (h : SqT K H p xs) (e : atI xs i = some v) (q : Q v H) : rIxT K (.ref p) (.int i) H Q := ⟨p, xs, i, v, rfl, rfl, h, e, q⟩
theorem i_ixS {z : Str} {i : Int} {c : Nat} (h : z.length ≤ sizeLine) (e : atI z.cps.toList i = some c) (q : Q (.str ⟨#[c]⟩) H) : rIxS (.str z) (.int i) H Q := ⟨z, i, c, rfl, rfl, h, e, q⟩
theorem i_setL {p : Addr} {xs : List V} {k : Int} {j : Nat} {QH : Hp → Prop} (h : H p = some (.lst xs)) (e : ixN xs.length k = some j) (q : QH (upd H p (.lst (xs.set j v)))) : rSetL (.ref p) (.int k) v H QH := ⟨p, xs, k, j, rfl, rfl, h, e, q⟩
theorem i_int1 {i : Int} {R : Int → Prop} {R2 : Prop} (q : R i) : (∃ j, [V.int i] = [V.int j] ∧ R j) ∨ R2 := .inl ⟨i, rfl, q⟩
theorem i_intb {b : Bool} {R : Bool → Prop} {R2 : Prop} (q : R b) : R2 ∨ ∃ k, [V.bl b] = [V.bl k] ∧ R k := .inr ⟨b, rfl, q⟩
theorem i_len {p : Addr} {xs : List V} {R : List V → Prop} (h : SqL K H p xs) (q : R xs) : ∃ p' ys, [V.ref p] = [V.ref p'] ∧ (SqL K H p' ys ∨ SqT K H p' ys) ∧ R ys := ⟨p, xs, rfl, .inl h, q⟩
theorem i_lenT {p : Addr} {xs : List V} {R : List V → Prop} (h : SqT K H p xs) (q : R xs) : ∃ p' ys, [V.ref p] = [V.ref p'] ∧ (SqL K H p' ys ∨ SqT K H p' ys) ∧ R ys := ⟨p, xs, rfl, .inr h, q⟩
theorem i_max {i j : Int} {R : Int → Int → Prop} (q : R i j) : ∃ i' j', [V.int i, V.int j] = [V.int i', V.int j'] ∧ R i' j' := ⟨i, j, rfl, q⟩

theorem i_append {p : Addr} {xs : List V} (h : H p = some (.lst xs)) (hz : xs.length < sizeLine) (q : Q .non (upd H p (.lst (xs ++ [v])))) : rAppend (.ref p) [v] H Q := ⟨p, xs, v, rfl, rfl, h, hz, q⟩
theorem i_catL {p b : Addr} {xs zs : List V} (h1 : H p = some (.lst xs)) (h2 : H b = some (.lst zs)) (hz : xs.length + zs.length ≤ sizeLine) (q : ∀ a, H a = none → Q (.ref a) (upd H a (.lst (xs ++ zs)))) : rCat (.ref p) (.ref b) H Q := ⟨p, b, xs, zs, rfl, rfl, h1, h2, hz, q⟩
theorem i_gtup {p : Addr} {xs : List V} {n : Nat} {tg : TGs} (h : SqT K H p xs) (e : xs.length = n) (q : tg xs σ H QS) : gTup K n tg (.ref p) σ H QS := ⟨p, xs, rfl, h, e, q⟩
theorem i_gcons {tg : TG} {ug : TGs} {vs : List V} (q : tg v σ H fun σ' H' => ug vs σ' H' QS) : gCons tg ug (v :: vs) σ H QS := ⟨v, vs, rfl, q⟩
theorem i_gnil (q : QS σ H) : gNil [] σ H QS := ⟨rfl, q⟩
theorem i_yes {QB : Bool → Hp → Prop} (q : QB true H) : tYes σ H QB := q
theorem i_m1 {r : V → List V → Hp → VK → Prop} (q : ta σ H fun x H1 => (∃ a, x = .str a) ∧ tb σ H1 fun y H2 => r x [y] H2 Q) : tM1 r ta tb σ H Q := q
theorem i_m0 {r : V → List V → Hp → VK → Prop} (q : ta σ H fun x H1 => (∃ a, x = .str a) ∧ r x [] H1 Q) : tM0 r ta σ H Q := q
/-- what a comprehension asks behind its source -/
def LcAsk (J : L2.It) (g : TG) (t : TT) (te : TE) (vs : List Nat) (σ : L2.St) (Q : VK) (H1 : Hp) : Prop := ∀ D, H1 D = none → ∃ W : Nat → Nat → Hp → Prop, (∃ m, W 0 m (upd H1 D (.lst []))) ∧ ∀ i m H, W i m H →
  (J.stop i H ∧ Q (.ref D) H) ∨ (J.go i H ∧ ∃ Nx : Hp → Prop, (∀ H', Nx H' → ∃ m', m' < m ∧ W (i + 1) m' H') ∧ ∀ x H', J.yld i H x H' → g x (wipe σ vs) H' fun σ2 H2 => wipe σ2 vs = wipe σ vs ∧ t σ2 H2 fun b H3 =>
    if b = true then te σ2 H3 fun y H4 => ∃ acc, H4 D = some (.lst acc) ∧ acc.length < sizeLine ∧ Nx (upd H4 D (.lst (acc ++ [y]))) else Nx H3)
theorem i_lcR {vs : List Nat} (q : A σ H fun ws H1 => ∃ j : Int, ws = [.int j] ∧ -(2 ^ 62) ≤ j ∧ j < 2 ^ 62 ∧ LcAsk (Itr 0 j.toNat) g t te vs σ Q H1) : tLc (iRng1 A) g t te vs σ H Q := q
theorem i_lcR2 {vs : List Nat} (q : A σ H fun ws H1 => ∃ i j : Int, ws = [.int i, .int j] ∧ (-(2 ^ 62) ≤ i ∧ i < 2 ^ 62 ∧ -(2 ^ 62) ≤ j ∧ j < 2 ^ 62) ∧ LcAsk (Itr i (j - i).toNat) g t te vs σ Q H1) : tLc (iRng2 A) g t te vs σ H Q := q
theorem i_lcL {vs : List Nat} (q : ta σ H fun x H1 => ∃ a, x = .ref a ∧ (∃ xs, SqL K H1 a xs) ∧ LcAsk (Itl K a) g t te vs σ Q H1) : tLc (iList K ta) g t te vs σ H Q := q
theorem i_lcT {vs : List Nat} (q : ta σ H fun x H1 => ∃ a, x = .ref a ∧ (∃ xs, SqT K H1 a xs) ∧ LcAsk (Itt K a) g t te vs σ Q H1) : tLc (iTup K ta) g t te vs σ H Q := q
theorem lcR {n : Int} {vs : List Nat} (h1 : -(2 ^ 62) ≤ n) (h2 : n < 2 ^ 62) (q : ∀ D, H D = none → ∃ Pv : Nat → Hp → Prop, Pv 0 (upd H D (.lst [])) ∧
    (∀ (i : Nat) H2, (i : Int) < n → Pv i H2 → g (.int (i : Int)) (wipe σ vs) H2 fun σ2 H2 => wipe σ2 vs = wipe σ vs ∧ t σ2 H2 fun b H3 =>
      if b = true then te σ2 H3 fun y H4 => ∃ acc, H4 D = some (.lst acc) ∧ acc.length < sizeLine ∧ Pv (i + 1) (upd H4 D (.lst (acc ++ [y]))) else Pv (i + 1) H3) ∧ ∀ H2, Pv n.toNat H2 → Q (.ref D) H2) :
    ∃ j : Int, [V.int n] = [.int j] ∧ -(2 ^ 62) ≤ j ∧ j < 2 ^ 62 ∧ LcAsk (Itr 0 j.toNat) g t te vs σ Q H := by
  refine ⟨n, rfl, h1, h2, fun D hD => ?_⟩
  obtain ⟨Pv, p0, ps, pd⟩ := q D hD
  exact lc_range (lo := 0) (n := n.toNat) Pv p0 (fun i H2 hi p => by rw [Int.zero_add]; exact ps i H2 (by omega) p) pd
theorem lcR2 {m n : Int} {vs : List Nat} (h0 : 0 ≤ m) (h1 : m < 2 ^ 62) (h2 : -(2 ^ 62) ≤ n) (h3 : n < 2 ^ 62) (q : ∀ D, H D = none → ∃ Pv : Nat → Hp → Prop, Pv 0 (upd H D (.lst [])) ∧
    (∀ (i : Nat) H2, m + (i : Int) < n → Pv i H2 → g (.int (m + (i : Int))) (wipe σ vs) H2 fun σ2 H2 => wipe σ2 vs = wipe σ vs ∧ t σ2 H2 fun b H3 =>
      if b = true then te σ2 H3 fun y H4 => ∃ acc, H4 D = some (.lst acc) ∧ acc.length < sizeLine ∧ Pv (i + 1) (upd H4 D (.lst (acc ++ [y]))) else Pv (i + 1) H3) ∧ ∀ H2, Pv (n - m).toNat H2 → Q (.ref D) H2) :
    ∃ i j : Int, [V.int m, V.int n] = [.int i, .int j] ∧ (-(2 ^ 62) ≤ i ∧ i < 2 ^ 62 ∧ -(2 ^ 62) ≤ j ∧ j < 2 ^ 62) ∧ LcAsk (Itr i (j - i).toNat) g t te vs σ Q H := by
  refine ⟨m, n, rfl, ⟨by omega, h1, h2, h3⟩, fun D hD => ?_⟩
  obtain ⟨Pv, p0, ps, pd⟩ := q D hD
  exact lc_range (lo := m) (n := (n - m).toNat) Pv p0 (fun i H2 hi p => ps i H2 (by omega) p) pd
theorem lcL {a : Addr} {xs : List V} {vs : List Nat} (h : SqL K H a xs) (q : ∀ D, H D = none → ∃ Pv : Nat → Hp → Prop, Pv 0 (upd H D (.lst [])) ∧ (∀ i H2, i ≤ xs.length → Pv i H2 → SqL K H2 a xs) ∧
    (∀ (i : Nat) x H2, xs[i]? = some x → Pv i H2 → g x (wipe σ vs) H2 fun σ2 H2 => wipe σ2 vs = wipe σ vs ∧ t σ2 H2 fun b H3 =>
      if b = true then te σ2 H3 fun y H4 => ∃ acc, H4 D = some (.lst acc) ∧ acc.length < sizeLine ∧ Pv (i + 1) (upd H4 D (.lst (acc ++ [y]))) else Pv (i + 1) H3) ∧ ∀ H2, Pv xs.length H2 → Q (.ref D) H2) :
    ∃ a', V.ref a = .ref a' ∧ (∃ ys, SqL K H a' ys) ∧ LcAsk (Itl K a') g t te vs σ Q H := by
  refine ⟨a, rfl, ⟨xs, h⟩, fun D hD => ?_⟩
  obtain ⟨Pv, p0, pl, ps, pd⟩ := q D hD
  exact lc_list (xs := xs) Pv p0 pl ps pd
theorem lcT {a : Addr} {xs : List V} {vs : List Nat} (h : SqT K H a xs) (q : ∀ D, H D = none → ∃ Pv : Nat → Hp → Prop, Pv 0 (upd H D (.lst [])) ∧ (∀ i H2, i ≤ xs.length → Pv i H2 → SqT K H2 a xs) ∧
    (∀ (i : Nat) x H2, xs[i]? = some x → Pv i H2 → g x (wipe σ vs) H2 fun σ2 H2 => wipe σ2 vs = wipe σ vs ∧ t σ2 H2 fun b H3 =>
      if b = true then te σ2 H3 fun y H4 => ∃ acc, H4 D = some (.lst acc) ∧ acc.length < sizeLine ∧ Pv (i + 1) (upd H4 D (.lst (acc ++ [y]))) else Pv (i + 1) H3) ∧ ∀ H2, Pv xs.length H2 → Q (.ref D) H2) :
    ∃ a', V.ref a = .ref a' ∧ (∃ ys, SqT K H a' ys) ∧ LcAsk (Itt K a') g t te vs σ Q H := by
  refine ⟨a, rfl, ⟨xs, h⟩, fun D hD => ?_⟩
  obtain ⟨Pv, p0, pl, ps, pd⟩ := q D hD
  exact lc_tup (xs := xs) Pv p0 pl ps pd
/-- what a for asks behind its source -/
def ForAsk (J : L2.It) (g : TG) (tb : TS) (D : Ends) (σ : L2.St) (H1 : Hp) : Prop := ∃ W : Nat → Nat → L2.St → Hp → Prop, (∃ m, W 0 m σ H1) ∧ ∀ i m σ H, W i m σ H →
  (J.stop i H ∧ D.nx σ H) ∨ (J.go i H ∧ ∃ N : L2.St → Hp → Prop, (∀ σ' H', N σ' H' → ∃ m', m' < m ∧ W (i + 1) m' σ' H') ∧ ∀ x H', J.yld i H x H' → g x σ H' fun σ2 H2 => tb { D with nx := N, ct := N, bk := D.nx } σ2 H2)
theorem i_forR (q : A σ H fun ws H1 => ∃ j : Int, ws = [.int j] ∧ -(2 ^ 62) ≤ j ∧ j < 2 ^ 62 ∧ ForAsk (Itr 0 j.toNat) g s D σ H1) : tFor (iRng1 A) g s D σ H := q
theorem i_forL (q : ta σ H fun x H1 => ∃ a, x = .ref a ∧ (∃ xs, SqL K H1 a xs) ∧ ForAsk (Itl K a) g s D σ H1) : tFor (iList K ta) g s D σ H := q
theorem i_forT (q : ta σ H fun x H1 => ∃ a, x = .ref a ∧ (∃ xs, SqT K H1 a xs) ∧ ForAsk (Itt K a) g s D σ H1) : tFor (iTup K ta) g s D σ H := q
theorem forR {n : Int} (h1 : -(2 ^ 62) ≤ n) (h2 : n < 2 ^ 62) (Pv : Nat → L2.St → Hp → Prop) (p0 : Pv 0 σ H)
    (ps : ∀ (i : Nat) σ H, (i : Int) < n → Pv i σ H → g (.int (i : Int)) σ H fun σ2 H2 => s { D with nx := Pv (i + 1), ct := Pv (i + 1), bk := D.nx } σ2 H2) (pd : ∀ σ H, Pv n.toNat σ H → D.nx σ H) :
    ∃ j : Int, [V.int n] = [.int j] ∧ -(2 ^ 62) ≤ j ∧ j < 2 ^ 62 ∧ ForAsk (Itr 0 j.toNat) g s D σ H :=
  ⟨n, rfl, h1, h2, for_range (lo := 0) (n := n.toNat) Pv p0 (fun i σ H hi p => by rw [Int.zero_add]; exact ps i σ H (by omega) p) pd⟩
theorem forL {a : Addr} {xs : List V} (h : SqL K H a xs) (Pv : Nat → L2.St → Hp → Prop) (p0 : Pv 0 σ H) (pl : ∀ i σ H, i ≤ xs.length → Pv i σ H → SqL K H a xs)
    (ps : ∀ i x σ H, xs[i]? = some x → Pv i σ H → g x σ H fun σ2 H2 => s { D with nx := Pv (i + 1), ct := Pv (i + 1), bk := D.nx } σ2 H2) (pd : ∀ σ H, Pv xs.length σ H → D.nx σ H) :
    ∃ a', V.ref a = .ref a' ∧ (∃ ys, SqL K H a' ys) ∧ ForAsk (Itl K a') g s D σ H := ⟨a, rfl, ⟨xs, h⟩, for_list (xs := xs) Pv p0 pl ps pd⟩
theorem forT {a : Addr} {xs : List V} (h : SqT K H a xs) (Pv : Nat → L2.St → Hp → Prop) (p0 : Pv 0 σ H) (pl : ∀ i σ H, i ≤ xs.length → Pv i σ H → SqT K H a xs)
    (ps : ∀ i x σ H, xs[i]? = some x → Pv i σ H → g x σ H fun σ2 H2 => s { D with nx := Pv (i + 1), ct := Pv (i + 1), bk := D.nx } σ2 H2) (pd : ∀ σ H, Pv xs.length σ H → D.nx σ H) :
    ∃ a', V.ref a = .ref a' ∧ (∃ ys, SqT K H a' ys) ∧ ForAsk (Itt K a') g s D σ H := ⟨a, rfl, ⟨xs, h⟩, for_tup (xs := xs) Pv p0 pl ps pd⟩
/-- ways -/
theorem ite_d {p : Prop} [Decidable p] {a b : Prop} (h1 : p → a) (h2 : ¬ p → b) : if decide p = true then a else b := by
  by_cases h : p
  · rw [if_pos (decide_eq_true h)]; exact h1 h
  · rw [if_neg (by rw [decide_eq_false h]; exact Bool.false_ne_true)]; exact h2 h
theorem ite_nd {p : Prop} [Decidable p] {a b : Prop} (h1 : p → b) (h2 : ¬ p → a) : if (!decide p) = true then a else b := by
  by_cases h : p
  · rw [decide_eq_true h, if_neg (by decide)]; exact h1 h
  · rw [decide_eq_false h, if_pos (by decide)]; exact h2 h
theorem ite_b {c : Bool} {a b : Prop} (h1 : c = true → a) (h2 : c = false → b) : if c = true then a else b := by
  cases c
  · rw [if_neg Bool.false_ne_true]; exact h2 rfl
  · rw [if_pos rfl]; exact h1 rfl
theorem ite_vi {i j : Int} {a b : Prop} (h1 : i = j → a) (h2 : i ≠ j → b) : if decide (V.int i = V.int j) = true then a else b := ite_d (fun e => h1 (V.int.inj e)) fun n => h2 fun e => n (by rw [e])
theorem ite_T {a b : Prop} (h : a) : if true = true then a else b := by rw [if_pos rfl]; exact h
theorem ite_F {a b : Prop} (h : b) : if false = true then a else b := by rw [if_neg Bool.false_ne_true]; exact h
theorem mulL {i j : Int} (h1 : -(2 ^ 64) < i) (h2 : i < 2 ^ 64) : CMul i j := .inl ⟨h1, h2⟩
theorem mulR {i j : Int} (h1 : -(2 ^ 64) < j) (h2 : j < 2 ^ 64) : CMul i j := .inr ⟨h1, h2⟩
/-- fields of new things -/
theorem up_ne {H : Hp} {a b : Addr} {o : HO} {u : HO} (hn : H a = none) (h : H b = some u) : upd H a o b = some u := by rw [upd_ne (ne_of_none h hn)]; exact h
end
end Rd

set_option maxHeartbeats 4000000
/-! Exceptions of the program's own classes as values: made, a field read, isinstance. -/
namespace Xv
open PySem PySem.Spec PyProof.Rows L2

section
variable {X : Cx} {e : Expr} {es : List Expr} {te : TE} {ta : TA} {p pos : Pos}
/-- C(e, ..) as a value, C's own __init__ keeping sp -/
def tMkV (C : Addr) (sp : Sp) (ta : TA) : TE := fun σ H Q => ta σ H fun vs H1 => vs.length ≤ 1000 ∧ ∀ a, H1 a = none → sp (.ref a :: vs) (upd H1 a (exo a C none)) (fun v H2 => v = .non ∧ Q (.ref a) H2) (fun _ _ _ => False)
theorem pe_mkV {CX : CXT} {x : Str} {C fI : Addr} {k : Nat} {fd : FuncData} {ps : List Str} {sp : Sp} (T : OexC X.K C) (iC : PySem.W.findIn X.K (.ref C) "__init__" = some (some (.ref fI))) (tI : PySem.W.typeIn X.K (.ref fI) = some (.type "function"))
    (F1 : FnOk X.prog X.w X.K X.mg X.base CX k fI fd ps sp) (hr : Room (k + 1) X.A) (hb : Binds X.K fd ps []) (hx : Passes CX X (fun _ _ _ => False)) (hg : Gl X x) (hm : X.mg x = some (.ref C)) (ha : PA X (e :: es) ta)
    (hdb : (x == ("__debug__" : Str)) = false := by decide) (he : starEach (e :: es) X.env = (false, eval e X.env) :: starEach es X.env := by rfl) (hpl : (backTo pos (starEach es X.env)).any (·.1) = false := by rfl) :
    PE X (.Call (.Name x p) (e :: es) [] pos) (tMkV C sp ta) := by
  refine ⟨fun pins s σ H Q I h => ?_⟩
  obtain ⟨nm, q, N, bs, bm, sn, sub, ab, col, dd, k0, k1, k2, k3, k5, hC, hbm⟩ := T.cls
  refine wpAny_Call_Name_kw (ld_glob I hg hm ?_ hdb)
  refine PySem.W.callWith_K (h₀ := X.base) I.ok.mod.kin T.kC (thn (ha.run pos pins s σ H _ I h) fun us s1 ⟨vs, H1, I1, r1, hz, q1⟩ => ⟨I1.kIn, ?_⟩) he hpl
  show wpAny _ _ (call (.ref C) us) _ _ _
  obtain ⟨hp, g, dr, tk, os⟩ := s1
  have hsz : hp.objs.size ≤ hp.objs.size + 1 := Nat.le_succ _
  have hn : H1 (hp.objs.size + 1) = none := I1.hok.fresh hsz
  have hq := q1 (hp.objs.size + 1) hn
  have kk : ∀ b o, hp.get? b = some o → ((hp.push (PySem.W.kdv_tup us)).push (PySem.HandSPX.excO C hp.objs.size)).get? b = some o := fun b o e => Heap.get?_push_of_some _ (Heap.get?_push_of_some _ e)
  have hget : ((hp.push (PySem.W.kdv_tup us)).push (PySem.HandSPX.excO C hp.objs.size)).get? (hp.objs.size + 1) = some (PySem.HandSPX.excO C hp.objs.size) := by heap_get
  have I2 : Inv X pins σ (upd H1 (hp.objs.size + 1) (exo (hp.objs.size + 1) C none)) ⟨(hp.push (PySem.W.kdv_tup us)).push (PySem.HandSPX.excO C hp.objs.size), g, dr, tk, os⟩ :=
    I1.laid (t' := tk) (a := hp.objs.size + 1) (o := exo (hp.objs.size + 1) C none) (h' := (hp.push (PySem.W.kdv_tup us)).push (PySem.HandSPX.excO C hp.objs.size)) kk hsz (exo_ok hget)
  have r2 : Vals (V.ref (hp.objs.size + 1) :: vs) (Value.ref (hp.objs.size + 1) :: us) := .cons rfl r1
  have hl : (Value.ref (hp.objs.size + 1) :: us).length = ps.length := by
    have e := r2.length
    rw [F1.len _ _ _ _ hq] at e
    exact e.symm
  have hus : us.length ≤ sizeLine := by
    rw [← Paired.length r1, sizeLine_eq]
    omega
  have b0 := hb ⟨(hp.push (PySem.W.kdv_tup us)).push (PySem.HandSPX.excO C hp.objs.size), g, dr, tk, os⟩ (Value.ref (hp.objs.size + 1) :: us) I2.kIn (by rw [List.append_nil]; exact hl)
  rw [List.append_nil] at b0
  refine wpAny_call (PySem.HandSPX.call_own F.excBase_ValueError (fun Y => PySem.HandSPX.refsVE_contains Y bm hbm) (I1.kIn _ _ hC) (PySem.W.looks_findIn I1.kIn iC) (fun self => PySem.W.bind_fn I1.kIn self tI) hus
    (codeAny_mono (F1.run _ X.stack _ _ ⟨Value.ref (hp.objs.size + 1) :: us, []⟩ (Value.ref (hp.objs.size + 1) :: us) _ _ (fun _ _ _ => False) (hr.make C us []) (I2.env0.make C us []) b0 r2 hq) fun r s' hq' => ?_))
  cases r with
  | error er => exact hx pins σ _ _ er s' I2 hq'
  | ok fl =>
    cases fl with
    | ret u =>
      obtain ⟨v, H2, os2, bare2, un2, hok2, rv, ev, q2⟩ := hq'
      subst ev
      have J : Inv X pins σ H2 s' := I2.call' (ch := []) os2 un2 hok2 bare2 (fun b z => absurd z (by simp))
      exact ⟨rv, .ref (hp.objs.size + 1), H2, J, rfl, q2⟩
    | next => exact False.elim hq'
    | brk => exact False.elim hq'
    | cont => exact False.elim hq'
/-- C(), an own class without own __init__ -/
def tMkV0 (C : Addr) : TE := fun _ H Q => ∀ a, H a = none → Q (.ref a) (upd H a (exo a C none))
theorem pe_mkV0 {C : Addr} {x : Str} {bmB : List Value} {B newId initId : String} (F : ExcBaseFacts B newId initId bmB) (q : PySem.W.excIn X.K C bmB newId = true) (gC : X.mg x = some (.ref C)) (kC : PySem.W.keepIn X.K (.ref C) = true) (hg : Gl X x)
    (hdb : (x == ("__debug__" : Str)) = false := by decide) : PE X (.Call (.Name x p) [] [] pos) (tMkV0 C) := by
  refine ⟨fun pins s σ H Q I h => ?_⟩
  refine wpAny_Call_Name_kw (ld_glob I hg gC ?_ hdb)
  refine PySem.W.callWith_K0 I.kIn kC ?_
  obtain ⟨bm, N, nm, qn, bs, hdct, sn, sub, ab, col, dd, k0, k1, k2, k3, k5, mN, hC, hN, hni, T⟩ := exc_obj I.kIn q
  refine wpAny_call_exc_subT F T hC hN hni (fun h' a hm => ?_) (by show 0 ≤ sizeLine; exact Nat.zero_le _)
  have hn : H a = none := I.hok.gone hm.new
  obtain ⟨t, ht, _, _⟩ := hm.there
  exact ⟨.ref a, upd H a (exo a C none), I.laidN hm.keeps hm.new hn (exo_ok ht), rfl, h a hn⟩

/-- e.f, e an exception held as a value -/
def tXat (K : PySem.W.Frag) (f : Str) (te : TE) : TE := fun σ H Q => te σ H fun x H1 => ∃ (a C dx : Addr) (fs : List (Str × V)) (v : V), x = .ref a ∧ H1 a = some (exo a C (some dx)) ∧ H1 dx = some (exd dx fs) ∧ XfC K C ∧ PySem.W.findIn K (.ref C) f = some none ∧ fs.lookup f = some v ∧ Q v H1
theorem pe_xat {n : Str} (he : PE X e te) (hb : attributeBase e n X.env (eval e X.env) = eval e X.env := by rfl) : PE X (.Attribute e n pos) (tXat X.K n te) := by
  refine ⟨fun pins s σ H Q I h => ?_⟩
  refine attr_of hb (thn (he.run pins s σ H _ I h) fun u s1 hh => ?_)
  obtain ⟨x, H1, I1, rx, a, C, dd, fs, v, ex, ea, ed, T, hno, l, q⟩ := hh
  subst ex
  obtain rfl : u = Value.ref a := rx
  obtain ⟨t1, ha⟩ := exo_at I1.hok ea
  obtain ⟨mA, hns, hr⟩ := exd_at I1.hok ed
  obtain ⟨od, ho, hl⟩ := lookIn_ns hns
  obtain ⟨u, hu, ru⟩ := RelO.some_of (v := v) (o := mA n) (by rw [← l]; exact hr n)
  have J : PySem.W.InstAt s1.heap a _ C (some od) := ⟨ha, rfl, rfl, ho⟩
  exact HandSPX.exc_get I1.kIn J T.ga T.gg T.exC (PySem.W.findObj_own T.hdC hno rfl (by rw [hl, hu])) (handed_of ru) ⟨v, H1, I1.tok _, ru, q⟩

/-- isinstance(e, c), e an exception held as a value -/
def rIsX (K : PySem.W.Frag) : List V → Hp → VK → Prop := fun xs H Q => ∃ (c : V) (cv : Value) (b : Bool) (a D : Addr) (d : Option Addr), xs = [.ref a, c] ∧ ClsV c cv ∧ H a = some (exo a D d) ∧ (∀ dx, d = some dx → ∃ fs, H dx = some (exd dx fs)) ∧ ExcC K D ∧ PySem.W.kitOne K (.ref D) cv = some b ∧ Q (.bl b) H
theorem call_isX : CallR X (.builtin "isinstance") (rIsX X.K) := by
  intro pins s σ H xs us Q I r h
  obtain ⟨c, cv, b, a, D, d, rfl, k, ea, hd, T, e, q⟩ := h
  obtain ⟨u1, u2, rfl, r1, r2⟩ := vals2 r
  have e2 := k.eq r2
  subst e2
  obtain rfl : u1 = Value.ref a := r1
  obtain ⟨t1, ha⟩ := exo_at I.hok ea
  have hcl : (PySem.W.clsIn X.K D).isSome = true := by
    obtain ⟨cd, hc, _⟩ := PySem.W.any_some T.hd
    rw [hc]; rfl
  cases d with
  | none =>
    have J : PySem.W.InstAt s.heap a _ D none := ⟨ha, rfl, rfl, trivial⟩
    exact PySem.W.kia_one (PySem.W.kitx_exc hcl T.hg T.hk T.hs T.ha T.hn T.ht T.hm) I.kIn J e (fun z => nomatch z) fun tk => ⟨.bl b, H, I.tok tk, rfl, q⟩
  | some dx =>
    obtain ⟨fs, ed⟩ := hd dx rfl
    obtain ⟨mA, hns, hr⟩ := exd_at I.hok ed
    obtain ⟨od, ho, hl⟩ := lookIn_ns hns
    have J : PySem.W.InstAt s.heap a _ D (some od) := ⟨ha, rfl, rfl, ho⟩
    exact PySem.W.kia_one (PySem.W.kitx_exc hcl T.hg T.hk T.hs T.ha T.hn T.ht T.hm) I.kIn J e (fun z => nomatch z) fun tk => ⟨.bl b, H, I.tok tk, rfl, q⟩
end
end Xv
namespace Xv
open PySem PySem.Spec PyProof.Rows L2 Evl
/-- at a: an exception of the class at C with one field -/
def Er (H : Hp) (a C : Addr) (f : Str) (v : V) : Prop := ∃ dx : Addr, H a = some (exo a C (some dx)) ∧ H dx = some (exd dx [(f, v)])
theorem Er.mono {H H' : Hp} {a C : Addr} {f : Str} {v : V} (e : Ex H H') (h : Er H a C f v) : Er H' a C f v := by
  obtain ⟨dx, h1, h2⟩ := h
  exact ⟨dx, e _ _ h1, e _ _ h2⟩
/-- x is an exception of the class at C -/
def Ek (H : Hp) (x : V) (C : Addr) : Prop := ∃ (a : Addr) (d : Option Addr), x = .ref a ∧ H a = some (exo a C d) ∧ ∀ dx, d = some dx → ∃ fs, H dx = some (exd dx fs)
theorem Er.ek {H : Hp} {a C : Addr} {f : Str} {v : V} (h : Er H a C f v) : Ek H (.ref a) C := by
  obtain ⟨dx, h1, h2⟩ := h
  exact ⟨a, some dx, rfl, h1, fun d e => by cases e; exact ⟨_, h2⟩⟩
theorem Ek.mono {H H' : Hp} {x : V} {C : Addr} (e : Ex H H') (h : Ek H x C) : Ek H' x C := by
  obtain ⟨a, d, h1, h2, h3⟩ := h
  exact ⟨a, d, h1, e _ _ h2, fun dx q => by obtain ⟨fs, z⟩ := h3 dx q; exact ⟨fs, e _ _ z⟩⟩
def spInitX (C : Addr) (f : Str) : Sp := fun vs H Q _ => ∃ (a : Addr) (v : V), vs = [.ref a, v] ∧ H a = some (exo a C none) ∧ ∀ dx, H dx = none → dx ≠ a → Q .non (upd (upd H dx (exd dx [(f, v)])) a (exo a C (some dx)))
theorem i_mk {C : Addr} {f : Str} {v : V} {H : Hp} {R : Addr → Hp → Prop} (q : ∀ a H2, H a = none → Ex H H2 → Er H2 a C f v → R a H2) :
    [v].length ≤ 1000 ∧ ∀ a, H a = none → spInitX C f (.ref a :: [v]) (upd H a (exo a C none)) (fun u H2 => u = .non ∧ R a H2) (fun _ _ _ => False) := by
  refine ⟨by show 1 ≤ 1000; decide, fun a ha => ⟨a, v, rfl, upd_same, fun dx hd ne => ⟨rfl, q a _ ha (fun b o e => ?_) ⟨dx, upd_same, ?_⟩⟩⟩⟩
  · have nb : b ≠ a := ne_of_none e ha
    have nd : b ≠ dx := ne_of_none (H := upd H a (exo a C none)) (by rw [upd_ne nb]; exact e) hd
    rw [upd_ne nb, upd_ne nd, upd_ne nb]
    exact e
  · rw [upd_ne ne, upd_same]
theorem i_mkV {C : Addr} {sp : Sp} {A : TA} {σ : L2.St} {H : Hp} {Q : VK} (q : A σ H fun vs H1 => vs.length ≤ 1000 ∧ ∀ a, H1 a = none → sp (.ref a :: vs) (upd H1 a (exo a C none)) (fun v H2 => v = .non ∧ Q (.ref a) H2) (fun _ _ _ => False)) : tMkV C sp A σ H Q := q
theorem i_mkV0 {C : Addr} {σ : L2.St} {H : Hp} {Q : VK} (q : ∀ a H2, H a = none → Ex H H2 → Ek H2 (.ref a) C → Q (.ref a) H2) : tMkV0 C σ H Q := fun a ha => q a _ ha (Ex.new ha) ⟨a, none, rfl, upd_same, fun _ e => nomatch e⟩
theorem i_xat {K : PySem.W.Frag} {f : Str} {te : TE} {σ : L2.St} {H : Hp} {Q : VK} (q : te σ H fun x H1 => ∃ (a C dx : Addr) (fs : List (Str × V)) (v : V), x = .ref a ∧ H1 a = some (exo a C (some dx)) ∧ H1 dx = some (exd dx fs) ∧ XfC K C ∧ PySem.W.findIn K (.ref C) f = some none ∧ fs.lookup f = some v ∧ Q v H1) : tXat K f te σ H Q := q
/-- what the written part says of an own exception class that keeps one field -/
structure XC (K : PySem.W.Frag) (C fI : Addr) (f : Str) : Prop where
  oex : OexC K C
  xf : XfC K C
  no : PySem.W.findIn K (.ref C) f = some none
  iC : PySem.W.findIn K (.ref C) "__init__" = some (some (.ref fI))
  tI : PySem.W.typeIn K (.ref fI) = some (.type "function")
theorem i_er {K : PySem.W.Frag} {C fI a : Addr} {f : Str} {v : V} {H : Hp} {R : V → Prop} (T : XC K C fI f) (r : Er H a C f v) (q : R v) : ∃ (a' C' dx : Addr) (fs : List (Str × V)) (v' : V), V.ref a = .ref a' ∧ H a' = some (exo a' C' (some dx)) ∧ H dx = some (exd dx fs) ∧ XfC K C' ∧ PySem.W.findIn K (.ref C') f = some none ∧ fs.lookup f = some v' ∧ R v' := by
  obtain ⟨dx, h1, h2⟩ := r
  exact ⟨a, C, dx, _, v, rfl, h1, h2, T.xf, T.no, by simp [List.lookup], q⟩
theorem ev_er {K : PySem.W.Frag} {C fI a : Addr} {f : Str} {v : V} {H : Hp} {te : TE} {σ : L2.St} (T : XC K C fI f) (h : Ev te σ H (.ref a)) (r : Er H a C f v) : Ev (tXat K f te) σ H v := fun H1 e Q q =>
  h H1 e _ fun H2 e2 => i_er T (r.mono (e.trans e2)) (q H2 e2)
theorem i_isX {K : PySem.W.Frag} {C D : Addr} {x : V} {b : Bool} {H : Hp} {Q : VK} (T : ExcC K D) (r : Ek H x D) (k : PySem.W.kitOne K (.ref D) (.ref C) = some b) (q : Q (.bl b) H) : rIsX K [x, .ref C] H Q := by
  obtain ⟨a, d, rfl, h1, h2⟩ := r
  exact ⟨.ref C, .ref C, b, a, D, d, rfl, .own C, h1, h2, T, k, q⟩
mutual
theorem dp_mono {K : PySem.W.Frag} {H H' : Hp} (e : Ex H H') : ∀ {v : V} {d : PyData}, Dp K H v d → Dp K H' v d
  | _, _, .non => .non
  | _, _, .bl b => .bl b
  | _, _, .int i => .int i
  | _, _, .str x => .str x
  | _, _, .lst h a => .lst (ex_l e h) (dpAll_mono e a)
  | _, _, .tup h a => .tup (ex_t e h) (dpAll_mono e a)
theorem dpAll_mono {K : PySem.W.Frag} {H H' : Hp} (e : Ex H H') : ∀ {vs : List V} {ds : List PyData}, DpAll K H vs ds → DpAll K H' vs ds
  | _, _, .nil => .nil
  | _, _, .cons a b => .cons (dp_mono e a) (dpAll_mono e b)
end
theorem dp_bools {K : PySem.W.Frag} {H : Hp} : ∀ bs : List Bool, DpAll K H (bs.map V.bl) (bs.map PyData.bool)
  | [] => .nil
  | b :: r => .cons (.bl b) (dp_bools r)
theorem dp_ints {K : PySem.W.Frag} {H : Hp} : ∀ bs : List Int, DpAll K H (bs.map V.int) (bs.map PyData.int)
  | [] => .nil
  | b :: r => .cons (.int b) (dp_ints r)
end Xv
namespace Xv
open PySem PySem.Spec PyProof.Rows L2 Evl
theorem et_yes {σ : L2.St} {H : Hp} : EvT tYes σ H true := fun H1 _ _ q => q H1 (Ex.refl H1)
theorem i_eqSame {K : PySem.W.Frag} {x y : V} {d : PyData} {H : Hp} {Q : VK} (h1 : Dp K H x d) (h2 : Dp K H y d) (s : SeqAt.shaped d = true) (q : Q (.bl true) H) : rEqD K x y H Q :=
  ⟨d, d, h1, h2, s, s, by rw [SeqAt.eqv_refl d (SeqAt.canLay_of_shaped s)]; exact q⟩
theorem i_neSame {K : PySem.W.Frag} {x y : V} {d : PyData} {H : Hp} {Q : VK} (h1 : Dp K H x d) (h2 : Dp K H y d) (s : SeqAt.shaped d = true) (q : Q (.bl false) H) : rNeD K x y H Q :=
  ⟨d, d, h1, h2, s, s, by rw [SeqAt.eqv_refl d (SeqAt.canLay_of_shaped s)]; exact q⟩
end Xv
namespace Xv
open PySem PySem.Spec PyProof.Rows L2 Evl
theorem i_isXty {K : PySem.W.Frag} {D : Addr} {x : V} {n : String} {b : Bool} {H : Hp} {Q : VK} (T : ExcC K D) (r : Ek H x D) (k : PySem.W.kitOne K (.ref D) (.type n) = some b) (q : Q (.bl b) H) : rIsX K [x, .ty n] H Q := by
  obtain ⟨a, d, rfl, h1, h2⟩ := r
  exact ⟨.ty n, .type n, b, a, D, d, rfl, .ty n, h1, h2, T, k, q⟩
/-- all but p stands as it stood -/
def But (p : Addr) (H H' : Hp) : Prop := ∀ b, b ≠ p → H' b = H b
theorem But.upd {p : Addr} {H : Hp} {o : HO} : But p H (upd H p o) := fun _ hb => upd_ne hb
theorem But.ex {p : Addr} {H0 H H' : Hp} (b : But p H H') (e : Ex H0 H) (n : H0 p = none) : Ex H0 H' := fun a o h => by rw [b a (ne_of_none h n)]; exact e a o h
theorem But.at {p a : Addr} {H H' : Hp} {o : HO} (b : But p H H') (h : H a = some o) (n : a ≠ p) : H' a = some o := by rw [b a n]; exact h
end Xv

/-! The heap without some addresses (what may change), a pen of draws, texts times ints. -/
namespace Hd
open PySem PySem.Spec PyProof.Rows L2 Evl
/-- the heap without the addresses of S -/
def hid (S : List Addr) (H : Hp) : Hp := fun b => if b ∈ S then none else H b
theorem hid_iff {S : List Addr} {H : Hp} {b : Addr} {o : HO} : hid S H b = some o ↔ b ∉ S ∧ H b = some o := by
  unfold hid
  by_cases h : b ∈ S
  · rw [if_pos h]
    constructor
    · intro z; cases z
    · intro z; exact absurd h z.1
  · rw [if_neg h]
    exact ⟨fun z => ⟨h, z⟩, fun z => z.2⟩
theorem hid_get {S : List Addr} {H : Hp} {b : Addr} {o : HO} (h : hid S H b = some o) : H b = some o := (hid_iff.mp h).2
theorem hid_sub {S : List Addr} {H : Hp} : Ex (hid S H) H := fun _ _ h => hid_get h
/-- an extension of the whole is one of the rest -/
theorem hid_ex {S : List Addr} {H H' : Hp} (e : Ex H H') : Ex (hid S H) (hid S H') := fun b o h => by
  obtain ⟨h1, h2⟩ := hid_iff.mp h
  exact hid_iff.mpr ⟨h1, e _ _ h2⟩
/-- more is hidden -/
theorem hid_more {S S' : List Addr} {H H' : Hp} (e : Ex (hid S H) (hid S H')) (hs : ∀ a ∈ S, a ∈ S') : Ex (hid S' H) (hid S' H') := fun b o h => by
  obtain ⟨h1, h2⟩ := hid_iff.mp h
  exact hid_iff.mpr ⟨h1, hid_get (e b o (hid_iff.mpr ⟨fun z => h1 (hs _ z), h2⟩))⟩
theorem hid_upd {S : List Addr} {H : Hp} {a : Addr} {o : HO} (ha : a ∈ S) : hid S (upd H a o) = hid S H := by
  funext b
  unfold hid
  by_cases h : b ∈ S
  · rw [if_pos h, if_pos h]
  · rw [if_neg h, if_neg h, upd_ne (fun z => h (by rw [z]; exact ha))]
theorem hid_new {S : List Addr} {H : Hp} {a : Addr} {o : HO} (h : H a = none) : Ex (hid S H) (hid S (upd H a o)) := hid_ex (Ex.new h)
/-- a pen: the list at p holds the list at q and a number; the list at q holds ints -/
def Pen (H : Hp) (p q : Addr) (s : Int) : Prop := 0 ≤ s ∧ ∃ ns : List Int, H p = some (.lst [.ref q, .int s]) ∧ H q = some (.lst (ns.map V.int)) ∧ ns ≠ [] ∧ ns.length ≤ 100
theorem Pen.ne {H : Hp} {p q : Addr} {s : Int} (h : Pen H p q s) : p ≠ q := by
  obtain ⟨_, ns, h1, h2, _, _⟩ := h
  intro e
  rw [e, h2] at h1
  cases ns with
  | nil => cases h1
  | cons n r => cases h1
theorem Pen.at {H H' : Hp} {p q : Addr} {s : Int} (h : Pen H p q s) (h1 : ∀ o, H p = some o → H' p = some o) (h2 : ∀ o, H q = some o → H' q = some o) : Pen H' p q s := by
  obtain ⟨a, ns, b, c, d, e⟩ := h
  exact ⟨a, ns, h1 _ b, h2 _ c, d, e⟩
theorem Pen.ex {H H' : Hp} {p q : Addr} {s : Int} (h : Pen H p q s) (e : Ex H H') : Pen H' p q s := h.at (fun o z => e _ _ z) (fun o z => e _ _ z)
/-- what is new is not the pen -/
theorem Pen.new {H : Hp} {p q a : Addr} {s : Int} (h : Pen H p q s) (n : H a = none) : a ∉ [p, q] := by
  obtain ⟨_, ns, b, c, _, _⟩ := h
  intro z
  rcases List.mem_cons.mp z with rfl | z
  · rw [n] at b; cases b
  · rcases List.mem_cons.mp z with rfl | z
    · rw [n] at c; cases c
    · cases z
theorem hid_pen_new {H : Hp} {p q a : Addr} {s : Int} {o : HO} (h : Pen H p q s) (n : H a = none) : hid [p, q] (upd H a o) a = some o := hid_iff.mpr ⟨h.new n, upd_same⟩
/-- the rest stands, and nothing that was free of it is known -/
def But2 (p q : Addr) (H H' : Hp) : Prop := ∀ b, b ≠ p → b ≠ q → H' b = H b
theorem But2.ex {p q : Addr} {H H' : Hp} (h : But2 p q H H') : Ex (hid [p, q] H) (hid [p, q] H') := fun b o z => by
  obtain ⟨h1, h2⟩ := hid_iff.mp z
  refine hid_iff.mpr ⟨h1, ?_⟩
  rw [h b (fun e => h1 (by rw [e]; exact List.mem_cons_self)) (fun e => h1 (by rw [e]; exact List.mem_cons_of_mem _ List.mem_cons_self))]
  exact h2
/-- text times int -/
def strRep (x : Str) (n : Nat) : Str := ⟨(List.replicate n x.cps.toList).flatten.toArray⟩
theorem fold_flat {l : List (Array Nat)} : ∀ {a : Array Nat}, (l.foldl (· ++ ·) a).toList = a.toList ++ (l.map (·.toList)).flatten := by
  induction l with
  | nil => intro a; simp
  | cons x r ih => intro a; rw [List.foldl_cons, ih]; simp [List.append_assoc]
theorem short {a b : Nat} (h1 : a ≤ 100) (h2 : b ≤ 100) : Builtin.Str.tooLong (a * b) = false := by
  have h : a * b ≤ 100 * 100 := Nat.mul_le_mul h1 h2
  unfold Builtin.Str.tooLong
  simp only [decide_eq_false_iff_not]
  rw [sizeLine_eq]
  omega
theorem op_mulS {X : Cx} : OpR X (binaryOp .Mult) (fun x y H Q => ∃ z k, x = .str z ∧ y = .int k ∧ 1 ≤ k ∧ k ≤ 100 ∧ z.length ≤ 100 ∧ Q (.str (strRep z k.toNat)) H) := by
  intro pins s σ H x y v u Q I rx ry h
  obtain ⟨z, k, rfl, rfl, h1, h2, h3, q⟩ := h
  obtain ⟨t, rfl⟩ := rx
  obtain ⟨t', rfl⟩ := ry
  refine PySem.P.mul_str ?_ (fun _ _ => ?_) (fun _ _ => ?_) ?_
  · simp only [Bool.or_eq_false_iff, decide_eq_false_iff_not]
    constructor <;> omega
  · have : (2 ^ 63 - 1 : Int) / k ≥ 100 := by
      have h0 : (100 : Int) ≤ (2 ^ 63 - 1) / k ↔ 100 * k ≤ 2 ^ 63 - 1 := Int.le_ediv_iff_mul_le (by omega)
      exact h0.mpr (by omega)
    omega
  · have : z.length * k.toNat ≤ 100 * 100 := Nat.mul_le_mul h3 (by omega)
    exact short h3 (by omega)
  · rw [if_neg (by omega)]
    split
    · rename_i hz
      have e : strRep z k.toNat = z := by
        rw [Bool.or_eq_true] at hz
        rcases hz with hz | hz
        · have : k = 1 := by simpa using hz
          subst this
          unfold strRep
          simp
        · have z0 : z.length = 0 := by simpa using hz
          have zc : z.cps = #[] := Array.eq_empty_of_size_eq_zero z0
          unfold strRep
          obtain ⟨c⟩ := z
          simp only at zc
          subst zc
          simp
      rw [e] at q
      exact ⟨.str z, H, I, ⟨t, rfl⟩, q⟩
    · have e : (⟨(List.replicate k.toNat z.cps).foldl (· ++ ·) #[]⟩ : Str) = strRep z k.toNat := by
        unfold strRep
        congr 1
        apply Array.toList_inj.mp
        rw [fold_flat]
        simp
      refine ⟨PySem.fits_reps (short h3 (by omega)), ?_⟩
      rw [e]
      exact ⟨.str (strRep z k.toNat), H, I.tok _, ⟨_, rfl⟩, q⟩
end Hd
namespace Hd
open PySem PySem.Spec PyProof.Rows L2 Evl
/-- a fresh list is changed: the rest of the old heap stands -/
theorem hid_mut {S : List Addr} {H0 H : Hp} {D : Addr} {o : HO} (e : Ex (hid S H0) (hid S H)) (n : H0 D = none) : Ex (hid S H0) (hid S (upd H D o)) := fun b u h => by
  obtain ⟨h1, h2⟩ := hid_iff.mp h
  obtain ⟨h3, h4⟩ := hid_iff.mp (e b u h)
  exact hid_iff.mpr ⟨h1, by rw [upd_ne (ne_of_none h2 n)]; exact h4⟩
theorem Pen.mut {H : Hp} {p q D : Addr} {s : Int} {o : HO} (h : Pen H p q s) (hD : D ∉ [p, q]) : Pen (upd H D o) p q s :=
  h.at (fun u z => by rw [upd_ne (fun e => hD (by rw [← e]; exact List.mem_cons_self))]; exact z) (fun u z => by rw [upd_ne (fun e => hD (by rw [← e]; exact List.mem_cons_of_mem _ List.mem_cons_self))]; exact z)
theorem But2.at {p q b : Addr} {H H' : Hp} {o : HO} (h : But2 p q H H') (hb : b ∉ [p, q]) (e : H b = some o) : H' b = some o := by
  rw [h b (fun z => hb (by rw [z]; exact List.mem_cons_self)) (fun z => hb (by rw [z]; exact List.mem_cons_of_mem _ List.mem_cons_self))]
  exact e
theorem nin {S : List Addr} {H : Hp} {b : Addr} {o : HO} (h : hid S H b = some o) : b ∉ S := (hid_iff.mp h).1
theorem join_signs : ∀ cs : List Nat, Txt.join (Str.ofString "") (cs.map fun c => (⟨#[c]⟩ : Str)) = ⟨cs.toArray⟩ := by
  intro cs
  have h : TL.tl (Txt.join (Str.ofString "") (cs.map fun c => (⟨#[c]⟩ : Str))) = cs := by
    rw [TL.join_eq, TL.tl_join]
    rw [show TL.tl (Str.ofString "") = [] from by decide +kernel]
    rw [List.map_map]
    induction cs with
    | nil => rfl
    | cons c r ih =>
      cases r with
      | nil => rfl
      | cons d r =>
        show [c] ++ ([] ++ TL.joinL [] _) = _
        rw [List.nil_append]
        exact congrArg (c :: ·) ih
  generalize Txt.join (Str.ofString "") (cs.map fun c => (⟨#[c]⟩ : Str)) = x at h
  obtain ⟨a⟩ := x
  have h' : a.toList = cs := h
  subst h'
  rfl
end Hd
namespace Hd
open PySem PySem.Spec PyProof.Rows L2 Evl
theorem inV_str (a : Str) (ns : List Str) : inV (.str a) (ns.map V.str) = decide (a ∈ ns) := by
  unfold inV
  rw [List.any_map]
  apply Bool.eq_iff_iff.mpr
  rw [List.any_eq_true, decide_eq_true_iff]
  constructor
  · rintro ⟨x, hx, e⟩
    have : x = a := by simpa [eqV] using e
    rwa [← this]
  · intro h
    exact ⟨a, h, by simp [eqV]⟩
theorem flat_str (ns : List Str) : (ns.map V.str).all flatV = true := by
  rw [List.all_map]
  exact List.all_eq_true.mpr fun _ _ => rfl
theorem inV_int (a : Int) (ns : List Int) : inV (.int a) (ns.map V.int) = decide (a ∈ ns) := by
  unfold inV
  rw [List.any_map]
  apply Bool.eq_iff_iff.mpr
  rw [List.any_eq_true, decide_eq_true_iff]
  constructor
  · rintro ⟨x, hx, e⟩
    have : x = a := by simpa [eqV] using e
    rwa [← this]
  · intro h
    exact ⟨a, h, by simp [eqV]⟩
theorem flat_int (ns : List Int) : (ns.map V.int).all flatV = true := by
  rw [List.all_map]
  exact List.all_eq_true.mpr fun _ _ => rfl
section
variable {K : PySem.W.Frag} {σ : L2.St} {H : Hp} {p : Addr} {a : Str} {ns : List Str} {Q : VK} {t : TT} {te : TE}
theorem i_inS (h : SqL K H p (ns.map V.str) ∨ SqT K H p (ns.map V.str)) (q : Q (.bl (decide (a ∈ ns))) H) : rIn K false (.str a) (.ref p) H Q :=
  ⟨p, _, rfl, h, rfl, flat_str ns, by rw [inV_str]; exact q⟩
theorem i_ninS (h : SqL K H p (ns.map V.str) ∨ SqT K H p (ns.map V.str)) (q : Q (.bl (!decide (a ∈ ns))) H) : rIn K true (.str a) (.ref p) H Q :=
  ⟨p, _, rfl, h, rfl, flat_str ns, by rw [inV_str]; exact q⟩
theorem el_lcR2 {ta : TA} {j : Nat} {vs : List Nat} {m n : Int} (f : Nat → Bool) (v : Nat → V) (h : EvA ta σ H [.int m, .int n]) (hm : 0 ≤ m ∧ m ≤ 40000) (hn : 0 ≤ n ∧ n ≤ 40000) (hw : ∀ x, wipe ((wipe σ vs).set j (some x)) vs = wipe σ vs)
    (ht : ∀ (i : Nat) H1, Ex H H1 → m + (i : Int) < n → EvT t ((wipe σ vs).set j (some (.int (m + (i : Int))))) H1 (f i)) (he : ∀ (i : Nat) H1, Ex H H1 → m + (i : Int) < n → f i = true → Ev te ((wipe σ vs).set j (some (.int (m + (i : Int))))) H1 (v i)) :
    EvL (tLc (iRng2 ta) (gName j) t te vs) σ H (given (n - m).toNat f v) := fun H0 e Q q => h H0 e _ fun H1 e1 => ⟨m, n, rfl, ⟨by omega, by omega, by omega, by omega⟩, fun Dl hD =>
  lc_range (lo := m) (n := (n - m).toNat) (Cw H1 f v Dl) ⟨hD, Ex.new hD, upd_same⟩ (fun i H' hi p => ⟨hw _, cw_turn p (by omega) (ht i H1 (e.trans e1) (by omega)) (fun hf => he i H1 (e.trans e1) (by omega) hf)⟩) (fun H' p => q Dl H' (fresh_back e1 p.1) (e1.trans p.2.1) p.2.2)⟩
end
theorem nodup_len {α : Type} [DecidableEq α] : ∀ {l l' : List α}, l.Nodup → (∀ a ∈ l, a ∈ l') → l.length ≤ l'.length
  | [], _, _, _ => Nat.zero_le _
  | a :: r, l', nd, h => by
    obtain ⟨n1, n2⟩ := List.nodup_cons.mp nd
    have hm : a ∈ l' := h a List.mem_cons_self
    have ih := nodup_len (l := r) (l' := l'.erase a) n2 (fun b hb => by
      have hne : b ≠ a := fun e => n1 (by rw [← e]; exact hb)
      exact (List.mem_erase_of_ne hne).mpr (h b (List.mem_cons_of_mem _ hb)))
    rw [List.length_erase_of_mem hm] at ih
    have : 0 < l'.length := List.length_pos_of_mem hm
    rw [List.length_cons]
    omega
theorem given_mem {n : Nat} {f : Nat → Bool} {v : Nat → V} {i : Nat} (hi : i < n) (hf : f i = true) : ∃ j, j < n ∧ f j = true ∧ (given n f v)[0]? = some (v j) ∧ 0 < (given n f v).length := by
  have h1 : i ∈ (List.range n).filter f := List.mem_filter.mpr ⟨List.mem_range.mpr hi, hf⟩
  unfold given
  cases e : (List.range n).filter f with
  | nil => rw [e] at h1; cases h1
  | cons j r =>
    have h2 : j ∈ (List.range n).filter f := by rw [e]; exact List.mem_cons_self
    obtain ⟨h3, h4⟩ := List.mem_filter.mp h2
    exact ⟨j, List.mem_range.mp h3, h4, rfl, by rw [List.map_cons, List.length_cons]; omega⟩
end Hd
namespace Hd
open PySem PySem.Spec PyProof.Rows L2 Evl
theorem lay_ints : ∀ ns : List Int, PyData.canLayAll0 (ns.map PyData.int) = true
  | [] => rfl
  | n :: r => by
    show (PyData.canLay0 (.int n) && PyData.canLayAll0 (r.map PyData.int)) = true
    rw [lay_ints r]
    rfl
theorem depth_ints : ∀ ns : List Int, PyData.depthAll (ns.map PyData.int) = 0
  | [] => rfl
  | n :: r => by
    show max (PyData.depth (.int n)) (PyData.depthAll (r.map PyData.int)) = 0
    rw [depth_ints r]
    rfl
theorem shaped_ints (ns : List Int) : SeqAt.shaped (.list (ns.map PyData.int)) = true := by
  unfold SeqAt.shaped
  have h1 : (PyData.list (ns.map PyData.int)).canLay0 = true := lay_ints ns
  have h2 : (PyData.list (ns.map PyData.int)).depth = 1 := by
    show PyData.depthAll (ns.map PyData.int) + 1 = 1
    rw [depth_ints]
  rw [h1, h2]
  rfl
theorem eqv_nil (ns : List Int) : PyData.eqv (.list (ns.map PyData.int)) (.list []) = decide (ns = []) := by
  cases ns with
  | nil => rfl
  | cons n r => rfl
/-- all items are places below n with P -/
def AllG (n : Nat) (P : Nat → Prop) (xs : List V) : Prop := ∀ v ∈ xs, ∃ g : Nat, v = .int (g : Int) ∧ g < n ∧ P g
theorem allG_ints {n : Nat} {P : Nat → Prop} : ∀ {xs : List V}, AllG n P xs → ∃ ns : List Int, xs = ns.map V.int
  | [], _ => ⟨[], rfl⟩
  | x :: r, h => by
    obtain ⟨g, e, _⟩ := h x List.mem_cons_self
    obtain ⟨ns, e2⟩ := allG_ints (xs := r) fun v hv => h v (List.mem_cons_of_mem _ hv)
    exact ⟨(g : Int) :: ns, by rw [e, e2]; rfl⟩
theorem allG_given {n m a : Nat} {f : Nat → Bool} {P : Nat → Prop} (h : ∀ i, i < m → f i = true → a + i < n ∧ P (a + i)) : AllG n P (given m f fun i => .int ((a : Int) + (i : Int))) := by
  intro v hv
  unfold given at hv
  obtain ⟨i, hi, rfl⟩ := List.mem_map.mp hv
  obtain ⟨h1, h2⟩ := List.mem_filter.mp hi
  obtain ⟨h3, h4⟩ := h i (List.mem_range.mp h1) h2
  exact ⟨a + i, by show V.int ((a : Int) + (i : Int)) = V.int ((a + i : Nat) : Int); rw [Int.natCast_add], h3, h4⟩
theorem allG_given0 {n m : Nat} {f : Nat → Bool} {P : Nat → Prop} (h : ∀ i, i < m → f i = true → i < n ∧ P i) : AllG n P (given m f fun i => .int (i : Int)) := by
  intro v hv
  unfold given at hv
  obtain ⟨i, hi, rfl⟩ := List.mem_map.mp hv
  obtain ⟨h1, h2⟩ := List.mem_filter.mp hi
  obtain ⟨h3, h4⟩ := h i (List.mem_range.mp h1) h2
  exact ⟨i, rfl, h3, h4⟩
theorem AllG.app {n : Nat} {P : Nat → Prop} {xs ys : List V} (h1 : AllG n P xs) (h2 : AllG n P ys) : AllG n P (xs ++ ys) := fun v hv => (List.mem_append.mp hv).elim (h1 v) (h2 v)
theorem AllG.rep {n k : Nat} {P : Nat → Prop} {xs : List V} (h : AllG n P xs) : AllG n P (List.replicate k xs).flatten := fun v hv => by
  obtain ⟨l, hl, hv⟩ := List.mem_flatten.mp hv
  rw [(List.mem_replicate.mp hl).2] at hv
  exact h v hv
theorem AllG.mono {n : Nat} {P P' : Nat → Prop} {xs : List V} (h : AllG n P xs) (hp : ∀ g, P g → P' g) : AllG n P' xs := fun v hv => by
  obtain ⟨g, a, b, c⟩ := h v hv
  exact ⟨g, a, b, hp g c⟩
theorem allG_rg {n : Nat} {a b : Int} (ha : 0 ≤ a) (hb : b ≤ n) : AllG n (fun g => a ≤ g) (rgV a b) := fun v hv => by
  unfold rgV at hv
  obtain ⟨i, hi, rfl⟩ := List.mem_map.mp hv
  have := List.mem_range.mp hi
  exact ⟨(a + (i : Nat)).toNat, by congr 1; omega, by omega, by omega⟩
section
variable {K : PySem.W.Frag} {σ : L2.St} {H : Hp} {Q : VK} {p : Addr}
theorem dp_ints' {K : PySem.W.Frag} {H : Hp} : ∀ bs : List Int, DpAll K H (bs.map V.int) (bs.map PyData.int)
  | [] => .nil
  | b :: r => .cons (.int b) (dp_ints' r)
/-- xs != [], xs == [] where xs are ints -/
theorem i_neNil {q : Addr} {ns : List Int} (h : H p = some (.lst (ns.map V.int))) (h2 : H q = some (.lst [])) (k : Q (.bl (!decide (ns = []))) H) : rNeD K (.ref p) (.ref q) H Q :=
  ⟨.list (ns.map PyData.int), .list [], .lst (SqL.of h) (dp_ints' ns), .lst (SqL.of h2) .nil, shaped_ints ns, rfl, by rw [eqv_nil]; exact k⟩
theorem i_eqNil {q : Addr} {ns : List Int} (h : H p = some (.lst (ns.map V.int))) (h2 : H q = some (.lst [])) (k : Q (.bl (decide (ns = []))) H) : rEqD K (.ref p) (.ref q) H Q :=
  ⟨.list (ns.map PyData.int), .list [], .lst (SqL.of h) (dp_ints' ns), .lst (SqL.of h2) .nil, shaped_ints ns, rfl, by rw [eqv_nil]; exact k⟩
theorem i_rep {xs : List V} {k : Int} (h : H p = some (.lst xs)) (h0 : 0 ≤ k) (h1 : k ≤ 100) (h2 : xs.length ≤ 1000) (q : ∀ a, H a = none → Q (.ref a) (upd H a (.lst (List.replicate k.toNat xs).flatten))) : rRep (.ref p) (.int k) H Q := by
  refine ⟨p, k, xs, rfl, rfl, h, by omega, by omega, ?_, q⟩
  have : xs.length * k.toNat ≤ 1000 * 100 := Nat.mul_le_mul h2 (by omega)
  exact Nat.le_trans this (by decide)
theorem i_lstRg {te : L2.St → Hp → (Int → Int → Hp → Prop) → Prop} (q : te σ H fun a b H1 => RgOk a b ∧ ∀ r, H1 r = none → Q (.ref r) (upd H1 r (.lst (rgV a b)))) : tLstRg te σ H Q := q
theorem i_rg1 {ta : TE} {QR : Int → Int → Hp → Prop} (q : ta σ H fun x H1 => ∃ n, x = .int n ∧ QR 0 n H1) : tRg1 ta σ H QR := q
theorem i_rg2 {ta tb : TE} {QR : Int → Int → Hp → Prop} (q : ta σ H fun x H1 => tb σ H1 fun y H2 => ∃ i j, x = .int i ∧ y = .int j ∧ QR i j H2) : tRg2 ta tb σ H QR := q
theorem i_ex1 {n : Int} {R : Int → Prop} (q : R n) : ∃ m, V.int n = V.int m ∧ R m := ⟨n, rfl, q⟩
theorem i_ex2 {n m : Int} {R : Int → Int → Prop} (q : R n m) : ∃ i j, V.int n = V.int i ∧ V.int m = V.int j ∧ R i j := ⟨n, m, rfl, rfl, q⟩
end
end Hd
namespace Hd
open PySem PySem.Spec PyProof.Rows L2 Evl
theorem hid_less {S S' : List Addr} {H : Hp} (hs : ∀ a ∈ S, a ∈ S') : Ex (hid S' H) (hid S H) := fun b o h => by
  obtain ⟨h1, h2⟩ := hid_iff.mp h
  exact hid_iff.mpr ⟨fun z => h1 (hs _ z), h2⟩
theorem sub2 {p q d : Addr} : ∀ a ∈ [p, q], a ∈ [p, q, d] := fun a h => by
  rcases List.mem_cons.mp h with h | h
  · exact List.mem_cons.mpr (.inl h)
  · exact List.mem_cons.mpr (.inr (List.mem_cons.mpr (.inl (List.mem_singleton.mp h))))
theorem in3 {p q d : Addr} : d ∈ [p, q, d] := List.mem_cons_of_mem _ (List.mem_cons_of_mem _ List.mem_cons_self)
theorem nin3 {p q d a : Addr} (h : a ∉ [p, q]) (hd : a ≠ d) : a ∉ [p, q, d] := fun z => by
  rcases List.mem_cons.mp z with z | z
  · exact h (by rw [z]; exact List.mem_cons_self)
  · rcases List.mem_cons.mp z with z | z
    · exact h (by rw [z]; exact List.mem_cons_of_mem _ List.mem_cons_self)
    · exact hd (List.mem_singleton.mp z)
end Hd
namespace Hd
open PySem PySem.Spec PyProof.Rows L2 Evl
section
variable {K : PySem.W.Frag} {σ : L2.St} {H : Hp} {Q : VK} {tk tv td ty : TE} {r : List (TE × TE)}
theorem i_rU {g : Int → V} {i : Int} (q : Q (g i) H) : rU g (.int i) H Q := ⟨i, rfl, q⟩
theorem i_pcons {QP : List (V × V) → Hp → Prop} (q : tk σ H fun x H1 => tv σ H1 fun y H2 => tPairs r σ H2 fun ps H3 => QP ((x, y) :: ps) H3) : tPairs ((tk, tv) :: r) σ H QP := q
theorem i_pnil {QP : List (V × V) → Hp → Prop} (q : QP [] H) : tPairs [] σ H QP := q
theorem i_disp (q : ∀ p, H p = none → tPairs r σ (upd H p (.dK [])) fun ps H2 => H2 p = some (.dK []) ∧ ∃ kvs : List (Key × V), ps = kvs.map (fun kv => (kV kv.1, kv.2)) ∧ kvs.length ≤ 15 ∧ Q (.ref p) (upd H2 p (.dK (mergeK [] kvs)))) : tDisp r σ H Q := q
theorem i_dget (q : td σ H fun x H1 => ty σ H1 fun y H2 => ∃ a v, x = .ref a ∧ DGet H2 a y (some v) ∧ Q v H2) : tDGet td ty σ H Q := q
theorem i_dg {a : Addr} {w : Str} {kvs : List (Key × V)} {v : V} {R : V → Prop} (h : H a = some (.dK kvs)) (e : valV kvs (Sum.inr w) = some v) (q : R v) : ∃ a' v', V.ref a = .ref a' ∧ DGet H a' (.str w) (some v') ∧ R v' :=
  ⟨a, v, rfl, by have := DGet.k (k := Sum.inr w) h; rw [e] at this; exact this, q⟩
end
end Hd

/-! Rules that the layer lacks: a walk over a list or a tuple, a starred list in a display. -/
namespace Nr
open PySem PySem.Spec PyProof.Rows L2 Evl
/-! ### a walk over what is a list or a tuple -/
def iSeq (K : PySem.W.Frag) (tl : TE) : TI := fun σ H R => tl σ H fun x H1 => ∃ a, x = .ref a ∧ (((∃ xs, SqL K H1 a xs) ∧ R (Itl K a) H1) ∨ ((∃ xs, SqT K H1 a xs) ∧ R (Itt K a) H1))
theorem pi_seq {X : Cx} {tg l : Expr} {tl : TE} (hl : PE X l tl) : PI X tg l (iSeq X.K tl) := by
  refine ⟨fun pins s σ H R I h => ?_⟩
  refine thn (hl.run pins s σ H _ I h) fun v s1 ⟨x, H1, I1, r1, a, e, q1⟩ => ?_
  subst e
  obtain rfl : v = Value.ref a := r1
  have fpn : ∀ b ∈ [s1.heap.objs.size], FpOk X pins H1 b := fun b hb => by
    rw [List.mem_singleton.mp hb]
    exact I1.fpOk (Nat.le_refl _) (I1.hok.fresh (Nat.le_refl _))
  rcases q1 with ⟨⟨xs, hq⟩, q⟩ | ⟨⟨xs, hq⟩, q⟩
  · obtain ⟨its, rv, p, hz⟩ := I1.list hq
    exact wpAny_pyIter_list p.isList ⟨s1.heap.objs.size, [s1.heap.objs.size], _, _, H1, rfl, I1.kept (t' := s1.toks) fun b o e => Heap.get?_push_of_some _ e, turn_list a _, ⟨_, Heap.get?_push_size _ rfl, rfl, rfl⟩, fpn, q⟩
  · obtain ⟨its, rv, p, hz⟩ := I1.tuple hq
    exact wpAny_pyIter_tuple (show s1.heap.IsTuple a its.toArray from p) ⟨s1.heap.objs.size, [s1.heap.objs.size], _, _, H1, rfl, I1.kept (t' := s1.toks) fun b o e => Heap.get?_push_of_some _ e, turn_tuple a _, ⟨_, Heap.get?_push_size _ rfl, rfl, rfl⟩, fpn, q⟩
section
variable {K : PySem.W.Frag} {σ : L2.St} {H : Hp} {ta te : TE} {t : TT} {g : TG} {s : TS} {D : Ends} {Q : VK}
theorem i_lcS {vs : List Nat} (q : ta σ H fun x H1 => ∃ a, x = .ref a ∧ (((∃ xs, SqL K H1 a xs) ∧ Rd.LcAsk (Itl K a) g t te vs σ Q H1) ∨ ((∃ xs, SqT K H1 a xs) ∧ Rd.LcAsk (Itt K a) g t te vs σ Q H1))) : tLc (iSeq K ta) g t te vs σ H Q := q
theorem i_forS (q : ta σ H fun x H1 => ∃ a, x = .ref a ∧ (((∃ xs, SqL K H1 a xs) ∧ Rd.ForAsk (Itl K a) g s D σ H1) ∨ ((∃ xs, SqT K H1 a xs) ∧ Rd.ForAsk (Itt K a) g s D σ H1))) : tFor (iSeq K ta) g s D σ H := q
/-- a list or a tuple of these items -/
def Sq (K : PySem.W.Frag) (H : Hp) (a : Addr) (xs : List V) : Prop := SqL K H a xs ∨ SqT K H a xs
theorem Sq.mono {H H' : Hp} {a : Addr} {xs : List V} (e : Ex H H') (h : Sq K H a xs) : Sq K H' a xs := h.elim (fun h => .inl (ex_l e h)) (fun h => .inr (ex_t e h))
/-- nothing that the loop makes touches the source: the invariant says that what was known is known -/
theorem lcS {H0 : Hp} {a : Addr} {xs : List V} {vs : List Nat} (h : Sq K H0 a xs) (e0 : Ex H0 H) (q : ∀ D, H D = none → ∃ Pv : Nat → Hp → Prop, Pv 0 (upd H D (.lst [])) ∧ (∀ i H2, Pv i H2 → Ex H0 H2) ∧
    (∀ (i : Nat) x H2, xs[i]? = some x → Pv i H2 → g x (wipe σ vs) H2 fun σ2 H2 => wipe σ2 vs = wipe σ vs ∧ t σ2 H2 fun b H3 =>
      if b = true then te σ2 H3 fun y H4 => ∃ acc, H4 D = some (.lst acc) ∧ acc.length < sizeLine ∧ Pv (i + 1) (upd H4 D (.lst (acc ++ [y]))) else Pv (i + 1) H3) ∧ ∀ H2, Pv xs.length H2 → Q (.ref D) H2) :
    ∃ a', V.ref a = .ref a' ∧ (((∃ ys, SqL K H a' ys) ∧ Rd.LcAsk (Itl K a') g t te vs σ Q H) ∨ ((∃ ys, SqT K H a' ys) ∧ Rd.LcAsk (Itt K a') g t te vs σ Q H)) := by
  refine ⟨a, rfl, ?_⟩
  rcases h with h | h
  · refine .inl ⟨⟨xs, ex_l e0 h⟩, fun D hD => ?_⟩
    obtain ⟨Pv, p0, pl, ps, pd⟩ := q D hD
    exact lc_list (xs := xs) Pv p0 (fun i H2 _ p => ex_l (pl i H2 p) h) ps pd
  · refine .inr ⟨⟨xs, ex_t e0 h⟩, fun D hD => ?_⟩
    obtain ⟨Pv, p0, pl, ps, pd⟩ := q D hD
    exact lc_tup (xs := xs) Pv p0 (fun i H2 _ p => ex_t (pl i H2 p) h) ps pd
theorem forS {H0 : Hp} {a : Addr} {xs : List V} (h : Sq K H0 a xs) (Pv : Nat → L2.St → Hp → Prop) (p0 : Pv 0 σ H) (pl : ∀ i σ H2, Pv i σ H2 → Ex H0 H2)
    (ps : ∀ i x σ H, xs[i]? = some x → Pv i σ H → g x σ H fun σ2 H2 => s { D with nx := Pv (i + 1), ct := Pv (i + 1), bk := D.nx } σ2 H2) (pd : ∀ σ H, Pv xs.length σ H → D.nx σ H) :
    ∃ a', V.ref a = .ref a' ∧ (((∃ ys, SqL K H a' ys) ∧ Rd.ForAsk (Itl K a') g s D σ H) ∨ ((∃ ys, SqT K H a' ys) ∧ Rd.ForAsk (Itt K a') g s D σ H)) := by
  refine ⟨a, rfl, ?_⟩
  rcases h with h | h
  · exact .inl ⟨⟨xs, ex_l (pl 0 σ H p0) h⟩, for_list (xs := xs) Pv p0 (fun i σ H2 _ p => ex_l (pl i σ H2 p) h) ps pd⟩
  · exact .inr ⟨⟨xs, ex_t (pl 0 σ H p0) h⟩, for_tup (xs := xs) Pv p0 (fun i σ H2 _ p => ex_t (pl i σ H2 p) h) ps pd⟩
end
/-! ### [*xs, ..] -/
section
variable {X : Cx} {pins : List (Addr × Obj)} {σ : L2.St} {H : Hp} {s : Shared}
/-- the items that a starred list hands on -/
theorem star_list {a : Addr} {xs : List V} {E : Value → Shared → Prop} {Q : List Value → Shared → Prop} (I : Inv X pins σ H s) (h : SqL X.K H a xs) (hQ : ∀ us s', Inv X pins σ H s' → Vals xs us → Q us s') :
    PySem.W.StarOf (model X.prog X.w) X.A E (.ref a) Q s := by
  obtain ⟨its, r, ⟨o, n, ho, hc, hd1, hd⟩, hz⟩ := I.list h
  have hT : s.TypeIs (.ref a) "list" := ⟨o, ho, hc⟩
  have hlen := r.length
  have walk : wpAny (model X.prog X.w) X.A (collect (.ref a)) Q E s := by
    refine wpAny_collect_seq a (.inl rfl) ho hc hd (fun h' hk => ?_) (by rw [List.size_toArray]; omega)
    rw [List.toList_toArray]
    exact hQ its _ (I.kept (t' := s.toks) hk) r
  unfold PySem.W.StarOf notIterableAtAll
  exact wpAny_bind (wpAny_specialOf hT PySem.F.slot_list_iter.lookup (wpAny_pure ⟨rfl, walk⟩))
def tStar (K : PySem.W.Frag) (te : TE) (tr : TA) : TA := fun σ H Q => te σ H fun x H1 => ∃ a xs, x = .ref a ∧ SqL K H1 a xs ∧ tr σ H1 fun ys H2 => Q (xs ++ ys) H2
theorem pa_star {e : Expr} {es : List Expr} {te : TE} {t : TA} {p : Pos} (he : PE X e te) (hr : PA X es t) (hs : starEach (.Starred e p :: es) X.env = (true, eval e X.env) :: starEach es X.env := by rfl) : PA X (.Starred e p :: es) (tStar X.K te t) := by
  refine ⟨fun pos pins s σ H Q I h => ?_⟩
  refine PySem.W.items_star (thn (he.run pins s σ H _ I h) fun v s1 ⟨x, H1, I1, r1, a, xs, e, hx, q⟩ => ?_) hs
  subst e
  obtain rfl : v = Value.ref a := r1
  refine star_list I1 hx fun us s2 I2 rv => ?_
  exact thn (hr.run pos pins s2 σ H1 _ I2 q) fun ws s3 ⟨ys, H3, I3, r3, q3⟩ => ⟨xs ++ ys, H3, I3, rv.append r3, q3⟩
theorem i_star {K : PySem.W.Frag} {te : TE} {t : TA} {Q : List V → Hp → Prop} (q : te σ H fun x H1 => ∃ a xs, x = .ref a ∧ SqL K H1 a xs ∧ t σ H1 fun ys H2 => Q (xs ++ ys) H2) : tStar K te t σ H Q := q
def rTup (K : PySem.W.Frag) : List V → Hp → VK → Prop := fun vs H Q => ∃ a ys, vs = [V.ref a] ∧ ((SqL K H a ys ∧ ∀ b, H b = none → Q (.ref b) (upd H b (.tup ys))) ∨ (SqT K H a ys ∧ Q (.ref a) H))
theorem call_tupR {X : Cx} : CallR X (.type "tuple") (rTup X.K) := call_tuple_of
theorem i_tupL {K : PySem.W.Frag} {H : Hp} {Q : VK} {a : Addr} {ys : List V} (h : SqL K H a ys) (q : ∀ b, H b = none → Q (.ref b) (upd H b (.tup ys))) : rTup K [.ref a] H Q := ⟨a, ys, rfl, .inl ⟨h, q⟩⟩
theorem i_tupT {K : PySem.W.Frag} {H : Hp} {Q : VK} {a : Addr} {ys : List V} (h : SqT K H a ys) (q : Q (.ref a) H) : rTup K [.ref a] H Q := ⟨a, ys, rfl, .inr ⟨h, q⟩⟩
theorem i_sl {r : V → Option Int → Option Int → Hp → VK → Prop} {te : TE} {tl th : TO} {σ : L2.St} {H : Hp} {Q : VK} (q : te σ H fun x H1 => tl σ H1 fun l H2 => th σ H2 fun u H3 => r x l u H3 Q) : tSl r te tl th σ H Q := q
theorem i_part {t : TE} {σ : L2.St} {H : Hp} {QO : Option Int → Hp → Prop} (q : t σ H fun x H1 => ∃ i, x = .int i ∧ QO (some i) H1) : tPart t σ H QO := q
theorem i_nop {σ : L2.St} {H : Hp} {QO : Option Int → Hp → Prop} (q : QO none H) : tNoPart σ H QO := q
theorem i_slT {K : PySem.W.Frag} {a : Addr} {xs : List V} {lo hi : Option Int} {H : Hp} {Q : VK} (h : SqT K H a xs) (c : ¬ (HT.sIx xs.length 0 lo = 0 ∧ HT.sIx xs.length xs.length hi = xs.length)) (q : ∀ p, H p = none → Q (.ref p) (upd H p (.tup (cutV xs lo hi)))) : rSlT K (.ref a) lo hi H Q := ⟨a, xs, rfl, h, c, q⟩
theorem ite_eF {c : Bool} {a b : Prop} (e : c = false) (h : b) : if c = true then a else b := by rw [if_neg (by rw [e]; exact Bool.false_ne_true)]; exact h
theorem ite_eT {c : Bool} {a b : Prop} (e : c = true) (h : a) : if c = true then a else b := by rw [if_pos e]; exact h
theorem i_tyL {K : PySem.W.Frag} {p : Addr} {xs : List V} {R : Prop} (h : H p = some (.lst xs)) (q : R) : tyV K "list" (.ref p) H ∧ R := ⟨.inl ⟨rfl, _, SqL.of h⟩, q⟩
end
end Nr

/-! A walk over enumerate(a tuple). -/
namespace En
open PySem PySem.Spec PyProof.Rows L2 Evl
theorem meets_newT (tp : Addr) (its : Array Value) :
    Meets (Builtin.«enumerate.__new__» ⟨[.type "enumerate", .ref tp], []⟩) (fun _ R st => st.heap.IsTuple tp its ∧
      R (.ok (.ret (.ref (st.heap.push { cls := .type "tuple_iterator", data := .fields #[.ref tp, .int 0 0] }).objs.size)))
        { st with heap := (st.heap.push { cls := .type "tuple_iterator", data := .fields #[.ref tp, .int 0 0] }).push { cls := .type "enumerate", data := .fields #[.none, .bool false, .ref st.heap.objs.size, rawInt 0, .none, .none] } }) :=
  .of_wp fun pr wo Ar Rr st ⟨hT, fin⟩ => by
    obtain ⟨hp, gl, di, to, ou⟩ := st; have hsb := sub_enumerate
    have q1 : ∀ {A' : Around} {E Q : Value → Shared → Prop}, Q (.ref hp.objs.size) ⟨hp.push { cls := .type "tuple_iterator", data := .fields #[.ref tp, .int 0 0] }, gl, di, to, ou⟩ → wpAny (model pr wo) A' (pyIter (.ref tp)) Q E ⟨hp, gl, di, to, ou⟩ := fun q => wpAny_pyIter_tuple hT q
    wp_walk using q1
    refine wpAny_stack_any fun st' => wpAny_pure ?_
    split
    · rename_i cc _ _ _ _ _
      cases (cc == Value.type "enumerate") <;> (wp_walk using q1; exact ⟨_, rfl, fin⟩)
    · wp_walk using q1
      exact ⟨_, rfl, fin⟩
theorem call_enumT {prog : Program} {w : World} {A : Around} {E : Value → Shared → Prop} {s : Shared} {tp : Addr} {its : Array Value} {Q : Value → Shared → Prop} (hT : s.heap.IsTuple tp its)
    (k : ∀ h', IsEnum h' (s.heap.objs.size + 1) s.heap.objs.size 0 .none → h'.IsTupleIter s.heap.objs.size tp 0 → (∀ b o, s.heap.get? b = some o → h'.get? b = some o) → Q (.ref (s.heap.objs.size + 1)) { s with heap := h' }) :
    wpAny (model prog w) A (call (.type "enumerate") [.ref tp]) Q E s := by
  refine callType_new F.called_enumerate (by decide) (F.typeCall_enumerate_1 _) (F.newCall_enumerate_1 _) (fun o => F.args_object_init_2 o _) F.entry_enumerate_new (meets_newT tp its) ⟨hT, ?_⟩
  have hz : (s.heap.push { cls := .type "tuple_iterator", data := .fields #[.ref tp, .int 0 0] }).objs.size = s.heap.objs.size + 1 := Heap.size_push ..
  show _ ∧ _
  rw [hz]
  have he : IsEnum ((s.heap.push { cls := .type "tuple_iterator", data := .fields #[.ref tp, .int 0 0] }).push { cls := .type "enumerate", data := .fields #[.none, .bool false, .ref s.heap.objs.size, rawInt 0, .none, .none] }) (s.heap.objs.size + 1) s.heap.objs.size 0 .none := by
    have z := Heap.get?_push_size (s.heap.push { cls := .type "tuple_iterator", data := .fields #[.ref tp, .int 0 0] }) (o := { cls := .type "enumerate", data := .fields #[.none, .bool false, .ref s.heap.objs.size, rawInt 0, .none, .none] }) rfl
    rw [hz] at z; exact z
  exact ⟨⟨_, he, rfl⟩, k _ he ⟨_, Heap.get?_push_of_some _ (Heap.get?_push_size _ rfl), rfl, rfl⟩ fun b o y => Heap.get?_push_of_some _ (Heap.get?_push_of_some _ y)⟩
/-- the tuple at a at each turn, each item in a new pair -/
def IteT (K : PySem.W.Frag) (a : Addr) : It :=
  ⟨fun i H => ∃ (xs : List V) (x : V), SqT K H a xs ∧ xs[i]? = some x, fun i H v H' => ∃ t x, v = .ref t ∧ H t = none ∧ H' = upd H t (.tup [.int (i : Nat), x]) ∧ ∀ ys, SqT K H a ys → ys[i]? = some x, fun i H => ∃ xs : List V, SqT K H a xs ∧ xs.length ≤ i⟩
theorem turn_enumT {P : Program} {w : World} {K : PySem.W.Frag} {elts : List Expr} {kk : Nat} {tpos : Pos} (a e it : Addr) :
    Turn P w K (.Tuple elts kk tpos) (IteT K a) [e, it] e (fun i h => (∃ old, IsEnum h e it (0 + ((i : Nat) : Int)) old) ∧ h.IsTupleIter it a i ∧ e ≠ it) where
  mem := by simp
  obj := fun i h st b hb => by
    obtain ⟨⟨old, he⟩, ⟨o, ho, hc, hd⟩, _⟩ := st
    rcases (by simpa using hb : b = e ∨ b = it) with z | z
    · subst z
      exact ⟨_, he, fun v q => nomatch q⟩
    · subst z
      exact ⟨o, ho, fun v q => by rw [hd] at q; cases q⟩
  keep := fun i h h' ⟨⟨old, he⟩, hi, hne⟩ k => ⟨⟨old, k e (by simp) _ he⟩, hi.at fun o q => k it (by simp) o q, hne⟩
  item := by
    intro X hP hw hK hc i pins s σ H E I hf st hg
    subst hP hw hK
    obtain ⟨⟨old, he⟩, hit, hne⟩ := st
    obtain ⟨xs, x, hq, hx⟩ := hg
    obtain ⟨its, rv, p, hz⟩ := I.tuple hq
    have pT : s.heap.IsTuple a its.toArray := p
    obtain ⟨u, hu, ru⟩ := rv.get hx
    have hel : e < s.heap.objs.size := Heap.lt_size he
    have hil : it < s.heap.objs.size := by obtain ⟨_, q, _⟩ := hit; exact Heap.lt_size q
    have hae : a ≠ e := fun z => by
      subst z
      obtain ⟨o, ho, hcl, _⟩ := pT
      rw [he] at ho
      cases ho
      exact absurd (Value.type.inj hcl) (by decide)
    have hai : a ≠ it := fun z => by
      subst z
      obtain ⟨o, ho, hcl, _⟩ := pT
      obtain ⟨o2, ho2, hc2, _⟩ := hit
      rw [ho] at ho2
      cases ho2
      rw [hcl] at hc2
      exact absurd (Value.type.inj hc2) (by decide)
    have D := Draws.tuple (prog := X.prog) (w := X.w) (A := X.A.in1) (show X.A.in1.handled = none from I.ok.hd hc) it a hai its.toArray
    have hlt : i < its.toArray.size := by
      rw [List.size_toArray]
      exact (List.getElem?_eq_some_iff.mp hu).1
    refine wpAny_pyNext_enum_itemC D he ⟨hit, pT⟩ hlt hne (by simp [hne, Ne.symm hae]) fun y h' tk hy ho hst' hT hsz hk => ?_
    have hyu : y = u := by
      have hu' : its.toArray[i]? = some u := by simpa using hu
      rw [hu'] at hy
      cases hy
      rfl
    subst hyu
    refine ⟨_, rfl, wpAny_letOwnedTupleGo_enum (s := { s with heap := h', toks := tk + 1 }) ho fun h2 he2 sb => ?_⟩
    have hT2 : h2.get? s.heap.objs.size = some { cls := .type "tuple", data := .seq #[.int (0 + (i : Int)) tk, y] } := (sb.2 _ (Nat.ne_of_gt hel)).trans hT
    have ei : (0 : Int) + (i : Int) = ((i : Nat) : Int) := by omega
    rw [ei] at hT2
    have new : ObjOk X.prog X.w (upd H s.heap.objs.size (.tup [.int (i : Nat), x])) h2 s.heap.objs.size (.tup [.int (i : Nat), x]) := ⟨by show 2 ≤ sizeLine; decide, [.int i tk, y], .cons ⟨_, rfl⟩ (.cons ru .nil), ⟨_, hT2, rfl, _, rfl⟩⟩
    have I1 : Inv X pins σ (upd H s.heap.objs.size (.tup [.int (i : Nat), x])) { s with heap := h2, toks := tk + 1 } :=
      I.turnedNew (ch := [e, it]) (fun b ob hb q => (sb.2 b fun z => hb (by simp [z])).trans (hk b ob (fun z => hb (by simp [z])) (fun z => hb (by simp [z])) q)) hf (Nat.le_refl _) new
    refine ⟨.ref s.heap.objs.size, _, I1, rfl, ⟨_, x, rfl, I.hok.fresh (Nat.le_refl _), rfl, fun ys hys => by rw [I.tuple_inj hys hq]; exact hx⟩, ⟨⟨y, ?_⟩, hst'.1.at fun o q => (sb.2 it (Ne.symm hne)).trans q, hne⟩, fun b hb => ?_⟩
    · have e1 : (0 : Int) + ((i + 1 : Nat) : Int) = 0 + (i : Int) + 1 := by omega
      rw [e1]
      exact he2
    · have hb' : b < s.heap.objs.size := by
        rcases (by simpa using hb : b = e ∨ b = it) with z | z
        · rw [z]; exact hel
        · rw [z]; exact hil
      rw [upd_ne (Nat.ne_of_lt hb')]
      exact (hf b hb).1
  done := by
    intro X hP hw hK hc i pins s σ H E I hf st hg
    subst hP hw hK
    obtain ⟨⟨old, he⟩, hit, hne⟩ := st
    obtain ⟨xs, hq, hx⟩ := hg
    obtain ⟨its, rv, p, hz⟩ := I.tuple hq
    have pT : s.heap.IsTuple a its.toArray := p
    obtain ⟨f0, f1, f2, f3, f4, f5⟩ := hf it (by simp)
    have hl := rv.length
    have hai : a ≠ it := fun z => by
      subst z
      obtain ⟨o, ho, hcl, _⟩ := pT
      obtain ⟨o2, ho2, hc2, _⟩ := hit
      rw [ho] at ho2
      cases ho2
      rw [hcl] at hc2
      exact absurd (Value.type.inj hc2) (by decide)
    have D : Draws X.prog X.w X.A.in1 it [it, a] 0 (fun _ _ => False) (fun _ h => h.IsTupleIter it a i ∧ h.IsTuple a its.toArray) :=
      ⟨fun _ _ z => let ⟨o, ho, _⟩ := z.1; ⟨o, ho⟩, fun _ _ _ z y => ⟨z.1.at fun o q => y it (by simp) o q, z.2.at fun o q => y a (by simp) o q⟩, fun j _ _ _ hj => (Nat.not_lt_zero j hj).elim, fun s Q E z hE => wpAny_nextOf_tuple_end (show X.A.in1.handled = none from I.ok.hd hc) z.1 z.2 (by simp; omega) hE⟩
    exact wpAny_pyNext_enum_endD D he ⟨hit, pT⟩ fun h' eb => ⟨rfl, I.turned (t' := s.toks) (fun b o hb q => eb b o hb q) f0 f1 f3 f4 f5⟩
  self := fun A i s Q E ⟨⟨_, he⟩, _⟩ h => wpAny_pyIter_enum he h
/-- enumerate of a list or of a tuple, read as enumerate of a tuple -/
def iEnumT (K : PySem.W.Frag) (ta : TA) : TI := fun σ H R => ta σ H fun vs H1 => ∃ a xs, vs = [.ref a] ∧ SqT K H1 a xs ∧ R (IteT K a) H1
theorem pi_enumT {X : Cx} {e : Expr} {ta : TA} {p pos tpos : Pos} {elts : List Expr} {kk : Nat} (hg : Gl X "enumerate") (hm : X.mg "enumerate" = none) (ha : PA X [e] ta) (hs : starEach [e] X.env = [(false, eval e X.env)] := by rfl) :
    PI X (.Tuple elts kk tpos) (.Call (.Name "enumerate" p) [e] [] pos) (iEnumT X.K ta) := by
  refine ⟨fun pins st σ H R I h => Call_ (ld_blt I hg hm boot_enumerate (PyProof.Rows.callWith_type1 (thn (ha.run pos pins st σ H _ I h) fun us s1 ⟨vs, H1, I1, r1, a, xs, ex, hq, q⟩ => ?_) hs rfl))⟩
  subst ex
  cases r1 with
  | cons r rr =>
    cases rr
    cases r
    obtain ⟨its, rv, p', hz⟩ := I1.tuple hq
    have pT : s1.heap.IsTuple a its.toArray := p'
    refine call_enumT pT fun h' he hit hk => wpAny_pyIter_enum he ?_
    have I2 : Inv X pins σ H1 { s1 with heap := h' } := I1.kept (t' := s1.toks) hk
    refine ⟨s1.heap.objs.size + 1, [s1.heap.objs.size + 1, s1.heap.objs.size], _, _, H1, rfl, I2, turn_enumT a (s1.heap.objs.size + 1) s1.heap.objs.size, ⟨⟨.none, he⟩, hit, Nat.succ_ne_self _⟩, fun b hb => ?_, q⟩
    have hle : s1.heap.objs.size ≤ b := by
      rcases (by simpa using hb : b = s1.heap.objs.size + 1 ∨ b = s1.heap.objs.size) with z | z
      · rw [z]; exact Nat.le_add_right _ _
      · rw [z]; exact Nat.le_refl _
    exact I1.fpOk hle (I1.hok.fresh hle)
end En

/-! An own __eq__, both answers, of two instances or of an instance and a tuple. -/
namespace Oq
open PySem PySem.Spec PyProof.Rows L2 Evl
def rEqOwn (C : Addr) (sp : Sp) (E : XK) : R2 := fun x y H Q => ∃ a b dx fs, x = .ref a ∧ y = .ref b ∧ H a = some (.ins C dx fs) ∧ ((∃ dy gs, H b = some (.ins C dy gs)) ∨ ∃ xs, H b = some (.tup xs)) ∧ sp [.ref a, .ref b] H (fun v H' => ∃ k, v = .bl k ∧ Q (.bl k) H') E
theorem op_eqOwn {X : Cx} {CX : CXT} {n : Nat} {C f : Addr} {fd : FuncData} {ps : List Str} {sp : Sp} {E : XK} (F : FnOk X.prog X.w X.K X.mg X.base CX n f fd ps sp) (hs : PySem.W.findIn X.K (.ref C) "__eq__" = some (some (.ref f)))
    (hf : PySem.W.isFn X.K (.ref f) = true) (hb : Binds X.K fd ps []) (hx : Passes CX X E) (hr : Room n X.A) (nt : PySem.W.notFirst X.K C (.type "tuple") = true) : OpR X (compareOp .Eq) (rEqOwn C sp E) := by
  intro pins s σ H x y v u Q I rx ry ⟨a, b, dx, fs, ex, ey, ha, hy, hsp⟩
  subst ex
  subst ey
  cases rx
  cases ry
  obtain ⟨mA, J0, _⟩ := ins_get I.hok ha
  obtain ⟨od, J, _⟩ := J0.look
  obtain ⟨m, hF⟩ := I.fr
  have hu := hr.units0
  show wpAny (model X.prog X.w) X.A (richCompare .Eq (.ref a) (.ref b)) (EP X pins σ Q) X.xe s
  have body : wpAny (model X.prog X.w) X.A (call (.ref f) [.ref a, .ref b]) (PySem.W.CmpBack (EP X pins σ Q)) X.xe s := by
    have hl := F.len _ _ _ _ hsp
    refine wpAny_call (codeAny_mono (F.run X.A X.stack s H ⟨[.ref a, .ref b], []⟩ [.ref a, .ref b] [.ref a, .ref b] _ E hr I.env0 (by
      have z := hb s [.ref a, .ref b] I.kIn (by simpa using hl)
      simpa using z) (.cons rfl (.cons rfl .nil)) hsp) fun r st hq => ?_)
    cases r with
    | error er => exact hx pins σ H s er st I hq
    | ok fl =>
      cases fl with
      | ret wv =>
        obtain ⟨z, H2, I2, rz, k, ez, q2⟩ := I.after hq
        subst ez
        cases rz
        exact ⟨.bl k, H2, I2, rfl, q2⟩
      | next => exact False.elim hq
      | brk => exact False.elim hq
      | cont => exact False.elim hq
  rcases hy with ⟨dy, gs, hy⟩ | ⟨xs, hy⟩
  · obtain ⟨mB, J1, _⟩ := ins_get I.hok hy
    obtain ⟨od2, J2, _⟩ := J1.look
    exact PySem.W.cmp_K (op := .Eq) (tb := .ref C) hu hF I.ok.mod.kin J J2.type (by simp [PySem.W.notFirst]) hs hf body
  · obtain ⟨_, _, _, o, h1, h2, _⟩ := (show ObjOk X.prog X.w H s.heap b (.tup xs) from I.hok b _ hy)
    exact PySem.W.cmp_K (op := .Eq) (tb := .type "tuple") hu hF I.ok.mod.kin J (fun A Q E st kk q => wpAny_typeOf_ref (kk _ _ h1) (by rw [h2]; exact q)) nt hs hf body
end Oq

/-! In a try: a method's call whose error is wished for at the slots; in its suite: isinstance of an error that has a dict. -/
namespace Ty
open PySem PySem.Spec PyProof.Rows L2 Evl
def tMethT (C : Addr) (m : Str) (sp : Sp) (EE : L2.St → XK) (to : TE) (tas : TA) : TE := fun sg H Q => to sg H fun o H1 => ∃ a dx fs, o = .ref a ∧ H1 a = some (.ins C dx fs) ∧ fs.lookup m = none ∧ tas sg H1 fun ws H2 => sp (o :: ws) H2 Q (EE sg)
section
variable {X : Cx} {CX : CXT} {lv : Nat} {f C : Addr} {fd : FuncData} {ps : List Str} {sp : Sp} {EE : L2.St → XK} {m : Str} {cpos apos : Pos} {x1 ob : Expr} {xs : List Expr} {to : TE} {tas : TA} {pl : Sem Bool}
theorem pe_methT (ho : PE X ob to) (cl : Cls X.K C) (mt : Meth X.K C m f) (F : FnOk X.prog X.w X.K X.mg X.base CX lv f fd ps sp) (rm : Room lv X.A) (bi : Binds X.K fd ps []) (pa : ∀ sg, PassesAt CX X sg (EE sg)) (hx : PA X (x1 :: xs) tas)
    (s1 : starEach (x1 :: xs) X.env = (false, eval x1 X.env) :: starEach xs X.env := by rfl) (s2 : (backTo cpos (starEach xs X.env)).any (·.1) = false := by rfl)
    (s3 : eval (.Call (.Attribute ob m apos) (x1 :: xs) [] cpos) X.env = (do let ov ← eval ob X.env; standAt apos.atName; let (g, fst) ← holding [ov] (getMethod ov m pl); callWith cpos g fst (backTo cpos (starEach (x1 :: xs) X.env)) (backToKw cpos (keywordEach [] X.env))) := by rfl) :
    PE X (.Call (.Attribute ob m apos) (x1 :: xs) [] cpos) (tMethT C m sp EE to tas) := by
  refine ⟨fun pins st sg H Q I h => PySem.W.methodCall_KW (pl := pl) (thn (ho.run pins st sg H _ I h) fun u st1 ⟨o, H1, I1, ro, a, dx, fs, eo, ea, l, q⟩ => ?_) s3⟩
  subst eo
  obtain rfl : u = Value.ref a := ro
  exact getmeth_ok I1 ea cl mt l (PySem.W.callWith_K (first := [.ref a]) (h₀ := X.base) I.ok.mod.kin mt.kp (thn (hx.run cpos pins st1 sg H1 _ I1 q) fun us st2 ⟨ws, H2, I2, r, q2⟩ => ⟨I2.kIn, run_fnS (us := .ref a :: us) (vs := .ref a :: ws) F rm bi (pa sg) I2 (.cons rfl r) q2⟩) s1 s2)
theorem i_methT {sg : L2.St} {H : Hp} {Q : VK} (q : to sg H fun o H1 => ∃ a dx fs, o = .ref a ∧ H1 a = some (.ins C dx fs) ∧ fs.lookup m = none ∧ tas sg H1 fun ws H2 => sp (o :: ws) H2 Q (EE sg)) : tMethT C m sp EE to tas sg H Q := q
end
/-- isinstance(e, c), e the error that the suite holds, with a dict of its own -/
def rIsD (K : PySem.W.Frag) (cls : Value) (d : Option Addr) (a : Addr) : List V → Hp → VK → Prop := fun vs H Q => ∃ (c : V) (cv : Value) (b : Bool) (D dd : Addr) (fs : List (Str × V)), vs = [.ref a, c] ∧ ClsV c cv ∧ cls = .ref D ∧ d = some dd ∧ H dd = some (.xd fs) ∧ ExcC K D ∧ PySem.W.kitOne K (.ref D) cv = some b ∧ Q (.bl b) H
theorem call_isD {X : Cx} {a : Addr} {oe : Obj} {cls : Value} {d : Option Addr} {pn : List (Addr × Obj)} (hz : Zc cls d oe) (hf : ∃ vs, oe.data = .fields vs) : CallR (X.suite a ((a, oe) :: pn)) (.builtin "isinstance") (rIsD X.K cls d a) := by
  intro pins st sg H vs us Q I r ⟨c, cv, b, D, dd, fs, e1, k, e2, e3, ed, T, kit, q⟩
  subst e1 e2 e3
  obtain ⟨u1, u2, rfl, r1, r2⟩ := vals2 r
  have ec := k.eq r2
  subst ec
  obtain rfl : u1 = Value.ref a := r1
  obtain ⟨ha, _⟩ := I.pin (a, oe) (List.mem_append_left _ List.mem_cons_self)
  obtain ⟨ws, hd⟩ := hf
  obtain ⟨mA, hns, hr⟩ := (show ObjOk X.prog X.w H st.heap dd (.xd fs) from I.hok dd _ ed)
  obtain ⟨od, ho, hl⟩ := lookIn_ns hns
  have J : PySem.W.InstAt st.heap a oe D (some od) := ⟨ha, hz.1, by unfold PySem.W.notCls; rw [hd] <;> rfl, by rw [hz.2]; exact ho⟩
  have hcl : (PySem.W.clsIn X.K D).isSome = true := by
    obtain ⟨cd, hc, _⟩ := PySem.W.any_some T.hd
    rw [hc]; rfl
  exact PySem.W.kia_one (PySem.W.kitx_exc hcl T.hg T.hk T.hs T.ha T.hn T.ht T.hm) I.kIn J kit (fun z => nomatch z) fun tk => ⟨.bl b, H, I.tok tk, rfl, q⟩
end Ty

namespace K02
open PySem L2
local macro_rules | `(tactic| walk_at "rd1") => `(tactic| first
  | (with_reducible refine Rd.i_seq ?_) | (with_reducible refine Rd.i_asg ?_) | (with_reducible refine Rd.i_name ?_) | (with_reducible refine Rd.i_nx ?_) | (with_reducible refine Rd.i_rt ?_) | (with_reducible refine Rd.i_next ?_) | (with_reducible refine Rd.i_ct ?_) | (with_reducible refine Rd.i_bk ?_)
  | (with_reducible refine Rd.i_ret ?_) | (with_reducible refine Rd.i_drop ?_) | (with_reducible refine Rd.i_ifS ?_) | (with_reducible refine Rd.i_sub ?_)
  | (with_reducible refine Rd.i_var (by with_unfolding_all exact rfl) ?_) | (with_reducible refine Rd.i_c ?_) | (with_reducible refine Rd.i_op ?_) | (with_reducible refine Rd.i_un ?_)
  | (with_reducible refine Rd.i_rI0 ?_) | (with_reducible refine Rd.i_rI (by with_unfolding_all first | omega | exact Rd.mulL (by omega) (by omega) | exact Rd.mulR (by omega) (by omega) | decide | (refine ⟨?_, ?_⟩ <;> omega) | (refine ⟨?_, ?_, ?_⟩ <;> omega)) ?_)
  | (with_reducible refine Rd.i_rEq (by with_unfolding_all exact rfl) ?_) | (with_reducible refine Rd.i_rNe (by with_unfolding_all exact rfl) ?_)
  | (with_reducible refine Rd.i_test ?_) | (with_reducible refine Rd.i_tB ?_) | (with_reducible refine Rd.i_bl ?_) | (with_reducible refine Rd.i_and ?_) | (with_reducible refine Rd.i_or ?_) | (with_reducible refine Rd.i_not ?_) | (with_reducible refine Rd.i_notV ?_) | (with_reducible refine Rd.i_andV ?_) | (with_reducible refine Rd.i_orV ?_) | (with_reducible refine Rd.i_if ?_) | (with_reducible refine Rd.i_chain ?_)
  | (with_reducible refine Rd.i_call ?_) | (with_reducible refine Rd.i_nil ?_) | (with_reducible refine Rd.i_cons ?_) | (with_reducible refine Rd.i_cb ?_) | (with_reducible refine Rd.i_bm ?_) | (with_reducible refine Rd.i_bm0 ?_) | (with_reducible refine Rd.i_tup ?_) | (with_reducible refine Rd.i_lst ?_)
  | (with_reducible refine Rd.i_int1 ?_) | (with_reducible refine Rd.i_intb ?_) | (with_reducible refine Rd.i_max ?_)
  | (with_reducible refine Rd.i_ixL (SqL.of (by first | assumption | exact upd_same)) (by with_unfolding_all first | exact rfl | exact atI_nat rfl) ?_) | (with_reducible refine Rd.i_ixT (SqT.of (by first | assumption | exact upd_same)) (by with_unfolding_all exact rfl) ?_)
  | (with_reducible refine Rd.i_setL (by first | assumption | exact upd_same) (by with_unfolding_all exact rfl) ?_)
  | (with_reducible refine Xv.i_mkV ?_) | (with_reducible refine Xv.i_xat ?_)
  | (with_reducible refine Rd.i_yes ?_) | (with_reducible refine Rd.i_m1 ?_) | (with_reducible refine Rd.i_m0 ?_) | (with_reducible refine Rd.ite_T ?_) | (with_reducible refine Rd.ite_F ?_) | (with_reducible refine Rd.i_forR ?_) | (with_reducible refine Rd.i_forL ?_) | (with_reducible refine Rd.i_forT ?_)
  | (with_reducible refine Hd.i_rU ?_) | (with_reducible refine Hd.i_pcons ?_) | (with_reducible refine Hd.i_pnil ?_) | (with_reducible refine Hd.i_disp ?_) | (with_reducible refine Hd.i_dget ?_)
  | (with_reducible refine Hd.i_lstRg ?_) | (with_reducible refine Hd.i_rg1 ?_) | (with_reducible refine Hd.i_rg2 ?_) | (with_reducible refine Hd.i_ex1 ?_) | (with_reducible refine Hd.i_ex2 ?_)
  | (with_reducible refine Rd.i_gtup (SqT.of (by assumption)) (by with_unfolding_all exact rfl) ?_) | (with_reducible refine Rd.i_gcons ?_) | (with_reducible refine Rd.i_gnil ?_))
local macro_rules | `(tactic| walk_at "rd") => `(tactic| repeat walk_at "rd1")
def topS (i : Nat) : Stmt := PySem.Challenge.pw_splitalike_k02_readers_kept.main.body.getD i (.Pass ⟨0, 0, 0, 0⟩)
abbrev s_law_draw : Stmt := topS 30
theorem sc_law_draw : FnScope ["_law_pen", "_law_many", "_law_spot", "_law_at", "_law_cell", "_law_mixed"] ["_law_pen", "_law_many"] (defScope s_law_draw) := ⟨rfl, rfl, rfl, by decide +kernel, rfl, by decide +kernel, by decide +kernel⟩

abbrev s_law_pick : Stmt := topS 31
theorem sc_law_pick : FnScope ["_law_pen", "_law_row"] ["_law_pen", "_law_row"] (defScope s_law_pick) := ⟨rfl, rfl, rfl, by decide +kernel, rfl, by decide +kernel, by decide +kernel⟩

abbrev s_law_word : Stmt := topS 32
theorem sc_law_word : FnScope ["_law_pen", "_law_most", "_law_signs", "_law_k"] ["_law_pen", "_law_most"] (defScope s_law_word) := ⟨rfl, rfl, rfl, by decide +kernel, rfl, by decide +kernel, by decide +kernel⟩

abbrev s_law_names : Stmt := topS 33
theorem sc_law_names : FnScope ["_law_pen", "_law_many", "_law_found", "_law_k", "_law_name", "_law_spare", "_law_word_here", "_law_n"] ["_law_pen", "_law_many"] (defScope s_law_names) := ⟨rfl, rfl, rfl, by decide +kernel, rfl, by decide +kernel, by decide +kernel⟩

abbrev s_law_words : Stmt := topS 34
theorem sc_law_words : FnScope ["_law_pen", "_law_many", "_law_looks", "_law_quiet", "_law_words_here", "_law_k"] ["_law_pen", "_law_many"] (defScope s_law_words) := ⟨rfl, rfl, rfl, by decide +kernel, rfl, by decide +kernel, by decide +kernel⟩

abbrev s_law_goal : Stmt := topS 35
theorem sc_law_goal : FnScope ["_law_pen", "_law_words_here", "_law_at", "_law_looks", "_law_spots", "_law_spot", "_law_ends", "_law_near"] ["_law_pen", "_law_words_here", "_law_at"] (defScope s_law_goal) := ⟨rfl, rfl, rfl, by decide +kernel, rfl, by decide +kernel, by decide +kernel⟩

abbrev s_law_ways : Stmt := topS 36
theorem sc_law_ways : FnScope ["_law_pen", "_law_names_here", "_law_words_here", "_law_at", "_law_start", "_law_turn", "_law_values", "_law_k", "_law_value"] ["_law_pen", "_law_names_here", "_law_words_here", "_law_at"] (defScope s_law_ways) := ⟨rfl, rfl, rfl, by decide +kernel, rfl, by decide +kernel, by decide +kernel⟩

abbrev s_law_line : Stmt := topS 37
theorem sc_law_line : FnScope ["_law_pen", "_law_names_here", "_law_words_here", "_law_at", "_law_word_here", "_law_goal_here", "_law_low", "_law_many"] ["_law_pen", "_law_names_here", "_law_words_here", "_law_at"] (defScope s_law_line) := ⟨rfl, rfl, rfl, by decide +kernel, rfl, by decide +kernel, by decide +kernel⟩

abbrev s_law_lines : Stmt := topS 38
theorem sc_law_lines : FnScope ["_law_pen", "_law_most", "_law_few", "_law_words_here", "_law_names_here", "_law_at"] ["_law_pen", "_law_most"] (defScope s_law_lines) := ⟨rfl, rfl, rfl, by decide +kernel, rfl, by decide +kernel, by decide +kernel⟩

structure Gtx (K : PySem.W.Frag) (mg : Str → Option Value) where
  f_law_draw : Addr
  d_law_draw : FuncData
  F_law_draw : Fun K "_law_draw" "_law_draw" s_law_draw f_law_draw d_law_draw
  b_law_draw : Binds K d_law_draw ["_law_pen", "_law_many"] []
  m_law_draw : mg "_law_draw" = some (.ref f_law_draw)
  f_law_pick : Addr
  d_law_pick : FuncData
  F_law_pick : Fun K "_law_pick" "_law_pick" s_law_pick f_law_pick d_law_pick
  b_law_pick : Binds K d_law_pick ["_law_pen", "_law_row"] []
  m_law_pick : mg "_law_pick" = some (.ref f_law_pick)
  f_law_word : Addr
  d_law_word : FuncData
  F_law_word : Fun K "_law_word" "_law_word" s_law_word f_law_word d_law_word
  b_law_word : Binds K d_law_word ["_law_pen", "_law_most"] []
  m_law_word : mg "_law_word" = some (.ref f_law_word)
  f_law_names : Addr
  d_law_names : FuncData
  F_law_names : Fun K "_law_names" "_law_names" s_law_names f_law_names d_law_names
  b_law_names : Binds K d_law_names ["_law_pen", "_law_many"] []
  m_law_names : mg "_law_names" = some (.ref f_law_names)
  f_law_words : Addr
  d_law_words : FuncData
  F_law_words : Fun K "_law_words" "_law_words" s_law_words f_law_words d_law_words
  b_law_words : Binds K d_law_words ["_law_pen", "_law_many"] []
  m_law_words : mg "_law_words" = some (.ref f_law_words)
  f_law_goal : Addr
  d_law_goal : FuncData
  F_law_goal : Fun K "_law_goal" "_law_goal" s_law_goal f_law_goal d_law_goal
  b_law_goal : Binds K d_law_goal ["_law_pen", "_law_words_here", "_law_at"] []
  m_law_goal : mg "_law_goal" = some (.ref f_law_goal)
  f_law_ways : Addr
  d_law_ways : FuncData
  F_law_ways : Fun K "_law_ways" "_law_ways" s_law_ways f_law_ways d_law_ways
  b_law_ways : Binds K d_law_ways ["_law_pen", "_law_names_here", "_law_words_here", "_law_at"] []
  m_law_ways : mg "_law_ways" = some (.ref f_law_ways)
  f_law_line : Addr
  d_law_line : FuncData
  F_law_line : Fun K "_law_line" "_law_line" s_law_line f_law_line d_law_line
  b_law_line : Binds K d_law_line ["_law_pen", "_law_names_here", "_law_words_here", "_law_at"] []
  m_law_line : mg "_law_line" = some (.ref f_law_line)
  f_law_lines : Addr
  d_law_lines : FuncData
  F_law_lines : Fun K "_law_lines" "_law_lines" s_law_lines f_law_lines d_law_lines
  b_law_lines : Binds K d_law_lines ["_law_pen", "_law_most"] []
  m_law_lines : mg "_law_lines" = some (.ref f_law_lines)
  z_int : mg "int" = none
  z_len : mg "len" = none
  z_max : mg "max" = none
  z_min : mg "min" = none
  z_range : mg "range" = none
  z_list : mg "list" = none
section
variable {P : Program} {w : World} {K : PySem.W.Frag} {mg : Str → Option Value} {base : Heap}
open Evl Hd
def spDraw : Sp := fun vs H Q _ => ∃ (p q : Addr) (m s : Int), vs = [.ref p, .int m] ∧ Pen H p q s ∧ s < 1099511627776 ∧ 0 < m ∧ m < 1073741824 ∧ ∀ r H', 0 ≤ r → r < m → Pen H' p q (s + 1) → But2 p q H H' → Q (.int r) H'
theorem ok_law_draw (T : Gtx K mg) : FnOk P w K mg base CX0 1 T.f_law_draw T.d_law_draw ["_law_pen", "_law_many"] spDraw := by
  refine T.F_law_draw.ok sc_law_draw (fun vs H Q E h => ?_) (fun cdv A outer s H vs Q E hr h => ?_)
  · obtain ⟨p, q, m, s, rfl, _⟩ := h
    rfl
  · obtain ⟨p, q, m, z, rfl, hpen, hz, m0, m1, k⟩ := h
    obtain ⟨z0, ns, hp, hq, hn, hn2⟩ := id hpen
    have hpq := hpen.ne
    refine ⟨_, (pss_cons (ps_set (i := 2) sc_law_draw.nd rfl (Or.inl rfl) (pe_ix ix_list (pv 0) pe_int (fun _ _ => rfl)))
      (pss_cons (ps_asg (pe_op op_add (pv 2) pe_int) (pg_sub (pv 0) pe_int set_list))
      (pss_cons (ps_set (i := 3) sc_law_draw.nd rfl (Or.inl rfl) (pe_op op_modN (pe_callTy call_int1 (by rfl) T.z_int (by decide +kernel) (pa_cons (pv 2) pa_nil)) (pe_callB call_len_seq (by rfl) T.z_len (by decide +kernel) (pa_cons (pe_ix ix_list (pv 0) pe_int (fun _ _ => rfl)) pa_nil))))
      (pss_cons (ps_set (i := 4) sc_law_draw.nd rfl (Or.inl rfl) (pe_callTy call_int1 (by rfl) T.z_int (by decide +kernel) (pa_cons (pe_ix ix_list (pe_ix ix_list (pv 0) pe_int (fun _ _ => rfl)) (pv 3) (fun _ _ => rfl)) pa_nil)))
      (pss_cons (ps_if (pt_cmpR op_ge (pv 4) (pe_op op_pow pe_int pe_int) (nomark _))
        (pss_cons (ps_asg (pe_op op_fdivN (pv 4) (pv 1)) (pg_sub (pe_ix ix_list (pv 0) pe_int (fun _ _ => rfl)) (pv 3) set_list))
        (pss_one (ps_ret (pe_op op_modN (pe_callTy call_int1 (by rfl) T.z_int (by decide +kernel) (pa_cons (pv 4) pa_nil)) (pv 1)))))
        pss_nil)
      (pss_cons (ps_set (i := 5) sc_law_draw.nd rfl (Or.inl rfl) (pe_op op_pow (pe_callTy call_int1 (by rfl) T.z_int (by decide +kernel) (pa_cons (pe_op op_add (pe_op op_add (pe_op op_mul (pe_op op_modN (pe_callTy call_int1 (by rfl) T.z_int (by decide +kernel) (pa_cons (pv 4) pa_nil)) pe_int) pe_int) (pe_op op_mul (pv 2) pe_int)) pe_int) pa_nil)) pe_int))
      (pss_one (ps_ret (pe_op op_modN (pe_op op_fdivN (pe_callTy call_int1 (by rfl) T.z_int (by decide +kernel) (pa_cons (pe_op op_modN (pe_callTy call_int1 (by rfl) T.z_int (by decide +kernel) (pa_cons (pv 5) pa_nil)) pe_int) pa_nil)) pe_int) (pv 1)))))))))), ?_⟩
    walk_at "rd"
    have hq1 : upd H p (.lst ([V.ref q, .int z].set (Int.toNat 1) (.int (z + 1)))) q = some (.lst (ns.map V.int)) := by rw [upd_ne (Ne.symm hpq)]; exact hq
    have hl0 : 0 < ns.length := List.length_pos_iff.mpr hn
    have hlen : (List.map V.int ns).length = ns.length := List.length_map _
    refine Rd.i_len (SqL.of hq1) ?_
    walk_at "rd"
    obtain ⟨j, hj, ej⟩ : ∃ j : Nat, j < ns.length ∧ z.fmod ((List.map V.int ns).length : Int) = (j : Int) := by
      have h1 := Int.fmod_nonneg_of_pos z (b := ((List.map V.int ns).length : Int)) (by omega)
      have h2 := Int.fmod_lt_of_pos z (b := ((List.map V.int ns).length : Int)) (by omega)
      exact ⟨(z.fmod ((List.map V.int ns).length : Int)).toNat, by omega, by omega⟩
    rw [ej]
    have hc : (List.map V.int ns)[j]? = some (V.int (ns[j]'hj)) := by rw [List.getElem?_map, List.getElem?_eq_getElem hj]; rfl
    generalize ns[j]'hj = c at hc
    walk_at "rd"
    refine Rd.i_ixL (SqL.of hq1) (atI_nat hc) ?_
    walk_at "rd"
    refine Rd.ite_d (fun _ => ?_) (fun _ => ?_)
    · walk_at "rd"
      refine Rd.i_setL hq1 (Evl.ixN_nat (by omega)) ?_
      walk_at "rd"
      refine k _ _ (Int.fmod_nonneg_of_pos _ m0) (Int.fmod_lt_of_pos _ m0) ⟨by omega, ns.set j (c.fdiv m), ?_, ?_, ?_, ?_⟩ ?_
      · rw [upd_ne hpq]; exact upd_same
      · rw [List.map_set]; exact upd_same
      · intro e
        have := congrArg List.length e
        rw [List.length_set] at this
        simp only [List.length_nil] at this
        omega
      · rw [List.length_set]; exact hn2
      · intro b b1 b2
        rw [upd_ne b2, upd_ne b1]
    · have f1 : 0 ≤ c.fmod 1000000007 := Int.fmod_nonneg_of_pos c (by decide)
      have f2 : c.fmod 1000000007 < 1000000007 := Int.fmod_lt_of_pos c (by decide)
      walk_at "rd"
      exact k _ _ (Int.fmod_nonneg_of_pos _ m0) (Int.fmod_lt_of_pos _ m0) ⟨by omega, ns, upd_same, hq1, hn, hn2⟩ (fun b b1 b2 => upd_ne b1)
/-- a draw, as its callers use it -/
theorem i_draw {p q : Addr} {m s : Int} {H : Hp} {Q : VK} {E : XK} (hp : Pen H p q s) (hs : s < 1099511627776) (m0 : 0 < m) (m1 : m < 1073741824) (k : ∀ r H', 0 ≤ r → r < m → Pen H' p q (s + 1) → But2 p q H H' → Q (.int r) H') : spDraw [.ref p, .int m] H Q E :=
  ⟨p, q, m, s, rfl, hp, hs, m0, m1, k⟩
def spPick (K : PySem.W.Frag) : Sp := fun vs H Q _ => ∃ (p q r : Addr) (s : Int) (xs : List V), vs = [.ref p, .ref r] ∧ Pen H p q s ∧ s < 1099511627776 ∧ H r = some (.lst xs) ∧ r ≠ p ∧ r ≠ q ∧ 0 < xs.length ∧ xs.length < 1000000 ∧ ∀ i (hi : i < xs.length) H', Pen H' p q (s + 1) → But2 p q H H' → Q (xs[i]'hi) H'
theorem ok_law_pick (T : Gtx K mg) : FnOk P w K mg base CX0 2 T.f_law_pick T.d_law_pick ["_law_pen", "_law_row"] (spPick K) := by
  refine T.F_law_pick.ok sc_law_pick (fun vs H Q E h => ?_) (fun cdv A outer s H vs Q E hr h => ?_)
  · obtain ⟨p, q, r, s, xs, rfl, _⟩ := h
    rfl
  · obtain ⟨p, q, r, z, xs, rfl, hpen, hz, hxs, n1, n2, l0, l1, k⟩ := h
    refine ⟨_, (pss_one (ps_ret (pe_ix ix_list (pv 1) (pe_call (ok_law_draw T) (hr.mono (by decide)) rfl T.m_law_draw T.F_law_draw.kp T.b_law_draw .nil pass0 (pa_cons (pv 0) (pa_cons (pe_callB call_len_seq (by rfl) T.z_len (by decide +kernel) (pa_cons (pv 1) pa_nil)) pa_nil))) (fun _ _ => rfl)))), ?_⟩
    walk_at "rd"
    refine Rd.i_len (SqL.of hxs) ?_
    walk_at "rd"
    refine i_draw hpen hz (by omega) (by omega) (fun i H' i0 i1 hpen' bt => ?_)
    have hi : i.toNat < xs.length := by omega
    refine Rd.i_ixL (SqL.of (by rw [bt r n1 n2]; exact hxs)) (at_of (j := i.toNat) (by omega) (List.getElem?_eq_getElem hi)) ?_
    walk_at "rd"
    exact k _ hi _ hpen' bt
theorem i_pick {p q r : Addr} {s : Int} {xs : List V} {H : Hp} {Q : VK} {E : XK} (hp : Pen H p q s) (hs : s < 1099511627776) (hr : hid [p, q] H r = some (.lst xs)) (l0 : 0 < xs.length) (l1 : xs.length < 1000000) (k : ∀ i (hi : i < xs.length) H', Pen H' p q (s + 1) → But2 p q H H' → Q (xs[i]'hi) H') : spPick K [.ref p, .ref r] H Q E := by
  obtain ⟨h1, h2⟩ := hid_iff.mp hr
  exact ⟨p, q, r, s, xs, rfl, hp, hs, h2, fun e => h1 (by rw [e]; exact List.mem_cons_self), fun e => h1 (by rw [e]; exact List.mem_cons_of_mem _ List.mem_cons_self), l0, l1, k⟩
/-! ### words of letters -/
def AZ (x : Str) : Prop := ∀ c ∈ x.cps.toList, 97 ≤ c ∧ c ≤ 122
theorem abc_at : ∀ j : _root_.Fin 26, (Str.ofString "abcdefghijklmnopqrstuvwxyz").cps.toList[j.1]? = some (97 + j.1) := by decide +kernel
def spWord : Sp := fun vs H Q _ => ∃ (p q : Addr) (m s : Int), vs = [.ref p, .int m] ∧ Pen H p q s ∧ s + 20 < 1099511627776 ∧ 0 < m ∧ m ≤ 12 ∧ ∀ (x : Str) s' H', AZ x → 1 ≤ x.length → (x.length : Int) ≤ m → s ≤ s' → s' ≤ s + 20 → Pen H' p q s' → Ex (hid [p, q] H) (hid [p, q] H') → Q (.str x) H'
theorem ok_law_word (T : Gtx K mg) : FnOk P w K mg base CX0 2 T.f_law_word T.d_law_word ["_law_pen", "_law_most"] spWord := by
  refine T.F_law_word.ok sc_law_word (fun vs H Q E h => ?_) (fun cdv A outer s H vs Q E hr h => ?_)
  · obtain ⟨p, q, m, s, rfl, _⟩ := h
    rfl
  · obtain ⟨p, q, m, z, rfl, hpen, hz, m0, m1, k⟩ := h
    refine ⟨_, (pss_cons (ps_set (i := 2) sc_law_word.nd rfl (Or.inr rfl) pe_str)
      (pss_one (ps_ret (pe_join pe_str (pe_lc rfl sc_law_word.nd (pi_range1 (by rfl) T.z_range (pa_cons (pe_op op_add pe_int (pe_call (ok_law_draw T) (hr.mono (by decide)) rfl T.m_law_draw T.F_law_draw.kp T.b_law_draw .nil pass0 (pa_cons (pv 0) (pa_cons (pv 1) pa_nil)))) pa_nil)) (blkOk_by (own := [("_law_k", 3)]) (N := ["_law_pen", "_law_most", "_law_signs", "_law_k"]) (sc := defScope s_law_word) (by decide +kernel)) (fun _ _ _ _ _ => (pg_name (i := 3) sc_law_word.nd rfl (Or.inl rfl))) (fun _ _ _ _ _ => pts_nil) (fun _ _ _ _ _ => (pe_ix ix_str (pv 2) (pe_call (ok_law_draw T) (hr.mono (by decide)) rfl T.m_law_draw T.F_law_draw.kp T.b_law_draw .nil pass0 (pa_cons (pv 0) (pa_cons pe_int pa_nil))) (fun _ _ => rfl)))))))), ?_⟩
    walk_at "rd"
    refine ⟨⟨_, rfl⟩, ?_⟩
    refine Rd.i_lcR ?_
    walk_at "rd"
    refine i_draw hpen (by omega) (by omega) (by omega) (fun r1 H1 lo1 hi1 pen1 b1 => ?_)
    walk_at "rd"
    refine Rd.lcR (by omega) (by omega) (fun D hD => ⟨fun i H2 => ∃ (cs : List Nat) (s' : Int), H2 D = some (.lst (cs.map fun c => .str ⟨#[c]⟩)) ∧ cs.length = i ∧ (∀ c ∈ cs, 97 ≤ c ∧ c ≤ 122) ∧ Pen H2 p q s' ∧ z + 1 ≤ s' ∧ s' ≤ z + 1 + i ∧ Ex (hid [p, q] H1) (hid [p, q] H2), ?_, ?_, ?_⟩)
    · exact ⟨[], z + 1, upd_same, rfl, fun _ h => (List.not_mem_nil h).elim, pen1.mut (pen1.new hD), by omega, by omega, hid_new hD⟩
    · rintro i H2 hi ⟨cs, s', hDl, hlen, haz, pen2, lo, hi2, ex2⟩
      walk_at "rd"
      refine ⟨rfl, ?_⟩
      walk_at "rd"
      have hDn : D ∉ [p, q] := pen1.new hD
      refine i_draw pen2 (by omega) (by omega) (by omega) (fun r3 H3 lo3 hi3 pen3 b3 => ?_)
      have hat : atI (Str.ofString "abcdefghijklmnopqrstuvwxyz").cps.toList r3 = some (97 + r3.toNat) := by
        have e : r3 = ((r3.toNat : Nat) : Int) := by omega
        rw [e]
        exact atI_nat (abc_at ⟨r3.toNat, by omega⟩)
      refine Rd.i_ixS (by decide) hat ?_
      refine ⟨_, b3.at hDn hDl, small1000 (by rw [List.length_map]; omega), cs ++ [97 + r3.toNat], s' + 1, ?_, by rw [List.length_append, hlen]; rfl, ?_, pen3.mut hDn, by omega, by omega, hid_mut (ex2.trans b3.ex) hD⟩
      · rw [List.map_append]; exact upd_same
      · intro c hc
        rcases List.mem_append.mp hc with hc | hc
        · exact haz c hc
        · rw [List.mem_singleton] at hc
          omega
    · rintro H2 ⟨cs, s', hDl, hlen, haz, pen2, lo, hi2, ex2⟩
      walk_at "rd"
      have hm : (cs.map fun c => V.str ⟨#[c]⟩) = (cs.map fun c => (⟨#[c]⟩ : Str)).map V.str := by rw [List.map_map]; rfl
      refine ⟨_, D, cs.map fun c => (⟨#[c]⟩ : Str), rfl, rfl, .inl (SqL.of (by rw [hDl, hm])), ?_, ?_⟩
      · rw [List.map_map]
        have : (cs.map ((fun x : Str => x.length) ∘ fun c => (⟨#[c]⟩ : Str))).sum = cs.length := by
          clear hlen hDl haz hm
          induction cs with
          | nil => rfl
          | cons c r ih => rw [List.map_cons, List.sum_cons, ih, List.length_cons, Nat.add_comm]; rfl
        rw [this, List.length_map]
        show cs.length + cs.length * 0 ≤ 16777216
        omega
      · rw [join_signs]
        have hsz : (⟨cs.toArray⟩ : Str).length = cs.length := by show cs.toArray.size = _; simp
        refine k _ s' _ (fun c hc => haz c (by simpa using hc)) (by rw [hsz]; omega) (by rw [hsz]; omega) (by omega) (by omega) pen2 (b1.ex.trans ex2)
end
end K02

namespace K02
open PySem L2
local macro_rules | `(tactic| walk_at "rd1") => `(tactic| first
  | (with_reducible refine Rd.i_seq ?_) | (with_reducible refine Rd.i_asg ?_) | (with_reducible refine Rd.i_name ?_) | (with_reducible refine Rd.i_nx ?_) | (with_reducible refine Rd.i_rt ?_) | (with_reducible refine Rd.i_next ?_) | (with_reducible refine Rd.i_ct ?_) | (with_reducible refine Rd.i_bk ?_)
  | (with_reducible refine Rd.i_ret ?_) | (with_reducible refine Rd.i_drop ?_) | (with_reducible refine Rd.i_ifS ?_) | (with_reducible refine Rd.i_sub ?_)
  | (with_reducible refine Rd.i_var (by with_unfolding_all exact rfl) ?_) | (with_reducible refine Rd.i_c ?_) | (with_reducible refine Rd.i_op ?_) | (with_reducible refine Rd.i_un ?_)
  | (with_reducible refine Rd.i_rI0 ?_) | (with_reducible refine Rd.i_rI (by with_unfolding_all first | omega | exact Rd.mulL (by omega) (by omega) | exact Rd.mulR (by omega) (by omega) | decide | (refine ⟨?_, ?_⟩ <;> omega) | (refine ⟨?_, ?_, ?_⟩ <;> omega)) ?_)
  | (with_reducible refine Rd.i_rEq (by with_unfolding_all exact rfl) ?_) | (with_reducible refine Rd.i_rNe (by with_unfolding_all exact rfl) ?_)
  | (with_reducible refine Rd.i_test ?_) | (with_reducible refine Rd.i_tB ?_) | (with_reducible refine Rd.i_bl ?_) | (with_reducible refine Rd.i_and ?_) | (with_reducible refine Rd.i_or ?_) | (with_reducible refine Rd.i_not ?_) | (with_reducible refine Rd.i_notV ?_) | (with_reducible refine Rd.i_andV ?_) | (with_reducible refine Rd.i_orV ?_) | (with_reducible refine Rd.i_if ?_) | (with_reducible refine Rd.i_chain ?_)
  | (with_reducible refine Rd.i_call ?_) | (with_reducible refine Rd.i_nil ?_) | (with_reducible refine Rd.i_cons ?_) | (with_reducible refine Rd.i_cb ?_) | (with_reducible refine Rd.i_bm ?_) | (with_reducible refine Rd.i_bm0 ?_) | (with_reducible refine Rd.i_tup ?_) | (with_reducible refine Rd.i_lst ?_)
  | (with_reducible refine Rd.i_int1 ?_) | (with_reducible refine Rd.i_intb ?_) | (with_reducible refine Rd.i_max ?_)
  | (with_reducible refine Rd.i_ixL (SqL.of (by first | assumption | exact upd_same)) (by with_unfolding_all first | exact rfl | exact atI_nat rfl) ?_) | (with_reducible refine Rd.i_ixT (SqT.of (by first | assumption | exact upd_same)) (by with_unfolding_all exact rfl) ?_)
  | (with_reducible refine Rd.i_setL (by first | assumption | exact upd_same) (by with_unfolding_all exact rfl) ?_)
  | (with_reducible refine Xv.i_mkV ?_) | (with_reducible refine Xv.i_xat ?_)
  | (with_reducible refine Rd.i_yes ?_) | (with_reducible refine Rd.i_m1 ?_) | (with_reducible refine Rd.i_m0 ?_) | (with_reducible refine Rd.ite_T ?_) | (with_reducible refine Rd.ite_F ?_) | (with_reducible refine Rd.i_forR ?_) | (with_reducible refine Rd.i_forL ?_) | (with_reducible refine Rd.i_forT ?_)
  | (with_reducible refine Hd.i_rU ?_) | (with_reducible refine Hd.i_pcons ?_) | (with_reducible refine Hd.i_pnil ?_) | (with_reducible refine Hd.i_disp ?_) | (with_reducible refine Hd.i_dget ?_)
  | (with_reducible refine Hd.i_lstRg ?_) | (with_reducible refine Hd.i_rg1 ?_) | (with_reducible refine Hd.i_rg2 ?_) | (with_reducible refine Hd.i_ex1 ?_) | (with_reducible refine Hd.i_ex2 ?_)
  | (with_reducible refine Rd.i_gtup (SqT.of (by assumption)) (by with_unfolding_all exact rfl) ?_) | (with_reducible refine Rd.i_gcons ?_) | (with_reducible refine Rd.i_gnil ?_))
local macro_rules | `(tactic| walk_at "rd") => `(tactic| repeat walk_at "rd1")
section
variable {P : Program} {w : World} {K : PySem.W.Frag} {mg : Str → Option Value} {base : Heap}
open Evl Hd
/-- a name that may stand -/
structure Nm (x : Str) : Prop where
  az : AZ x
  lo : 1 ≤ x.length
  hi : x.length ≤ 12
def aRep (i : Nat) : Str := strRep (Str.ofString "a") (i + 1)
theorem aRep_nodup : ((List.range 12).map aRep).Nodup := by decide +kernel
theorem aRep_nm : ∀ i : _root_.Fin 12, Nm (aRep i.1) := fun i =>
  ⟨fun c hc => (show ∀ i : _root_.Fin 12, ∀ c ∈ (aRep i.1).cps.toList, 97 ≤ c ∧ c ≤ 122 by decide +kernel) i c hc, (show ∀ i : _root_.Fin 12, 1 ≤ (aRep i.1).length by decide +kernel) i, (show ∀ i : _root_.Fin 12, (aRep i.1).length ≤ 12 by decide +kernel) i⟩
theorem spare_is {ns : List Str} (h : ns.length < 12) : ∃ i, i < 12 ∧ aRep i ∉ ns := by
  apply Classical.byContradiction
  intro hc
  have h2 := nodup_len aRep_nodup (l' := ns) (fun a ha => by
    obtain ⟨i, hi, rfl⟩ := List.mem_map.mp ha
    apply Classical.byContradiction
    intro hn
    exact hc ⟨i, List.mem_range.mp hi, hn⟩)
  rw [List.length_map, List.length_range] at h2
  omega
theorem two {c : Prop} [Decidable c] {A B : VK → XK → Prop} {R : VK → XK → Prop} {Q : VK} {E : XK} (h1 : ∀ Q E, R Q E → A Q E) (h2 : ∀ Q E, R Q E → B Q E) (h : R Q E) : if decide c = true then A Q E else B Q E :=
  Rd.ite_d (fun _ => h1 Q E h) (fun _ => h2 Q E h)
def spNames : Sp := fun vs H Q _ => ∃ (p q : Addr) (n : Nat) (s : Int), vs = [.ref p, .int n] ∧ Pen H p q s ∧ s + 1000 < 1099511627776 ∧ n ≤ 8 ∧ ∀ (ns : List Str) l s' H', ns.length = n → ns.Nodup → (∀ x ∈ ns, Nm x) → hid [p, q] H' l = some (.lst (ns.map V.str)) → H l = none → s ≤ s' → s' ≤ s + 1000 → Pen H' p q s' → Ex (hid [p, q] H) (hid [p, q] H') → Q (.ref l) H'
theorem ok_law_names (T : Gtx K mg) : FnOk P w K mg base CX0 3 T.f_law_names T.d_law_names ["_law_pen", "_law_many"] spNames := by
  refine T.F_law_names.ok sc_law_names (fun vs H Q E h => ?_) (fun cdv A outer s H vs Q E hr h => ?_)
  · obtain ⟨p, q, m, s, rfl, _⟩ := h
    rfl
  · obtain ⟨p, q, n, z, rfl, hpen, hz, hn, k⟩ := h
    refine ⟨_, (pss_cons (ps_set (i := 2) sc_law_names.nd rfl (Or.inr rfl) (pe_lst pa_nil))
      (pss_cons (ps_for PassesOwn.never rfl (pi_range1 (by rfl) T.z_range (pa_cons (pv 1) pa_nil)) (pg_name (i := 3) sc_law_names.nd rfl (Or.inl rfl))
        (pss_cons (ps_set (i := 4) sc_law_names.nd rfl (Or.inl rfl) (pe_call (ok_law_word T) (hr.mono (by decide)) rfl T.m_law_word T.F_law_word.kp T.b_law_word .nil pass0 (pa_cons (pv 0) (pa_cons (pe_ifExp (pt_cmpR op_eq (pe_call (ok_law_draw T) (hr.mono (by decide)) rfl T.m_law_draw T.F_law_draw.kp T.b_law_draw .nil pass0 (pa_cons (pv 0) (pa_cons pe_int pa_nil))) pe_int (nomark _)) pe_int pe_int) pa_nil))))
        (pss_cons (ps_setLc (tt := tTest (tOp (rIn K true) (tVar 6) (tVar 2))) (i := 5) rfl sc_law_names.nd rfl rfl (sw_true rfl rfl rfl (by decide +kernel)) (pi_list (pe_lc rfl sc_law_names.nd (pi_range2 (by rfl) T.z_range (pa_cons pe_int (pa_cons pe_int pa_nil))) (blkOk_by (own := [("_law_n", 7)]) (N := ["_law_pen", "_law_many", "_law_found", "_law_k", "_law_name", "_law_spare", "_law_word_here", "_law_n"]) (sc := defScope s_law_names) (by decide +kernel)) (fun _ _ _ _ _ => (pg_name (i := 7) sc_law_names.nd rfl (Or.inl rfl))) (fun _ _ _ _ _ => pts_nil) (fun _ _ _ _ _ => (pe_op Hd.op_mulS pe_str (pv 7))))) (blkOk_by (own := [("_law_word_here", 6)]) (N := ["_law_pen", "_law_many", "_law_found", "_law_k", "_law_name", "_law_spare", "_law_word_here", "_law_n"]) (sc := defScope s_law_names) (by decide +kernel)) (fun _ _ _ _ _ => (pg_name (i := 6) sc_law_names.nd rfl (Or.inl rfl))) (fun _ _ _ _ _ => (pts_one (pt_cmpR op_notIn_seq (pv 6) (pv 2) (by rfl)))) (fun _ _ _ _ _ => (pv 6)))
        (pss_one (ps_expr (pe_bm PySem.F.plainAttrs_list PySem.F.slot_list_append PySem.F.type_list_append mt_append (pv 2) (pa_cons (pe_ifExp (pt_cmpR op_in_seq (pv 4) (pv 2) (by rfl)) (pe_ix ix_list (pv 5) pe_int (fun _ _ => rfl)) (pv 4)) pa_nil)))))))
      (pss_one (ps_ret (pv 2))))), ?_⟩
    have hS : start ["_law_pen", "_law_many", "_law_found", "_law_k", "_law_name", "_law_spare", "_law_word_here", "_law_n"] [V.ref p, .int n] = [some (.ref p), some (.int n), none, none, none, none, none, none] := rfl
    rw [hS]
    walk_at "rd"
    refine ⟨Nat.zero_le _, fun l hl => ?_⟩
    walk_at "rd"
    refine Rd.forR (by omega) (by omega) (fun i σ H2 => ∃ (ns : List Str) (s' : Int) (u3 u4 u5 u6 u7 : Option V), σ = [some (.ref p), some (.int n), some (.ref l), u3, u4, u5, u6, u7] ∧ H2 l = some (.lst (ns.map V.str)) ∧ ns.length = i ∧ ns.Nodup ∧ (∀ x ∈ ns, Nm x) ∧ Pen H2 p q s' ∧ z ≤ s' ∧ s' ≤ z + 30 * i ∧ Ex (hid [p, q] H) (hid [p, q] H2)) ?_ ?_ ?_
    · exact ⟨[], z, _, _, _, _, _, rfl, upd_same, rfl, .nil, fun _ h => (List.not_mem_nil h).elim, hpen.mut (hpen.new hl), by omega, by omega, hid_new hl⟩
    · rintro i σ H2 hi ⟨ns, s', u3, u4, u5, u6, u7, rfl, hls, hlen, hnd, hnm, pen2, lo, hi2, ex2⟩
      walk_at "rd"
      refine i_draw pen2 (by omega) (by omega) (by omega) (fun r1 H3 lo1 hi1 pen3 b3 => ?_)
      walk_at "rd"
      have hln := hpen.new hl
      have word : ∀ (m : Int), m = 12 ∨ m = 2 → ∀ Q E, (∀ (x : Str) s2 H4, Nm x → s' + 1 ≤ s2 → s2 ≤ s' + 21 → Pen H4 p q s2 → Ex (hid [p, q] H3) (hid [p, q] H4) → Q (.str x) H4) → spWord ([V.ref p, .int m] ++ []) H3 Q E := fun m hm Q E kk =>
        ⟨p, q, m, s' + 1, rfl, pen3, by omega, by omega, by omega, fun x s2 H4 x1 x2 x3 x4 x5 x6 x7 => kk x s2 H4 ⟨x1, x2, by omega⟩ x4 (by omega) x6 x7⟩
      refine two (R := fun Q E => ∀ (x : Str) s2 H4, Nm x → s' + 1 ≤ s2 → s2 ≤ s' + 21 → Pen H4 p q s2 → Ex (hid [p, q] H3) (hid [p, q] H4) → Q (.str x) H4) (fun Q E h => word 12 (.inl rfl) Q E h) (fun Q E h => word 2 (.inr rfl) Q E h) (fun x s2 H4 hx lo2 hi3 pen4 ex4 => ?_)
      walk_at "rd"
      have hl3 : hid [p, q] H3 l = some (.lst (ns.map V.str)) := hid_iff.mpr ⟨hln, b3.at hln hls⟩
      have hl4 := hid_get (ex4 _ _ hl3)
      refine Evl.el_lcNL (xs := given 12 (fun _ => true) (fun i => .str (aRep i))) (fun i => !decide (aRep i ∈ ns)) (fun i => .str (aRep i)) (el_lcR2 (m := 1) (n := 13) (fun _ => true) (fun i => .str (aRep i)) (ea_cons ev_c (ea_cons ev_c ea_nil)) ⟨by decide, by decide⟩ ⟨by decide, by decide⟩ (by intro x; rfl) (fun _ _ _ _ => Xv.et_yes) (fun i H5 e5 hi5 _ => ?_)) (by decide +kernel) (by intro x; rfl) (fun i x H5 e5 hx5 => ?_) (fun i x H5 e5 hx5 _ => ?_) _ (Ex.refl _) _ (fun ls H6 n6 e6 h6 => ?_)
      · refine ev_op ev_c (ev_var rfl) (fun H7 e7 Q7 q7 => ⟨_, _, rfl, rfl, by omega, by omega, by decide, ?_⟩)
        have : (1 + (i : Int)).toNat = i + 1 := by omega
        rw [this]
        exact q7 H7 (Ex.refl _)
      · have hi12 : i < 12 := by
          have := (List.getElem?_eq_some_iff.mp hx5).1
          have h12 : (given 12 (fun _ => true) (fun i => V.str (aRep i))).length = 12 := by decide +kernel
          omega
        have hx5' : x = .str (aRep i) := by
          have h12 : (given 12 (fun _ => true) (fun i => V.str (aRep i))) = (List.range 12).map fun i => V.str (aRep i) := by decide +kernel
          rw [h12, List.getElem?_map, List.getElem?_range hi12] at hx5
          exact (Option.some.inj hx5).symm
        subst hx5'
        refine et_test (ev_op (ev_var rfl) (ev_var rfl) (fun H7 e7 Q7 q7 => i_ninS (.inl (sq_of (e7 _ _ (e5 _ _ hl4)))) (q7 H7 (Ex.refl _))))
      · have hi12 : i < 12 := by
          have := (List.getElem?_eq_some_iff.mp hx5).1
          have h12 : (given 12 (fun _ => true) (fun i => V.str (aRep i))).length = 12 := by decide +kernel
          omega
        have hx5' : x = .str (aRep i) := by
          have h12 : (given 12 (fun _ => true) (fun i => V.str (aRep i))) = (List.range 12).map fun i => V.str (aRep i) := by decide +kernel
          rw [h12, List.getElem?_map, List.getElem?_range hi12] at hx5
          exact (Option.some.inj hx5).symm
        subst hx5'
        exact ev_var rfl
      · have h12 : (given 12 (fun _ => true) (fun i => V.str (aRep i))).length = 12 := by decide +kernel
        rw [h12] at h6
        obtain ⟨i0, hi0, hni0⟩ := spare_is (ns := ns) (by omega)
        obtain ⟨j, hj, hfj, hg0, hgl⟩ := given_mem (f := fun i => !decide (aRep i ∈ ns)) (v := fun i => V.str (aRep i)) hi0 (by simpa using hni0)
        have hnj : aRep j ∉ ns := by simpa using hfj
        have hl6 := e6 _ _ hl4
        have fin : ∀ y : Str, Nm y → y ∉ ns → ∀ (u3 u4 u5 u6 u7 : Option V), ∃ (ns' : List Str) (s3 : Int) (u3' u4' u5' u6' u7' : Option V), [some (V.ref p), some (V.int n), some (V.ref l), u3, u4, u5, u6, u7] = [some (V.ref p), some (V.int n), some (V.ref l), u3', u4', u5', u6', u7'] ∧ upd H6 l (.lst (ns.map V.str ++ [.str y])) l = some (.lst (ns'.map V.str)) ∧ ns'.length = i + 1 ∧ ns'.Nodup ∧ (∀ x ∈ ns', Nm x) ∧ Pen (upd H6 l (.lst (ns.map V.str ++ [.str y]))) p q s3 ∧ z ≤ s3 ∧ s3 ≤ z + 30 * ((i + 1 : Nat) : Int) ∧ Ex (hid [p, q] H) (hid [p, q] (upd H6 l (.lst (ns.map V.str ++ [.str y])))) := fun y hy hyn u3 u4 u5 u6 u7 =>
          ⟨ns ++ [y], s2, u3, u4, u5, u6, u7, rfl, by rw [List.map_append]; exact upd_same, by rw [List.length_append, hlen]; rfl, by
            rw [List.nodup_append]
            refine ⟨hnd, List.nodup_cons.mpr ⟨List.not_mem_nil, .nil⟩, fun a ha b hb e => ?_⟩
            rw [List.mem_singleton] at hb
            rw [e, hb] at ha
            exact hyn ha, fun x hx => by
            rcases List.mem_append.mp hx with hx | hx
            · exact hnm x hx
            · rw [List.mem_singleton] at hx
              rw [hx]
              exact hy, (pen4.ex e6).mut hln, by omega, by omega, hid_mut (((ex2.trans b3.ex).trans ex4).trans (hid_ex e6)) hl⟩
        walk_at "rd"
        refine ⟨.inl ⟨rfl, _, SqL.of hl6⟩, ?_⟩
        walk_at "rd"
        refine i_inS (.inl (SqL.of hl6)) ?_
        walk_at "rd"
        refine Rd.ite_d (fun hin => ?_) (fun hin => ?_)
        · walk_at "rd"
          refine Rd.i_ixL (SqL.of h6) (atI_nat (j := 0) hg0) ?_
          walk_at "rd"
          refine Rd.i_append hl6 (small1000 (by rw [List.length_map]; omega)) ?_
          walk_at "rd"
          exact fin _ (aRep_nm ⟨j, hj⟩) hnj _ _ _ _ _
        · walk_at "rd"
          refine Rd.i_append hl6 (small1000 (by rw [List.length_map]; omega)) ?_
          walk_at "rd"
          exact fin _ hx hin _ _ _ _ _
    · rintro σ H2 ⟨ns, s', u3, u4, u5, u6, u7, rfl, hls, hlen, hnd, hnm, pen2, lo, hi2, ex2⟩
      walk_at "rd"
      exact k ns l s' H2 (by omega) hnd hnm (hid_iff.mpr ⟨hpen.new hl, hls⟩) hl lo (by omega) pen2 ex2
end
end K02

namespace K02
open PySem L2
local macro_rules | `(tactic| walk_at "rd1") => `(tactic| first
  | (with_reducible refine Rd.i_seq ?_) | (with_reducible refine Rd.i_asg ?_) | (with_reducible refine Rd.i_name ?_) | (with_reducible refine Rd.i_nx ?_) | (with_reducible refine Rd.i_rt ?_) | (with_reducible refine Rd.i_next ?_) | (with_reducible refine Rd.i_ct ?_) | (with_reducible refine Rd.i_bk ?_)
  | (with_reducible refine Rd.i_ret ?_) | (with_reducible refine Rd.i_drop ?_) | (with_reducible refine Rd.i_ifS ?_) | (with_reducible refine Rd.i_sub ?_)
  | (with_reducible refine Rd.i_var (by with_unfolding_all exact rfl) ?_) | (with_reducible refine Rd.i_c ?_) | (with_reducible refine Rd.i_op ?_) | (with_reducible refine Rd.i_un ?_)
  | (with_reducible refine Rd.i_rI0 ?_) | (with_reducible refine Rd.i_rI (by with_unfolding_all first | omega | exact Rd.mulL (by omega) (by omega) | exact Rd.mulR (by omega) (by omega) | decide | (refine ⟨?_, ?_⟩ <;> omega) | (refine ⟨?_, ?_, ?_⟩ <;> omega)) ?_)
  | (with_reducible refine Rd.i_rEq (by with_unfolding_all exact rfl) ?_) | (with_reducible refine Rd.i_rNe (by with_unfolding_all exact rfl) ?_)
  | (with_reducible refine Rd.i_test ?_) | (with_reducible refine Rd.i_tB ?_) | (with_reducible refine Rd.i_bl ?_) | (with_reducible refine Rd.i_and ?_) | (with_reducible refine Rd.i_or ?_) | (with_reducible refine Rd.i_not ?_) | (with_reducible refine Rd.i_notV ?_) | (with_reducible refine Rd.i_andV ?_) | (with_reducible refine Rd.i_orV ?_) | (with_reducible refine Rd.i_if ?_) | (with_reducible refine Rd.i_chain ?_)
  | (with_reducible refine Rd.i_call ?_) | (with_reducible refine Rd.i_nil ?_) | (with_reducible refine Rd.i_cons ?_) | (with_reducible refine Rd.i_cb ?_) | (with_reducible refine Rd.i_bm ?_) | (with_reducible refine Rd.i_bm0 ?_) | (with_reducible refine Rd.i_tup ?_) | (with_reducible refine Rd.i_lst ?_)
  | (with_reducible refine Rd.i_int1 ?_) | (with_reducible refine Rd.i_intb ?_) | (with_reducible refine Rd.i_max ?_)
  | (with_reducible refine Rd.i_ixL (SqL.of (by first | assumption | exact upd_same)) (by with_unfolding_all first | exact rfl | exact atI_nat rfl) ?_) | (with_reducible refine Rd.i_ixT (SqT.of (by first | assumption | exact upd_same)) (by with_unfolding_all exact rfl) ?_)
  | (with_reducible refine Rd.i_setL (by first | assumption | exact upd_same) (by with_unfolding_all exact rfl) ?_)
  | (with_reducible refine Xv.i_mkV ?_) | (with_reducible refine Xv.i_xat ?_)
  | (with_reducible refine Rd.i_yes ?_) | (with_reducible refine Rd.i_m1 ?_) | (with_reducible refine Rd.i_m0 ?_) | (with_reducible refine Rd.ite_T ?_) | (with_reducible refine Rd.ite_F ?_) | (with_reducible refine Rd.i_forR ?_) | (with_reducible refine Rd.i_forL ?_) | (with_reducible refine Rd.i_forT ?_)
  | (with_reducible refine Hd.i_rU ?_) | (with_reducible refine Hd.i_pcons ?_) | (with_reducible refine Hd.i_pnil ?_) | (with_reducible refine Hd.i_disp ?_) | (with_reducible refine Hd.i_dget ?_)
  | (with_reducible refine Hd.i_lstRg ?_) | (with_reducible refine Hd.i_rg1 ?_) | (with_reducible refine Hd.i_rg2 ?_) | (with_reducible refine Hd.i_ex1 ?_) | (with_reducible refine Hd.i_ex2 ?_)
  | (with_reducible refine Rd.i_gtup (SqT.of (by assumption)) (by with_unfolding_all exact rfl) ?_) | (with_reducible refine Rd.i_gcons ?_) | (with_reducible refine Rd.i_gnil ?_))
local macro_rules | `(tactic| walk_at "rd") => `(tactic| repeat walk_at "rd1")
section
variable {P : Program} {w : World} {K : PySem.W.Frag} {mg : Str → Option Value} {base : Heap}
open Evl Hd
abbrev lkL : List Str := ["take", "take", "take", "take", "case", "case", "rest", "cap", "jump"]
abbrev qtL : List Str := ["skip", "skip", "skip", "cut", "cut", "upto", "upto", "set", "refuse"]
/-- the words of lines that read, of silent ones -/
def Lk (x : Str) : Prop := x ∈ (["take", "case", "rest", "cap", "jump"] : List Str)
def Qt (x : Str) : Prop := x ∈ (["skip", "cut", "upto", "set", "refuse"] : List Str)
instance (x : Str) : Decidable (Lk x) := inferInstanceAs (Decidable (x ∈ _))
instance (x : Str) : Decidable (Qt x) := inferInstanceAs (Decidable (x ∈ _))
theorem lk_of : ∀ x ∈ lkL, Lk x := by decide +kernel
theorem qt_of : ∀ x ∈ qtL, Qt x := by decide +kernel
structure Wds (ws : List Str) : Prop where
  all : ∀ x ∈ ws, Lk x ∨ Qt x
  beg : (∃ x, ws[0]? = some x ∧ Lk x) ∨ (2 < ws.length ∧ (∃ x, ws[0]? = some x ∧ x ∈ (["set", "upto"] : List Str)) ∧ ∃ x, ws[1]? = some x ∧ Lk x)
theorem i_pickS {p q r : Addr} {s : Int} {ns : List Str} {H : Hp} {Q : VK} {E : XK} (hp : Pen H p q s) (hs : s < 1099511627776) (hr : hid [p, q] H r = some (.lst (ns.map V.str))) (l0 : 0 < ns.length) (l1 : ns.length < 1000000) (k : ∀ x ∈ ns, ∀ H', Pen H' p q (s + 1) → But2 p q H H' → Q (.str x) H') : spPick K ([V.ref p, V.ref r] ++ []) H Q E :=
  i_pick hp hs hr (by rw [List.length_map]; exact l0) (by rw [List.length_map]; exact l1) (fun i hi H' a b => by
    rw [List.getElem_map]
    exact k _ (List.getElem_mem _) H' a b)
/-- what is free behind a draw was free before it -/
theorem fresh_hid {p q a : Addr} {H H' : Hp} (b : But2 p q H H') (hn : a ∉ [p, q]) (h : H' a = none) : H a = none := by
  rw [← b a (fun z => hn (by rw [z]; exact List.mem_cons_self)) (fun z => hn (by rw [z]; exact List.mem_cons_of_mem _ List.mem_cons_self))]
  exact h
def WInv (p q a1 a2 l : Addr) (n : Nat) (z : Int) (H : Hp) (i : Nat) (σ : L2.St) (H2 : Hp) : Prop := ∃ (ws : List Str) (s' : Int) (u5 : Option V), σ = [some (.ref p), some (.int n), some (.ref a1), some (.ref a2), some (.ref l), u5] ∧ H2 l = some (.lst (ws.map V.str)) ∧ ws.length = i + 1 ∧ (∀ x ∈ ws, Lk x ∨ Qt x) ∧ (∃ x, ws[0]? = some x ∧ Lk x) ∧ Pen H2 p q s' ∧ z ≤ s' ∧ s' ≤ z + 1 + 2 * i ∧ Ex (hid [p, q] H) (hid [p, q] H2) ∧ hid [p, q] H2 a1 = some (.lst (lkL.map V.str)) ∧ hid [p, q] H2 a2 = some (.lst (qtL.map V.str))
def WMid (p q a1 a2 l : Addr) (n : Nat) (z c : Int) (H : Hp) (σ : L2.St) (H2 : Hp) : Prop := ∃ (ws : List Str) (s' : Int) (u5 : Option V), σ = [some (.ref p), some (.int n), some (.ref a1), some (.ref a2), some (.ref l), u5] ∧ H2 l = some (.lst (ws.map V.str)) ∧ ws.length = n ∧ (∀ x ∈ ws, Lk x ∨ Qt x) ∧ (∃ x, ws[0]? = some x ∧ Lk x) ∧ Pen H2 p q s' ∧ z ≤ s' ∧ s' ≤ z + c ∧ Ex (hid [p, q] H) (hid [p, q] H2)
theorem ixN_of {m : Nat} {i : Int} {j : Nat} (h : i = (j : Int)) (hj : j < m) : ixN m i = some j := by rw [h]; exact Evl.ixN_nat hj
theorem set_str (ws : List Str) (j : Nat) (x : Str) : (ws.map V.str).set j (.str x) = (ws.set j x).map V.str := by rw [List.map_set]
theorem mem_set_or {α : Type} {l : List α} {j : Nat} {x y : α} (h : y ∈ l.set j x) : y ∈ l ∨ y = x := List.mem_or_eq_of_mem_set h
theorem qt_cut : Qt "cut" := by decide +kernel
theorem qt_skip : Qt "skip" := by decide +kernel
/-- a silent word is set behind the first -/
theorem wmid_set {p q a1 a2 l : Addr} {n j : Nat} {z c : Int} {H H3 : Hp} {ws : List Str} {s' : Int} {u5 : Option V} {x : Str} (hlen : ws.length = n) (hall : ∀ x ∈ ws, Lk x ∨ Qt x) (hbeg : ∃ x, ws[0]? = some x ∧ Lk x) (hj : 1 ≤ j) (hx : Qt x)
    (pen : Pen H3 p q s') (lo : z ≤ s') (hi : s' ≤ z + c) (hl : H l = none) (hln : l ∉ [p, q]) (ex : Ex (hid [p, q] H) (hid [p, q] H3)) :
    WMid p q a1 a2 l n z c H [some (.ref p), some (.int n), some (.ref a1), some (.ref a2), some (.ref l), u5] (upd H3 l (.lst ((ws.map V.str).set j (.str x)))) := by
  refine ⟨ws.set j x, s', u5, rfl, by rw [set_str]; exact upd_same, by rw [List.length_set]; exact hlen, fun y hy => ?_, ?_, pen.mut hln, lo, hi, hid_mut ex hl⟩
  · rcases mem_set_or hy with hy | hy
    · exact hall y hy
    · rw [hy]; exact .inr hx
  · obtain ⟨y, h1, h2⟩ := hbeg
    exact ⟨y, by rw [List.getElem?_set_ne (by omega)]; exact h1, h2⟩
def spWords : Sp := fun vs H Q _ => ∃ (p q : Addr) (n : Nat) (s : Int), vs = [.ref p, .int n] ∧ Pen H p q s ∧ s + 1000 < 1099511627776 ∧ 1 ≤ n ∧ n ≤ 8 ∧ ∀ (ws : List Str) l s' H', ws.length = n → Wds ws → hid [p, q] H' l = some (.lst (ws.map V.str)) → H l = none → s ≤ s' → s' ≤ s + 1000 → Pen H' p q s' → Ex (hid [p, q] H) (hid [p, q] H') → Q (.ref l) H'
theorem ok_law_words (T : Gtx K mg) : FnOk P w K mg base CX0 3 T.f_law_words T.d_law_words ["_law_pen", "_law_many"] spWords := by
  refine T.F_law_words.ok sc_law_words (fun vs H Q E h => ?_) (fun cdv A outer s H vs Q E hr h => ?_)
  · obtain ⟨p, q, m, s, rfl, _⟩ := h
    rfl
  · obtain ⟨p, q, n, z, rfl, hpen, hz, hn1, hn, k⟩ := h
    refine ⟨_, (pss_cons (ps_set (i := 2) sc_law_words.nd rfl (Or.inl rfl) (pe_lst (pa_cons pe_str (pa_cons pe_str (pa_cons pe_str (pa_cons pe_str (pa_cons pe_str (pa_cons pe_str (pa_cons pe_str (pa_cons pe_str (pa_cons pe_str pa_nil)))))))))))
      (pss_cons (ps_set (i := 3) sc_law_words.nd rfl (Or.inl rfl) (pe_lst (pa_cons pe_str (pa_cons pe_str (pa_cons pe_str (pa_cons pe_str (pa_cons pe_str (pa_cons pe_str (pa_cons pe_str (pa_cons pe_str (pa_cons pe_str pa_nil)))))))))))
      (pss_cons (ps_set (i := 4) sc_law_words.nd rfl (Or.inl rfl) (pe_lst (pa_cons (pe_call (ok_law_pick T) (hr.mono (by decide)) rfl T.m_law_pick T.F_law_pick.kp T.b_law_pick .nil pass0 (pa_cons (pv 0) (pa_cons (pv 2) pa_nil))) pa_nil)))
      (pss_cons (ps_for PassesOwn.never rfl (pi_range1 (by rfl) T.z_range (pa_cons (pe_op op_sub (pv 1) pe_int) pa_nil)) (pg_name (i := 5) sc_law_words.nd rfl (Or.inl rfl))
        (pss_one (ps_expr (pe_bm PySem.F.plainAttrs_list PySem.F.slot_list_append PySem.F.type_list_append mt_append (pv 4) (pa_cons (pe_call (ok_law_pick T) (hr.mono (by decide)) rfl T.m_law_pick T.F_law_pick.kp T.b_law_pick .nil pass0 (pa_cons (pv 0) (pa_cons (pe_ifExp (pt_cmpR op_gt (pe_call (ok_law_draw T) (hr.mono (by decide)) rfl T.m_law_draw T.F_law_draw.kp T.b_law_draw .nil pass0 (pa_cons (pv 0) (pa_cons pe_int pa_nil))) pe_int (nomark _)) (pv 3) (pv 2)) pa_nil))) pa_nil)))))
      (Evl.pss_cut (ps_if (PW.pt (pw_and (pt_cmpR op_gt (pv 1) pe_int (nomark _)) (pw_and1 (pt_cmpR op_gt (pe_call (ok_law_draw T) (hr.mono (by decide)) rfl T.m_law_draw T.F_law_draw.kp T.b_law_draw .nil pass0 (pa_cons (pv 0) (pa_cons pe_int pa_nil))) pe_int (nomark _)))))
        (pss_one (ps_asg pe_str (pg_sub (pv 4) (pe_op op_sub (pv 1) pe_int) set_list)))
        pss_nil)
      (Evl.pss_cut (ps_if (PW.pt (pw_and (pt_cmpR op_gt (pv 1) pe_int (nomark _)) (pw_and (pt_cmpR op_notIn_seq pe_str (pv 4) (by rfl)) (pw_and1 (pt_cmpR op_gt (pe_call (ok_law_draw T) (hr.mono (by decide)) rfl T.m_law_draw T.F_law_draw.kp T.b_law_draw .nil pass0 (pa_cons (pv 0) (pa_cons pe_int pa_nil))) pe_int (nomark _))))))
        (pss_one (ps_asg pe_str (pg_sub (pv 4) (pe_op op_sub (pv 1) pe_int) set_list)))
        pss_nil)
      (pss_cons (ps_if (PW.pt (pw_and (pt_cmpR op_gt (pv 1) pe_int (nomark _)) (pw_and1 (pt_cmpR op_eq (pe_call (ok_law_draw T) (hr.mono (by decide)) rfl T.m_law_draw T.F_law_draw.kp T.b_law_draw .nil pass0 (pa_cons (pv 0) (pa_cons pe_int pa_nil))) pe_int (nomark _)))))
        (pss_cons (ps_asg (pe_ix ix_list (pv 4) pe_int (fun _ _ => rfl)) (pg_sub (pv 4) pe_int set_list))
        (pss_one (ps_asg (pe_call (ok_law_pick T) (hr.mono (by decide)) rfl T.m_law_pick T.F_law_pick.kp T.b_law_pick .nil pass0 (pa_cons (pv 0) (pa_cons (pe_lst (pa_cons pe_str (pa_cons pe_str pa_nil))) pa_nil))) (pg_sub (pv 4) pe_int set_list))))
        pss_nil)
      (pss_one (ps_ret (pv 4)))))))))), ?_⟩
    have hS : start ["_law_pen", "_law_many", "_law_looks", "_law_quiet", "_law_words_here", "_law_k"] [V.ref p, .int n] = [some (.ref p), some (.int n), none, none, none, none] := rfl
    rw [hS]
    walk_at "rd"
    refine ⟨by show 9 ≤ sizeLine; decide, fun a1 n1 => ?_⟩
    walk_at "rd"
    refine ⟨by show 9 ≤ sizeLine; decide, fun a2 n2 => ?_⟩
    walk_at "rd"
    have pen2 := (hpen.ex (Ex.new (o := .lst (lkL.map V.str)) n1)).ex (Ex.new (o := .lst (qtL.map V.str)) n2)
    have n2' : H a2 = none := fresh_back (Ex.new (o := .lst (lkL.map V.str)) n1) n2
    have e2 : Ex (hid [p, q] H) (hid [p, q] (upd (upd H a1 (.lst (lkL.map V.str))) a2 (.lst (qtL.map V.str)))) := (hid_new n1).trans (hid_new n2)
    have hA1 : hid [p, q] (upd (upd H a1 (.lst (lkL.map V.str))) a2 (.lst (qtL.map V.str))) a1 = some (.lst (lkL.map V.str)) := hid_iff.mpr ⟨hpen.new n1, (Ex.new n2) _ _ upd_same⟩
    have hA2 : hid [p, q] (upd (upd H a1 (.lst (lkL.map V.str))) a2 (.lst (qtL.map V.str))) a2 = some (.lst (qtL.map V.str)) := hid_iff.mpr ⟨hpen.new n2', upd_same⟩
    refine i_pickS (ns := lkL) pen2 (by omega) hA1 (by decide) (by decide) (fun x hx H1 pen1 b1 => ?_)
    walk_at "rd"
    refine ⟨by show 1 ≤ sizeLine; decide, fun l nl => ?_⟩
    have hl : H l = none := fresh_back (Ex.new (o := .lst (lkL.map V.str)) n1) (fresh_back (Ex.new (o := .lst (qtL.map V.str)) n2) (fresh_hid b1 (pen1.new nl) nl))
    have hln := hpen.new hl
    walk_at "rd"
    refine Rd.forR (by omega) (by omega) (WInv p q a1 a2 l n z H) ?_ ?_ ?_
    · exact ⟨[x], z + 1, _, rfl, upd_same, rfl, fun y hy => by rw [List.mem_singleton] at hy; rw [hy]; exact .inl (lk_of x hx), ⟨x, rfl, lk_of x hx⟩, pen1.mut hln, by omega, by omega, hid_mut (e2.trans b1.ex) hl, (hid_new nl) _ _ (b1.ex _ _ hA1), (hid_new nl) _ _ (b1.ex _ _ hA2)⟩
    · rintro i σ H2 hi ⟨ws, s', u5, rfl, hls, hlen, hall, hbeg, pen3, lo, hi2, ex2, g1, g2⟩
      walk_at "rd"
      refine ⟨.inl ⟨rfl, _, SqL.of hls⟩, ?_⟩
      walk_at "rd"
      refine i_draw pen3 (by omega) (by omega) (by omega) (fun r H3 lo3 hi3 pen4 b3 => ?_)
      walk_at "rd"
      have l1 : a1 ≠ l := ne_of_none (H := upd (upd H a1 (.lst (lkL.map V.str))) a2 (.lst (qtL.map V.str))) (hid_get hA1) (fresh_hid b1 (pen1.new nl) nl)
      have l2 : a2 ≠ l := ne_of_none (H := upd (upd H a1 (.lst (lkL.map V.str))) a2 (.lst (qtL.map V.str))) (hid_get hA2) (fresh_hid b1 (pen1.new nl) nl)
      have fin : ∀ y H4, Lk y ∨ Qt y → Pen H4 p q (s' + 1 + 1) → But2 p q H3 H4 → ∀ u5, H4 l = some (.lst (ws.map V.str)) ∧ WInv p q a1 a2 l n z H (i + 1) [some (.ref p), some (.int n), some (.ref a1), some (.ref a2), some (.ref l), u5] (upd H4 l (.lst (ws.map V.str ++ [.str y]))) := fun y H4 hy pen5 b4 u5 => by
        have hne1 : ∀ {a : Addr} {ns : List V}, hid [p, q] H2 a = some (.lst ns) → a ≠ l → hid [p, q] (upd H4 l (.lst (ws.map V.str ++ [.str y]))) a = some (.lst ns) := fun {a ns} h hne =>
          hid_iff.mpr ⟨nin h, by rw [upd_ne hne]; exact hid_get (b4.ex _ _ (b3.ex _ _ h))⟩
        exact ⟨b4.at hln (b3.at hln hls), ws ++ [y], s' + 1 + 1, _, rfl, by rw [List.map_append]; exact upd_same, by rw [List.length_append, hlen]; rfl, fun x hx => by
          rcases List.mem_append.mp hx with hx | hx
          · exact hall x hx
          · rw [List.mem_singleton] at hx
            rw [hx]
            exact hy, by
          obtain ⟨x, h1, h2⟩ := hbeg
          exact ⟨x, by rw [List.getElem?_append_left (by omega)]; exact h1, h2⟩, pen5.mut hln, by omega, by omega, hid_mut ((ex2.trans b3.ex).trans b4.ex) hl, hne1 g1 l1, hne1 g2 l2⟩
      refine Rd.ite_d (fun _ => ?_) (fun _ => ?_)
      · walk_at "rd"
        refine i_pickS (ns := qtL) pen4 (by omega) (b3.ex _ _ g2) (by decide) (by decide) (fun y hy H4 pen5 b4 => ?_)
        walk_at "rd"
        refine Rd.i_append (fin y H4 (.inr (qt_of y hy)) pen5 b4 none).1 (small1000 (by rw [List.length_map]; omega)) ?_
        walk_at "rd"
        exact (fin y H4 (.inr (qt_of y hy)) pen5 b4 _).2
      · walk_at "rd"
        refine i_pickS (ns := lkL) pen4 (by omega) (b3.ex _ _ g1) (by decide) (by decide) (fun y hy H4 pen5 b4 => ?_)
        walk_at "rd"
        refine Rd.i_append (fin y H4 (.inl (lk_of y hy)) pen5 b4 none).1 (small1000 (by rw [List.length_map]; omega)) ?_
        walk_at "rd"
        exact (fin y H4 (.inl (lk_of y hy)) pen5 b4 _).2
    · rintro σ H2 ⟨ws, s', u5, rfl, hls, hlen, hall, hbeg, pen3, lo, hi2, ex2, g1, g2⟩
      walk_at "rd"
      refine Evl.q_cut (M := WMid p q a1 a2 l n z 40 H) ?_ (fun σ H2 hM => ?_)
      · walk_at "rd"
        refine Rd.ite_d (fun h1 => ?_) (fun _ => ?_)
        · walk_at "rd"
          refine i_draw pen3 (by omega) (by omega) (by omega) (fun r H3 lo3 hi3 pen4 b3 => ?_)
          walk_at "rd"
          refine Rd.ite_d (fun _ => ?_) (fun _ => ?_)
          · walk_at "rd"
            refine Rd.i_setL (b3.at hln hls) (ixN_of (j := n - 1) (by omega) (by rw [List.length_map]; omega)) ?_
            walk_at "rd"
            exact wmid_set (by omega) hall hbeg (by omega) qt_cut pen4 (by omega) (by omega) hl hln (ex2.trans b3.ex)
          · walk_at "rd"
            exact ⟨ws, s' + 1, _, rfl, b3.at hln hls, by omega, hall, hbeg, pen4, by omega, by omega, ex2.trans b3.ex⟩
        · walk_at "rd"
          exact ⟨ws, s', _, rfl, hls, by omega, hall, hbeg, pen3, by omega, by omega, ex2⟩
      clear hls hlen hall hbeg pen3 lo hi2 ex2 g1 g2
      obtain ⟨ws, s', u5, rfl, hls, hlen, hall, hbeg, pen3, lo, hi2, ex2⟩ := hM
      refine Evl.q_cut (M := WMid p q a1 a2 l n z 50 H) ?_ (fun σ H2 hM => ?_)
      · walk_at "rd"
        refine Rd.ite_d (fun h1 => ?_) (fun _ => ?_)
        · walk_at "rd"
          refine i_ninS (.inl (SqL.of hls)) ?_
          walk_at "rd"
          refine Rd.ite_nd (fun h2 => ?_) (fun h2 => ?_)
          · walk_at "rd"
            exact ⟨ws, s', _, rfl, hls, by omega, hall, hbeg, pen3, by omega, by omega, ex2⟩
          · walk_at "rd"
            refine i_draw pen3 (by omega) (by omega) (by omega) (fun r H3 lo3 hi3 pen4 b3 => ?_)
            walk_at "rd"
            refine Rd.ite_d (fun _ => ?_) (fun _ => ?_)
            · walk_at "rd"
              refine Rd.i_setL (b3.at hln hls) (ixN_of (j := n - 2) (by omega) (by rw [List.length_map]; omega)) ?_
              walk_at "rd"
              exact wmid_set (by omega) hall hbeg (by omega) qt_skip pen4 (by omega) (by omega) hl hln (ex2.trans b3.ex)
            · walk_at "rd"
              exact ⟨ws, s' + 1, _, rfl, b3.at hln hls, by omega, hall, hbeg, pen4, by omega, by omega, ex2.trans b3.ex⟩
        · walk_at "rd"
          exact ⟨ws, s', _, rfl, hls, by omega, hall, hbeg, pen3, by omega, by omega, ex2⟩
      clear hls hlen hall hbeg pen3 lo hi2 ex2
      obtain ⟨ws, s', u5, rfl, hls, hlen, hall, hbeg, pen3, lo, hi2, ex2⟩ := hM
      walk_at "rd"
      refine Rd.ite_d (fun h1 => ?_) (fun _ => ?_)
      · walk_at "rd"
        refine i_draw pen3 (by omega) (by omega) (by omega) (fun r H3 lo3 hi3 pen4 b3 => ?_)
        walk_at "rd"
        refine Rd.ite_vi (fun _ => ?_) (fun _ => ?_)
        · walk_at "rd"
          obtain ⟨x0, hx0, hk0⟩ := hbeg
          have hl3 := b3.at hln hls
          refine Rd.i_ixL (SqL.of hl3) (atI_nat (j := 0) (v := .str x0) (by rw [List.getElem?_map, hx0]; rfl)) ?_
          walk_at "rd"
          refine Rd.i_setL hl3 (ixN_of (j := 1) (by omega) (by rw [List.length_map]; omega)) ?_
          walk_at "rd"
          refine ⟨by show 2 ≤ sizeLine; decide, fun a3 n3 => ?_⟩
          walk_at "rd"
          have pen5 := (pen4.mut (o := .lst ((ws.map V.str).set 1 (.str x0))) hln).ex (Ex.new (o := .lst [.str "set", .str "upto"]) n3)
          refine i_pickS (ns := ["set", "upto"]) pen5 (by omega) (hid_iff.mpr ⟨(pen4.mut (o := .lst ((ws.map V.str).set 1 (.str x0))) hln).new n3, upd_same⟩) (by decide) (by decide) (fun y hy H4 pen6 b4 => ?_)
          walk_at "rd"
          have hl4 : H4 l = some (.lst ((ws.map V.str).set 1 (.str x0))) := b4.at hln ((Ex.new n3) _ _ upd_same)
          refine Rd.i_setL hl4 (ixN_of (j := 0) (by omega) (by rw [List.length_set, List.length_map]; omega)) ?_
          walk_at "rd"
          have hqy : Qt y := (show ∀ y ∈ (["set", "upto"] : List Str), Qt y by decide +kernel) y hy
          refine k ((ws.set 1 x0).set 0 y) l (s' + 1 + 1) _ (by rw [List.length_set, List.length_set]; omega) ⟨fun x hx => ?_, .inr ⟨by rw [List.length_set, List.length_set]; omega, ⟨y, by rw [List.getElem?_set_self (by rw [List.length_set]; omega)], hy⟩, ⟨x0, by rw [List.getElem?_set_ne (by omega), List.getElem?_set_self (by omega)], hk0⟩⟩⟩ (hid_iff.mpr ⟨hln, by rw [set_str, set_str]; exact upd_same⟩) hl (by omega) (by omega) (pen6.mut hln) (hid_mut ((hid_mut (ex2.trans b3.ex) hl).trans ((hid_new n3).trans b4.ex)) hl)
          rcases mem_set_or hx with hx | hx
          · rcases mem_set_or hx with hx | hx
            · exact hall x hx
            · rw [hx]; exact .inl hk0
          · rw [hx]; exact .inr hqy
        · walk_at "rd"
          exact k ws l (s' + 1) H3 hlen ⟨hall, .inl hbeg⟩ (hid_iff.mpr ⟨hln, b3.at hln hls⟩) hl (by omega) (by omega) pen4 (ex2.trans b3.ex)
      · walk_at "rd"
        exact k ws l s' H2 hlen ⟨hall, .inl hbeg⟩ (hid_iff.mpr ⟨hln, hls⟩) hl (by omega) (by omega) pen3 ex2
end
end K02

namespace K02
open PySem L2
local macro_rules | `(tactic| walk_at "rd1") => `(tactic| first
  | (with_reducible refine Rd.i_seq ?_) | (with_reducible refine Rd.i_asg ?_) | (with_reducible refine Rd.i_name ?_) | (with_reducible refine Rd.i_nx ?_) | (with_reducible refine Rd.i_rt ?_) | (with_reducible refine Rd.i_next ?_) | (with_reducible refine Rd.i_ct ?_) | (with_reducible refine Rd.i_bk ?_)
  | (with_reducible refine Rd.i_ret ?_) | (with_reducible refine Rd.i_drop ?_) | (with_reducible refine Rd.i_ifS ?_) | (with_reducible refine Rd.i_sub ?_)
  | (with_reducible refine Rd.i_var (by with_unfolding_all exact rfl) ?_) | (with_reducible refine Rd.i_c ?_) | (with_reducible refine Rd.i_op ?_) | (with_reducible refine Rd.i_un ?_)
  | (with_reducible refine Rd.i_rI0 ?_) | (with_reducible refine Rd.i_rI (by with_unfolding_all first | omega | exact Rd.mulL (by omega) (by omega) | exact Rd.mulR (by omega) (by omega) | decide | (refine ⟨?_, ?_⟩ <;> omega) | (refine ⟨?_, ?_, ?_⟩ <;> omega)) ?_)
  | (with_reducible refine Rd.i_rEq (by with_unfolding_all exact rfl) ?_) | (with_reducible refine Rd.i_rNe (by with_unfolding_all exact rfl) ?_)
  | (with_reducible refine Rd.i_test ?_) | (with_reducible refine Rd.i_tB ?_) | (with_reducible refine Rd.i_bl ?_) | (with_reducible refine Rd.i_and ?_) | (with_reducible refine Rd.i_or ?_) | (with_reducible refine Rd.i_not ?_) | (with_reducible refine Rd.i_notV ?_) | (with_reducible refine Rd.i_andV ?_) | (with_reducible refine Rd.i_orV ?_) | (with_reducible refine Rd.i_if ?_) | (with_reducible refine Rd.i_chain ?_)
  | (with_reducible refine Rd.i_call ?_) | (with_reducible refine Rd.i_nil ?_) | (with_reducible refine Rd.i_cons ?_) | (with_reducible refine Rd.i_cb ?_) | (with_reducible refine Rd.i_bm ?_) | (with_reducible refine Rd.i_bm0 ?_) | (with_reducible refine Rd.i_tup ?_) | (with_reducible refine Rd.i_lst ?_)
  | (with_reducible refine Rd.i_int1 ?_) | (with_reducible refine Rd.i_intb ?_) | (with_reducible refine Rd.i_max ?_)
  | (with_reducible refine Rd.i_ixL (SqL.of (by first | assumption | exact upd_same)) (by with_unfolding_all first | exact rfl | exact atI_nat rfl) ?_) | (with_reducible refine Rd.i_ixT (SqT.of (by first | assumption | exact upd_same)) (by with_unfolding_all exact rfl) ?_)
  | (with_reducible refine Rd.i_setL (by first | assumption | exact upd_same) (by with_unfolding_all exact rfl) ?_)
  | (with_reducible refine Xv.i_mkV ?_) | (with_reducible refine Xv.i_xat ?_)
  | (with_reducible refine Rd.i_yes ?_) | (with_reducible refine Rd.i_m1 ?_) | (with_reducible refine Rd.i_m0 ?_) | (with_reducible refine Rd.ite_T ?_) | (with_reducible refine Rd.ite_F ?_) | (with_reducible refine Rd.i_forR ?_) | (with_reducible refine Rd.i_forL ?_) | (with_reducible refine Rd.i_forT ?_)
  | (with_reducible refine Hd.i_rU ?_) | (with_reducible refine Hd.i_pcons ?_) | (with_reducible refine Hd.i_pnil ?_) | (with_reducible refine Hd.i_disp ?_) | (with_reducible refine Hd.i_dget ?_)
  | (with_reducible refine Hd.i_lstRg ?_) | (with_reducible refine Hd.i_rg1 ?_) | (with_reducible refine Hd.i_rg2 ?_) | (with_reducible refine Hd.i_ex1 ?_) | (with_reducible refine Hd.i_ex2 ?_)
  | (with_reducible refine Rd.i_gtup (SqT.of (by assumption)) (by with_unfolding_all exact rfl) ?_) | (with_reducible refine Rd.i_gcons ?_) | (with_reducible refine Rd.i_gnil ?_))
local macro_rules | `(tactic| walk_at "rd") => `(tactic| repeat walk_at "rd1")
section
variable {P : Program} {w : World} {K : PySem.W.Frag} {mg : Str → Option Value} {base : Heap}
open Evl Hd
def wAt (ws : List Str) (i : Nat) : Str := ws.getD i (Str.ofString "")
theorem wAt_some {ws : List Str} {i : Nat} {x : Str} (h : ws[i]? = some x) : wAt ws i = x := by
  unfold wAt
  rw [List.getD_eq_getElem?_getD, h]
  rfl
theorem wAt_get {ws : List Str} {i : Nat} (h : i < ws.length) : (ws.map V.str)[i]? = some (.str (wAt ws i)) := by
  rw [List.getElem?_map, List.getElem?_eq_getElem h, wAt_some (List.getElem?_eq_getElem h)]
  rfl
theorem wAt_mem {ws : List Str} {i : Nat} (h : i < ws.length) : wAt ws i ∈ ws := by
  rw [wAt_some (List.getElem?_eq_getElem h)]
  exact List.getElem_mem h
theorem ev_w {σ : L2.St} {H : Hp} {ta tb : TE} {lw : Addr} {ws : List Str} {i : Nat} {z : Int} (hv : Ev ta σ H (.ref lw)) (hi : Ev tb σ H (.int z)) (e : z = (i : Int)) (h : SqL K H lw (ws.map V.str)) (hlt : i < ws.length) : Ev (tOp (rIxL K) ta tb) σ H (.str (wAt ws i)) :=
  ev_op hv hi (rv_ixL h (at_of e (wAt_get hlt)))
theorem rv_inS {σ : L2.St} {H : Hp} {p : Addr} {a : Str} {ns : List Str} (h : SqL K H p (ns.map V.str) ∨ SqT K H p (ns.map V.str)) : RV (rIn K false) (.str a) (.ref p) H (.bl (decide (a ∈ ns))) := fun H1 e Q q =>
  i_inS (h.elim (fun h => .inl (ex_l e h)) (fun h => .inr (ex_t e h))) (q H1 (Ex.refl _))
theorem rv_ninS {σ : L2.St} {H : Hp} {p : Addr} {a : Str} {ns : List Str} (h : SqL K H p (ns.map V.str) ∨ SqT K H p (ns.map V.str)) : RV (rIn K true) (.str a) (.ref p) H (.bl (!decide (a ∈ ns))) := fun H1 e Q q =>
  i_ninS (h.elim (fun h => .inl (ex_l e h)) (fun h => .inr (ex_t e h))) (q H1 (Ex.refl _))
abbrev lk5 : List Str := ["take", "case", "rest", "cap", "jump"]
def GMid (p q lw lk : Addr) (ws : List Str) (at_ : Nat) (z : Int) (H1 : Hp) (B : Nat) (Pg : Nat → Prop) (σ : L2.St) (H' : Hp) : Prop := ∃ (sp' : Addr) (xs : List V) (s' : Int) (u5 u6 u7 : Option V), σ = [some (.ref p), some (.ref lw), some (.int at_), some (.ref lk), some (.ref sp'), u5, u6, u7] ∧
  hid [p, q] H' sp' = some (.lst xs) ∧ AllG ws.length Pg xs ∧ 0 < xs.length ∧ xs.length ≤ B ∧ Pen H' p q s' ∧ z ≤ s' ∧ s' ≤ z + 5 ∧ Ex (hid [p, q] H1) (hid [p, q] H')
def NMid (p q lw lk : Addr) (ws : List Str) (at_ : Nat) (z : Int) (pos : Bool) (H1 : Hp) (σ : L2.St) (H' : Hp) : Prop := ∃ (nr : Addr) (xs : List V) (s' : Int) (u4 u5 u6 : Option V), σ = [some (.ref p), some (.ref lw), some (.int at_), some (.ref lk), u4, u5, u6, some (.ref nr)] ∧
  hid [p, q] H' nr = some (.lst xs) ∧ AllG ws.length (fun _ => True) xs ∧ (pos = true → 0 < xs.length) ∧ xs.length ≤ 500 ∧ Pen H' p q s' ∧ z ≤ s' ∧ s' ≤ z + 5 ∧ Ex (hid [p, q] H1) (hid [p, q] H')
/-- a pick of a place -/
theorem i_pickG {p q r : Addr} {s : Int} {n : Nat} {Pg : Nat → Prop} {xs : List V} {H : Hp} {Q : VK} {E : XK} (hp : Pen H p q s) (hs : s < 1099511627776) (hr : hid [p, q] H r = some (.lst xs)) (l0 : 0 < xs.length) (l1 : xs.length ≤ 500) (hg : AllG n Pg xs) (k : ∀ g : Nat, g < n → Pg g → ∀ H', Pen H' p q (s + 1) → But2 p q H H' → Q (.int g) H') : spPick K ([V.ref p, V.ref r] ++ []) H Q E :=
  i_pick hp hs hr l0 (by omega) (fun i hi H' a b => by
    obtain ⟨g, e, h1, h2⟩ := hg _ (List.getElem_mem hi)
    rw [e]
    exact k g h1 h2 H' a b)
def spGoal : Sp := fun vs H Q _ => ∃ (p q lw : Addr) (ws : List Str) (at_ : Nat) (s : Int), vs = [.ref p, .ref lw, .int at_] ∧ Pen H p q s ∧ s + 30 < 1099511627776 ∧ hid [p, q] H lw = some (.lst (ws.map V.str)) ∧ Wds ws ∧ at_ < ws.length ∧ ws.length ≤ 8 ∧
  ∀ (g : Nat) s' H', g < ws.length → (¬ Lk (wAt ws at_) → Lk (wAt ws g) ∨ (0 < at_ ∧ at_ < g)) → s ≤ s' → s' ≤ s + 30 → Pen H' p q s' → Ex (hid [p, q] H) (hid [p, q] H') → Q (.int g) H'
theorem ok_law_goal (T : Gtx K mg) : FnOk P w K mg base CX0 3 T.f_law_goal T.d_law_goal ["_law_pen", "_law_words_here", "_law_at"] spGoal := by
  refine T.F_law_goal.ok sc_law_goal (fun vs H Q E h => ?_) (fun cdv A outer s H vs Q E hr h => ?_)
  · obtain ⟨p, q, lw, ws, at_, s, rfl, _⟩ := h
    rfl
  · obtain ⟨p, q, lw, ws, at_, z, rfl, hpen, hz, hlw, hW, hat, hn8, k⟩ := h
    refine ⟨_, (pss_cons (ps_set (i := 3) sc_law_goal.nd rfl (Or.inr rfl) (pe_lst (pa_cons pe_str (pa_cons pe_str (pa_cons pe_str (pa_cons pe_str (pa_cons pe_str pa_nil)))))))
      (pss_cons (ps_setLc (tt := tTest (tOp (rIn K false) (tOp (rIxL K) (tVar 1) (tVar 5)) (tVar 3))) (i := 4) rfl sc_law_goal.nd rfl rfl (sw_true rfl rfl rfl (by decide +kernel)) (pi_range1 (by rfl) T.z_range (pa_cons (pe_callB call_len_seq (by rfl) T.z_len (by decide +kernel) (pa_cons (pv 1) pa_nil)) pa_nil)) (blkOk_by (own := [("_law_spot", 5)]) (N := ["_law_pen", "_law_words_here", "_law_at", "_law_looks", "_law_spots", "_law_spot", "_law_ends", "_law_near"]) (sc := defScope s_law_goal) (by decide +kernel)) (fun _ _ _ _ _ => (pg_name (i := 5) sc_law_goal.nd rfl (Or.inl rfl))) (fun _ _ _ _ _ => (pts_one (pt_cmpR op_in_seq (pe_ix ix_list (pv 1) (pv 5) (fun _ _ => rfl)) (pv 3) (by rfl)))) (fun _ _ _ _ _ => (pv 5)))
      (pss_cons (ps_if (pt_cmpR op_notIn_seq (pe_ix ix_list (pv 1) (pv 2) (fun _ _ => rfl)) (pv 3) (by rfl))
        (pss_cons (ps_setLc (tt := tTest (tOp rEq (tOp (rIxL K) (tVar 1) (tVar 5)) (tC (.str "cut")))) (i := 6) rfl sc_law_goal.nd rfl rfl (sw_true rfl rfl rfl (by decide +kernel)) (pi_range2 (by rfl) T.z_range (pa_cons (pe_op op_add (pv 2) pe_int) (pa_cons (pe_callB call_len_seq (by rfl) T.z_len (by decide +kernel) (pa_cons (pv 1) pa_nil)) pa_nil))) (blkOk_by (own := [("_law_spot", 5)]) (N := ["_law_pen", "_law_words_here", "_law_at", "_law_looks", "_law_spots", "_law_spot", "_law_ends", "_law_near"]) (sc := defScope s_law_goal) (by decide +kernel)) (fun _ _ _ _ _ => (pg_name (i := 5) sc_law_goal.nd rfl (Or.inl rfl))) (fun _ _ _ _ _ => (pts_one (pt_cmpR op_eq (pe_ix ix_list (pv 1) (pv 5) (fun _ _ => rfl)) pe_str (nomark _)))) (fun _ _ _ _ _ => (pv 5)))
        (Evl.pss_cut (ps_if (PW.pt (pw_and (pt_cmpR op_eq (pe_ix ix_list (pv 1) (pv 2) (fun _ _ => rfl)) pe_str (nomark _)) (pw_and (pt_cmpR (op_neD hr.units) (pv 6) (pe_lst pa_nil) (nomark _)) (pw_and1 (pt_cmpR op_gt (pe_call (ok_law_draw T) (hr.mono (by decide)) rfl T.m_law_draw T.F_law_draw.kp T.b_law_draw .nil pass0 (pa_cons (pv 0) (pa_cons pe_int pa_nil))) pe_int (nomark _))))))
          (pss_one (ps_ret (pe_call (ok_law_pick T) (hr.mono (by decide)) rfl T.m_law_pick T.F_law_pick.kp T.b_law_pick .nil pass0 (pa_cons (pv 0) (pa_cons (pv 6) pa_nil)))))
          pss_nil)
        (Evl.pss_cut (ps_if (pt_cmpR op_gt (pv 2) pe_int (nomark _))
          (pss_one (ps_set (i := 4) sc_law_goal.nd rfl (Or.inl rfl) (pe_op op_cat (pv 4) (pe_op op_rep (pe_lc (tt := tTest (tOp (rIn K true) (tOp (rIxL K) (tVar 1) (tVar 5)) (tVar 3))) rfl sc_law_goal.nd (pi_range2 (by rfl) T.z_range (pa_cons (pe_op op_add (pv 2) pe_int) (pa_cons (pe_callB call_len_seq (by rfl) T.z_len (by decide +kernel) (pa_cons (pv 1) pa_nil)) pa_nil))) (blkOk_by (own := [("_law_spot", 5)]) (N := ["_law_pen", "_law_words_here", "_law_at", "_law_looks", "_law_spots", "_law_spot", "_law_ends", "_law_near"]) (sc := defScope s_law_goal) (by decide +kernel)) (fun _ _ _ _ _ => (pg_name (i := 5) sc_law_goal.nd rfl (Or.inl rfl))) (fun _ _ _ _ _ => (pts_one (pt_cmpR op_notIn_seq (pe_ix ix_list (pv 1) (pv 5) (fun _ _ => rfl)) (pv 3) (by rfl)))) (fun _ _ _ _ _ => (pv 5))) pe_int))))
          pss_nil)
        (pss_one (ps_ret (pe_call (ok_law_pick T) (hr.mono (by decide)) rfl T.m_law_pick T.F_law_pick.kp T.b_law_pick .nil pass0 (pa_cons (pv 0) (pa_cons (pv 4) pa_nil))))))))
        pss_nil)
      (pss_cons (ps_setLc (tt := tTest (tOp (rIn K false) (tOp (rIxL K) (tVar 1) (tVar 5)) (tTup (tCons (tC (.str "skip")) (tCons (tC (.str "upto")) tNil))))) (i := 7) rfl sc_law_goal.nd rfl rfl (sw_true rfl rfl rfl (by decide +kernel)) (pi_range1 (by rfl) T.z_range (pa_cons (pe_callB call_len_seq (by rfl) T.z_len (by decide +kernel) (pa_cons (pv 1) pa_nil)) pa_nil)) (blkOk_by (own := [("_law_spot", 5)]) (N := ["_law_pen", "_law_words_here", "_law_at", "_law_looks", "_law_spots", "_law_spot", "_law_ends", "_law_near"]) (sc := defScope s_law_goal) (by decide +kernel)) (fun _ _ _ _ _ => (pg_name (i := 5) sc_law_goal.nd rfl (Or.inl rfl))) (fun _ _ _ _ _ => (pts_one (pt_cmpR op_in_seq (pe_ix ix_list (pv 1) (pv 5) (fun _ _ => rfl)) (pe_tup (pa_cons pe_str (pa_cons pe_str pa_nil))) (by rfl)))) (fun _ _ _ _ _ => (pv 5)))
      (Evl.pss_cut (ps_if (pt_cmpR op_in_seq (pe_ix ix_list (pv 1) (pv 2) (fun _ _ => rfl)) (pe_tup (pa_cons pe_str (pa_cons pe_str pa_nil))) (by rfl))
        (pss_one (ps_setLc (tt := tTest (tOp (rIn K false) (tOp (rIxL K) (tVar 1) (tVar 5)) (tTup (tCons (tC (.str "cut")) (tCons (tC (.str "take")) tNil))))) (i := 7) rfl sc_law_goal.nd rfl rfl (sw_true rfl rfl rfl (by decide +kernel)) (pi_range1 (by rfl) T.z_range (pa_cons (pe_callB call_len_seq (by rfl) T.z_len (by decide +kernel) (pa_cons (pv 1) pa_nil)) pa_nil)) (blkOk_by (own := [("_law_spot", 5)]) (N := ["_law_pen", "_law_words_here", "_law_at", "_law_looks", "_law_spots", "_law_spot", "_law_ends", "_law_near"]) (sc := defScope s_law_goal) (by decide +kernel)) (fun _ _ _ _ _ => (pg_name (i := 5) sc_law_goal.nd rfl (Or.inl rfl))) (fun _ _ _ _ _ => (pts_one (pt_cmpR op_in_seq (pe_ix ix_list (pv 1) (pv 5) (fun _ _ => rfl)) (pe_tup (pa_cons pe_str (pa_cons pe_str pa_nil))) (by rfl)))) (fun _ _ _ _ _ => (pv 5))))
        pss_nil)
      (Evl.pss_cut (ps_if (PW.pt (pw_or (pt_cmpR (op_eqD hr.units) (pv 7) (pe_lst pa_nil) (nomark _)) (pw_or1 (pt_cmpR op_eq (pe_call (ok_law_draw T) (hr.mono (by decide)) rfl T.m_law_draw T.F_law_draw.kp T.b_law_draw .nil pass0 (pa_cons (pv 0) (pa_cons pe_int pa_nil))) pe_int (nomark _)))))
        (pss_one (ps_set (i := 7) sc_law_goal.nd rfl (Or.inl rfl) (pe_op op_cat (pe_listRg rfl (by rfl) T.z_list (prg_1 (by rfl) T.z_range (pe_callB call_len_seq (by rfl) T.z_len (by decide +kernel) (pa_cons (pv 1) pa_nil)))) (pe_op op_rep (pe_listRg rfl (by rfl) T.z_list (prg_2 (by rfl) T.z_range (pe_op op_add (pv 2) pe_int) (pe_callB call_len_seq (by rfl) T.z_len (by decide +kernel) (pa_cons (pv 1) pa_nil)))) pe_int))))
        pss_nil)
      (pss_one (ps_ret (pe_call (ok_law_pick T) (hr.mono (by decide)) rfl T.m_law_pick T.F_law_pick.kp T.b_law_pick .nil pass0 (pa_cons (pv 0) (pa_cons (pv 7) pa_nil))))))))))), ?_⟩
    have hS : start ["_law_pen", "_law_words_here", "_law_at", "_law_looks", "_law_spots", "_law_spot", "_law_ends", "_law_near"] [V.ref p, .ref lw, .int at_] = [some (.ref p), some (.ref lw), some (.int at_), none, none, none, none, none] := rfl
    rw [hS]
    have hlw0 := hid_get hlw
    have hml : (ws.map V.str).length = ws.length := List.length_map _
    walk_at "rd"
    refine ⟨by show 5 ≤ sizeLine; decide, fun lk nlk => ?_⟩
    walk_at "rd"
    have pen1 := hpen.ex (Ex.new (o := .lst (lk5.map V.str)) nlk)
    have e1 : Ex H (upd H lk (.lst (lk5.map V.str))) := Ex.new nlk
    have hlk : upd H lk (.lst (lk5.map V.str)) lk = some (.lst (lk5.map V.str)) := upd_same
    have hw1 := e1 _ _ hlw0
    generalize hG : upd H lk (.lst (lk5.map V.str)) = H1 at pen1 e1 hlk hw1
    have hG' : upd H lk (HO.lst [V.str (Str.ofString "take"), V.str (Str.ofString "case"), V.str (Str.ofString "rest"), V.str (Str.ofString "cap"), V.str (Str.ofString "jump")]) = H1 := hG
    rw [hG']
    refine Evl.el_lcR1 (n := (ws.length : Int)) (fun i => decide (wAt ws i ∈ lk5)) (fun i => .int (i : Int)) (ea_cons (ev_is (ev_len (ev_var rfl) (sq_of hw1)) (by rw [hml])) ea_nil) ⟨by omega, by omega⟩ (by intro x; rfl) (fun i H2 e2 hi => et_test (ev_op (ev_w (ev_var rfl) (ev_var rfl) rfl (sq_of (e2 _ _ hw1)) (by omega)) (ev_var rfl) (rv_inS (σ := []) (.inl (sq_of (e2 _ _ hlk)))))) (fun i H2 e2 hi _ => ev_var rfl) _ (Ex.refl _) _ (fun sp H2 nsp e2 hsp => ?_)
    walk_at "rd"
    refine Rd.i_ixL (sq_of (e2 _ _ hw1)) (atI_nat (wAt_get hat)) ?_
    walk_at "rd"
    refine i_ninS (.inl (sq_of (e2 _ _ hlk))) ?_
    walk_at "rd"
    have hln : lk ∉ [p, q] := hpen.new nlk
    have hspn : sp ∉ [p, q] := pen1.new nsp
    have spAll : AllG ws.length (fun g => Lk (wAt ws g)) (given (ws.length : Int).toNat (fun i => decide (wAt ws i ∈ lk5)) fun i => .int (i : Int)) := allG_given0 fun i hi hf => ⟨by omega, of_decide_eq_true hf⟩
    have spPos : 0 < (given (ws.length : Int).toNat (fun i => decide (wAt ws i ∈ lk5)) fun i => V.int (i : Int)).length := by
      obtain ⟨i, hi, hk⟩ : ∃ i, i < ws.length ∧ Lk (wAt ws i) := by
        rcases hW.beg with ⟨x, hx, hk⟩ | ⟨_, _, x, hx, hk⟩
        · exact ⟨0, by omega, by rw [wAt_some hx]; exact hk⟩
        · exact ⟨1, (List.getElem?_eq_some_iff.mp hx).1, by rw [wAt_some hx]; exact hk⟩
      obtain ⟨j, _, _, _, h⟩ := given_mem (n := (ws.length : Int).toNat) (f := fun i => decide (wAt ws i ∈ lk5)) (v := fun i => V.int (i : Int)) (i := i) (by omega) (decide_eq_true hk)
      exact h
    have spLen := given_len (ws.length : Int).toNat (fun i => decide (wAt ws i ∈ lk5)) fun i => V.int (i : Int)
    generalize (given (ws.length : Int).toNat (fun i => decide (wAt ws i ∈ lk5)) fun i => V.int (i : Int)) = spots at hsp spAll spPos spLen
    refine Rd.ite_nd (fun hk => ?_) (fun hk => ?_)
    · walk_at "rd"
      have hk0 : Lk (wAt ws at_) := hk
      refine Evl.q_asgL (xs := given (ws.length : Int).toNat (fun i => inV (.str (wAt ws i)) [.str "skip", .str "upto"]) fun i => .int (i : Int)) (Evl.el_lcR1 (n := (ws.length : Int)) _ _ (ea_cons (ev_is (ev_len (ev_var rfl) (sq_of (e2 _ _ hw1))) (by rw [hml])) ea_nil) ⟨by omega, by omega⟩ (by intro x; rfl) (fun i H3 e3 hi => et_test (ev_inU (ev_w (ev_var rfl) (ev_var rfl) rfl (sq_of (e3 _ _ (e2 _ _ hw1))) (by omega)) (eu_tup (ea_cons ev_c (ea_cons ev_c ea_nil)) (by decide)) rfl rfl)) (fun i H3 e3 hi _ => ev_var rfl)) (fun nr H3 nnr e3 hnr => ?_)
      have nrAll : AllG ws.length (fun _ => True) (given (ws.length : Int).toNat (fun i => inV (.str (wAt ws i)) [.str "skip", .str "upto"]) fun i => .int (i : Int)) := allG_given0 fun i hi hf => ⟨by omega, trivial⟩
      have nrLen := given_len (ws.length : Int).toNat (fun i => inV (.str (wAt ws i)) [.str "skip", .str "upto"]) fun i => V.int (i : Int)
      generalize (given (ws.length : Int).toNat (fun i => inV (.str (wAt ws i)) [.str "skip", .str "upto"]) fun i => V.int (i : Int)) = near at hnr nrAll nrLen
      have pen3 := (pen1.ex e2).ex e3
      have nrn : nr ∉ [p, q] := (pen1.ex e2).new nnr
      have ex3 : Ex (hid [p, q] H1) (hid [p, q] H3) := (hid_ex e2).trans (hid_ex e3)
      have hwH : ∀ H', Ex (hid [p, q] H1) (hid [p, q] H') → H' lw = some (.lst (ws.map V.str)) := fun H' e => hid_get (e _ _ (hid_iff.mpr ⟨nin hlw, hw1⟩))
      refine Evl.q_cut (M := NMid p q lw lk ws at_ z false H1) ?_ (fun σ H4 hM => ?_)
      · walk_at "rd"
        refine Rd.i_ixL (sq_of (hwH _ ex3)) (atI_nat (wAt_get hat)) ?_
        walk_at "rd"
        refine ⟨by show 2 ≤ sizeLine; decide, fun t1 nt1 => ?_⟩
        refine i_inS (ns := ["case", "jump"]) (.inr (SqT.of upd_same)) ?_
        have e4 := Ex.new (o := .tup [.str "case", .str "jump"]) nt1
        walk_at "rd"
        refine Rd.ite_d (fun _ => ?_) (fun _ => ?_)
        · refine Evl.s_asgL (xs := given (ws.length : Int).toNat (fun i => inV (.str (wAt ws i)) [.str "cut", .str "take"]) fun i => .int (i : Int)) (Evl.el_lcR1 (n := (ws.length : Int)) _ _ (ea_cons (ev_is (ev_len (ev_var rfl) (sq_of (e4 _ _ (hwH _ ex3)))) (by rw [hml])) ea_nil) ⟨by omega, by omega⟩ (by intro x; rfl) (fun i H3 e3 hi => et_test (ev_inU (ev_w (ev_var rfl) (ev_var rfl) rfl (sq_of (e3 _ _ (e4 _ _ (hwH _ ex3)))) (by omega)) (eu_tup (ea_cons ev_c (ea_cons ev_c ea_nil)) (by decide)) rfl rfl)) (fun i H3 e3 hi _ => ev_var rfl)) (fun n2 H5 nn2 e5 hn2 => ?_)
          walk_at "rd"
          exact ⟨n2, _, z, _, _, _, rfl, hid_iff.mpr ⟨(pen3.ex e4).new nn2, hn2⟩, allG_given0 fun i hi hf => ⟨by omega, trivial⟩, fun h => (Bool.false_ne_true h).elim, Nat.le_trans (given_len _ _ _) (by omega), (pen3.ex e4).ex e5, by omega, by omega, ex3.trans ((hid_ex e4).trans (hid_ex e5))⟩
        · walk_at "rd"
          exact ⟨nr, near, z, _, _, _, rfl, hid_iff.mpr ⟨nrn, e4 _ _ hnr⟩, nrAll, fun h => (Bool.false_ne_true h).elim, by omega, pen3.ex e4, by omega, by omega, ex3.trans (hid_ex e4)⟩
      obtain ⟨n4, xs4, s4, u4, u5, u6, rfl, hn4, all4, _, len4, pen4, lo4, hi4, ex4⟩ := hM
      obtain ⟨ns4, rfl⟩ := allG_ints all4
      refine Evl.q_cut (M := fun σ H' => ∃ s', NMid p q lw lk ws at_ s' true H1 σ H' ∧ z ≤ s' ∧ s' ≤ z + 6) ?_ (fun σ H5 hM => ?_)
      · walk_at "rd"
        refine ⟨Nat.zero_le _, fun t nt => ?_⟩
        have g1 := Ex.new (o := .lst []) nt
        have ex5 := ex4.trans (hid_ex g1)
        have pen5 := pen4.ex g1
        refine i_eqNil (g1 _ _ (hid_get hn4)) upd_same ?_
        walk_at "rd"
        refine Rd.ite_d (fun h0 => ?_) (fun h0 => ?_)
        · walk_at "rd"
          refine Rd.i_len (SqL.of (hwH _ ex5)) ?_
          walk_at "rd"
          rw [hml]
          refine ⟨RgOk.of_le (by omega) (by omega) (by omega) (by omega), fun b1 nb1 => ?_⟩
          have f1 := Ex.new (o := .lst (rgV 0 (ws.length : Int))) nb1
          walk_at "rd"
          refine Rd.i_len (SqL.of (f1 _ _ (hwH _ ex5))) ?_
          walk_at "rd"
          rw [hml]
          refine ⟨RgOk.of_le (by omega) (by omega) (by omega) (by omega), fun b2 nb2 => ?_⟩
          have f2 := Ex.new (o := .lst (rgV ((at_ : Int) + 1) (ws.length : Int))) nb2
          walk_at "rd"
          refine i_rep upd_same (by decide) (by decide) (by rw [rgV_length]; omega) (fun b3 nb3 => ?_)
          have f3 := Ex.new (o := .lst (List.replicate (Int.toNat 2) (rgV ((at_ : Int) + 1) (ws.length : Int))).flatten) nb3
          have lnR : (List.replicate (Int.toNat 2) (rgV ((at_ : Int) + 1) (ws.length : Int))).flatten.length ≤ 16 := by
            show ((rgV ((at_ : Int) + 1) (ws.length : Int)) ++ ((rgV ((at_ : Int) + 1) (ws.length : Int)) ++ [])).length ≤ 16
            rw [List.append_nil, List.length_append, rgV_length]
            omega
          walk_at "rd"
          refine Rd.i_catL (f3 _ _ (f2 _ _ upd_same)) upd_same (Nat.le_trans (show _ ≤ 100 by rw [rgV_length]; omega) (by decide)) (fun b4 nb4 => ?_)
          have f4 := Ex.new (o := .lst (rgV 0 (ws.length : Int) ++ (List.replicate (Int.toNat 2) (rgV ((at_ : Int) + 1) (ws.length : Int))).flatten)) nb4
          walk_at "rd"
          exact ⟨s4, ⟨b4, _, s4, _, _, _, rfl, hid_iff.mpr ⟨((pen5.ex f1).ex f2 |>.ex f3).new nb4, upd_same⟩, ((allG_rg (n := ws.length) (by omega) (by omega)).mono fun _ _ => trivial).app ((allG_rg (n := ws.length) (a := (at_ : Int) + 1) (by omega) (by omega)).rep.mono fun _ _ => trivial), fun _ => by rw [List.length_append, rgV_length]; omega, by rw [List.length_append, rgV_length]; omega, (((pen5.ex f1).ex f2).ex f3).ex f4, by omega, by omega, (ex5).trans (hid_ex (((f1.trans f2).trans f3).trans f4))⟩, by omega, by omega⟩
        · walk_at "rd"
          refine i_draw pen5 (by omega) (by omega) (by omega) (fun r H6 lo6 hi6 pen6 b6 => ?_)
          have ex6 := ex5.trans b6.ex
          walk_at "rd"
          refine Rd.ite_vi (fun _ => ?_) (fun _ => ?_)
          · walk_at "rd"
            refine Rd.i_len (SqL.of (hwH _ ex6)) ?_
            walk_at "rd"
            rw [hml]
            refine ⟨RgOk.of_le (by omega) (by omega) (by omega) (by omega), fun b1 nb1 => ?_⟩
            have f1 := Ex.new (o := .lst (rgV 0 (ws.length : Int))) nb1
            walk_at "rd"
            refine Rd.i_len (SqL.of (f1 _ _ (hwH _ ex6))) ?_
            walk_at "rd"
            rw [hml]
            refine ⟨RgOk.of_le (by omega) (by omega) (by omega) (by omega), fun b2 nb2 => ?_⟩
            have f2 := Ex.new (o := .lst (rgV ((at_ : Int) + 1) (ws.length : Int))) nb2
            walk_at "rd"
            refine i_rep upd_same (by decide) (by decide) (by rw [rgV_length]; omega) (fun b3 nb3 => ?_)
            have f3 := Ex.new (o := .lst (List.replicate (Int.toNat 2) (rgV ((at_ : Int) + 1) (ws.length : Int))).flatten) nb3
            have lnR : (List.replicate (Int.toNat 2) (rgV ((at_ : Int) + 1) (ws.length : Int))).flatten.length ≤ 16 := by
              show ((rgV ((at_ : Int) + 1) (ws.length : Int)) ++ ((rgV ((at_ : Int) + 1) (ws.length : Int)) ++ [])).length ≤ 16
              rw [List.append_nil, List.length_append, rgV_length]
              omega
            walk_at "rd"
            refine Rd.i_catL (f3 _ _ (f2 _ _ upd_same)) upd_same (Nat.le_trans (show _ ≤ 100 by rw [rgV_length]; omega) (by decide)) (fun b4 nb4 => ?_)
            have f4 := Ex.new (o := .lst (rgV 0 (ws.length : Int) ++ (List.replicate (Int.toNat 2) (rgV ((at_ : Int) + 1) (ws.length : Int))).flatten)) nb4
            walk_at "rd"
            exact ⟨(s4 + 1), ⟨b4, _, (s4 + 1), _, _, _, rfl, hid_iff.mpr ⟨((pen6.ex f1).ex f2 |>.ex f3).new nb4, upd_same⟩, ((allG_rg (n := ws.length) (by omega) (by omega)).mono fun _ _ => trivial).app ((allG_rg (n := ws.length) (a := (at_ : Int) + 1) (by omega) (by omega)).rep.mono fun _ _ => trivial), fun _ => by rw [List.length_append, rgV_length]; omega, by rw [List.length_append, rgV_length]; omega, (((pen6.ex f1).ex f2).ex f3).ex f4, by omega, by omega, (ex6).trans (hid_ex (((f1.trans f2).trans f3).trans f4))⟩, by omega, by omega⟩
          · walk_at "rd"
            exact ⟨s4, ⟨n4, _, s4 + 1, _, _, _, rfl, b6.ex _ _ (hid_ex g1 _ _ hn4), all4, fun _ => by rw [List.length_map]; exact List.length_pos_iff.mpr h0, len4, pen6, by omega, by omega, ex6⟩, by omega, by omega⟩
      · obtain ⟨z5, ⟨n5, xs5, s5, u4', u5', u6', rfl, hn5, all5, pos5, len5, pen5, lo5, hi5, ex5⟩, z51, z52⟩ := hM
        walk_at "rd"
        refine i_pickG pen5 (by omega) hn5 (pos5 rfl) len5 all5 (fun g hg _ H6 pen6 b6 => ?_)
        walk_at "rd"
        exact k g _ _ hg (fun h => (h hk0).elim) (by omega) (by omega) pen6 ((hid_ex e1).trans (ex5.trans b6.ex))
    · walk_at "rd"
      refine Evl.q_asgL (xs := given ((ws.length : Int) - ((at_ : Int) + 1)).toNat (fun i => decide (V.str (wAt ws (at_ + 1 + i)) = V.str (Str.ofString "cut"))) (fun i => .int ((at_ : Int) + 1 + (i : Int)))) (el_lcR2 _ _ (ea_cons (ev_op (ev_var rfl) ev_c (rv_I0)) (ea_cons (ev_is (ev_len (ev_var rfl) (sq_of (e2 _ _ hw1))) (by rw [hml])) ea_nil)) ⟨by omega, by omega⟩ ⟨by omega, by omega⟩ (by intro x; rfl) (fun i H3 e3 hi => et_test (ev_op (ev_w (i := at_ + 1 + i) (ev_var rfl) (ev_var rfl) (by omega) (sq_of (e3 _ _ (e2 _ _ hw1))) (by omega)) ev_c (rv_eq rfl))) (fun i H3 e3 hi _ => ev_var rfl)) (fun pe H3 npe e3 hpe => ?_)
      have enAll : AllG ws.length (fun g => at_ < g) (given ((ws.length : Int) - ((at_ : Int) + 1)).toNat (fun i => decide (V.str (wAt ws (at_ + 1 + i)) = V.str (Str.ofString "cut"))) fun i => .int ((at_ : Int) + 1 + (i : Int))) := by
        have := allG_given (n := ws.length) (a := at_ + 1) (m := ((ws.length : Int) - ((at_ : Int) + 1)).toNat) (f := fun i => decide (V.str (wAt ws (at_ + 1 + i)) = V.str (Str.ofString "cut"))) (P := fun g => at_ < g) (fun i hi _ => ⟨by omega, by omega⟩)
        exact this
      have enLen := given_len ((ws.length : Int) - ((at_ : Int) + 1)).toNat (fun i => decide (V.str (wAt ws (at_ + 1 + i)) = V.str (Str.ofString "cut"))) fun i => V.int ((at_ : Int) + 1 + (i : Int))
      generalize (given ((ws.length : Int) - ((at_ : Int) + 1)).toNat (fun i => decide (V.str (wAt ws (at_ + 1 + i)) = V.str (Str.ofString "cut"))) fun i => V.int ((at_ : Int) + 1 + (i : Int))) = ends at hpe enAll enLen
      have hnk : ¬ Lk (wAt ws at_) := hk
      have pen3 := (pen1.ex e2).ex e3
      have ex3 : Ex (hid [p, q] H1) (hid [p, q] H3) := (hid_ex e2).trans (hid_ex e3)
      have hwH : ∀ H', Ex (hid [p, q] H1) (hid [p, q] H') → H' lw = some (.lst (ws.map V.str)) := fun H' e => hid_get (e _ _ (hid_iff.mpr ⟨nin hlw, hw1⟩))
      have hkH : ∀ H', Ex (hid [p, q] H1) (hid [p, q] H') → H' lk = some (.lst (lk5.map V.str)) := fun H' e => hid_get (e _ _ (hid_iff.mpr ⟨hln, hlk⟩))
      have hspH : ∀ H', Ex (hid [p, q] H2) (hid [p, q] H') → hid [p, q] H' sp = some (.lst spots) := fun H' e => e _ _ (hid_iff.mpr ⟨hspn, hsp⟩)
      have hpe' : hid [p, q] H3 pe = some (.lst ends) := hid_iff.mpr ⟨(pen1.ex e2).new npe, hpe⟩
      obtain ⟨nsE, hnsE⟩ := allG_ints enAll
      have spP : AllG ws.length (fun g => Lk (wAt ws g) ∨ (0 < at_ ∧ at_ < g)) spots := spAll.mono fun g h => .inl h
      refine Evl.q_cut (M := GMid p q lw lk ws at_ z H1 100 (fun g => Lk (wAt ws g) ∨ (0 < at_ ∧ at_ < g))) ?_ (fun σ H4 hM => ?_)
      · walk_at "rd"
        refine Rd.i_ixL (sq_of (hwH _ ex3)) (atI_nat (wAt_get hat)) ?_
        walk_at "rd"
        refine Rd.ite_d (fun hsk => ?_) (fun _ => ?_)
        · walk_at "rd"
          refine ⟨Nat.zero_le _, fun t nt => ?_⟩
          have g1 := Ex.new (o := .lst []) nt
          refine i_neNil (ns := nsE) (by rw [← hnsE]; exact g1 _ _ hpe) upd_same ?_
          walk_at "rd"
          refine Rd.ite_nd (fun h0 => ?_) (fun h0 => ?_)
          · walk_at "rd"
            exact ⟨sp, spots, z, _, _, _, rfl, (hid_ex g1) _ _ (hspH _ (hid_ex e3)), spP, spPos, by omega, pen3.ex g1, by omega, by omega, ex3.trans (hid_ex g1)⟩
          · walk_at "rd"
            refine i_draw (pen3.ex g1) (by omega) (by omega) (by omega) (fun r H5 lo5 hi5 pen5 b5 => ?_)
            walk_at "rd"
            refine Rd.ite_d (fun _ => ?_) (fun _ => ?_)
            · walk_at "rd"
              refine i_pickG pen5 (by omega) (b5.ex _ _ (hid_ex g1 _ _ hpe')) (by rw [hnsE, List.length_map]; exact List.length_pos_iff.mpr h0) (by omega) enAll (fun g hg hgt H6 pen6 b6 => ?_)
              walk_at "rd"
              refine k g _ _ hg (fun _ => .inr ⟨?_, hgt⟩) (by omega) (by omega) pen6 ((hid_ex e1).trans ((ex3.trans (hid_ex g1)).trans (b5.ex.trans b6.ex)))
              apply Nat.pos_of_ne_zero
              intro e0
              subst e0
              have hskip : wAt ws 0 = Str.ofString "skip" := V.str.inj hsk
              rcases hW.beg with ⟨x, hx, hkx⟩ | ⟨_, ⟨x, hx, hkx⟩, _⟩
              · exact hnk (by rw [wAt_some hx]; exact hkx)
              · rw [wAt_some hx] at hskip
                rw [hskip] at hkx
                exact absurd hkx (by decide +kernel)
            · walk_at "rd"
              exact ⟨sp, spots, z + 1, _, _, _, rfl, b5.ex _ _ ((hid_ex g1) _ _ (hspH _ (hid_ex e3))), spP, spPos, by omega, pen5, by omega, by omega, (ex3.trans (hid_ex g1)).trans b5.ex⟩
        · walk_at "rd"
          exact ⟨sp, spots, z, _, _, _, rfl, hspH _ (hid_ex e3), spP, spPos, by omega, pen3, by omega, by omega, ex3⟩
      obtain ⟨s4, xs4, z4, u5, u6, u7, rfl, hs4, all4, pos4, len4, pen4, lo4, hi4, ex4⟩ := hM
      refine Evl.q_cut (M := fun σ H' => ∃ n, xs4.length ≤ n ∧ GMid p q lw lk ws at_ z H1 500 (fun g => Lk (wAt ws g) ∨ (0 < at_ ∧ at_ < g)) σ H') ?_ (fun σ H5 hM => ?_)
      · walk_at "rd"
        refine Rd.ite_d (fun hpos => ?_) (fun _ => ?_)
        · walk_at "rd"
          refine el_lcR2 (m := (at_ : Int) + 1) (n := (ws.length : Int)) (fun i => !decide (wAt ws (at_ + 1 + i) ∈ lk5)) (fun i => .int ((at_ : Int) + 1 + (i : Int))) (ea_cons (ev_op (ev_var rfl) ev_c (rv_I0)) (ea_cons (ev_is (ev_len (ev_var rfl) (sq_of (hwH _ ex4))) (by rw [hml])) ea_nil)) ⟨by omega, by omega⟩ ⟨by omega, by omega⟩ (by intro x; rfl) (fun i H3 e3 hi => et_test (ev_op (ev_w (i := at_ + 1 + i) (ev_var rfl) (ev_var rfl) (by omega) (sq_of (e3 _ _ (hwH _ ex4))) (by omega)) (ev_var rfl) (rv_ninS (σ := []) (.inl (sq_of (e3 _ _ (hkH _ ex4))))))) (fun i H3 e3 hi _ => ev_var rfl) _ (Ex.refl _) _ (fun c1 H6 nc1 e6 hc1 => ?_)
          have cAll := allG_given (n := ws.length) (a := at_ + 1) (m := ((ws.length : Int) - ((at_ : Int) + 1)).toNat) (f := fun i => !decide (wAt ws (at_ + 1 + i) ∈ lk5)) (P := fun g => Lk (wAt ws g) ∨ (0 < at_ ∧ at_ < g)) (fun i hi _ => ⟨by omega, .inr ⟨by omega, by omega⟩⟩)
          have cLen := given_len ((ws.length : Int) - ((at_ : Int) + 1)).toNat (fun i => !decide (wAt ws (at_ + 1 + i) ∈ lk5)) fun i => V.int ((at_ : Int) + 1 + (i : Int))
          have cAll' : AllG ws.length (fun g => Lk (wAt ws g) ∨ (0 < at_ ∧ at_ < g)) (given ((ws.length : Int) - ((at_ : Int) + 1)).toNat (fun i => !decide (wAt ws (at_ + 1 + i) ∈ lk5)) fun i => V.int ((at_ : Int) + 1 + (i : Int))) := cAll
          generalize (given ((ws.length : Int) - ((at_ : Int) + 1)).toNat (fun i => !decide (wAt ws (at_ + 1 + i) ∈ lk5)) fun i => V.int ((at_ : Int) + 1 + (i : Int))) = cs at hc1 cAll' cLen
          walk_at "rd"
          have cl2 : cs.length ≤ 8 := by omega
          refine i_rep hc1 (by decide) (by decide) (by omega) (fun c2 nc2 => ?_)
          have f2 := Ex.new (o := .lst (List.replicate (Int.toNat 2) cs).flatten) nc2
          have lnR : (List.replicate (Int.toNat 2) cs).flatten.length ≤ 16 := by
            show (cs ++ (cs ++ [])).length ≤ 16
            rw [List.append_nil, List.length_append]
            omega
          walk_at "rd"
          refine Rd.i_catL (f2 _ _ (e6 _ _ (hid_get hs4))) upd_same (Nat.le_trans (show _ ≤ 1000 by omega) (by decide)) (fun c3 nc3 => ?_)
          have f3 := Ex.new (o := .lst (xs4 ++ (List.replicate (Int.toNat 2) cs).flatten)) nc3
          walk_at "rd"
          exact ⟨_, Nat.le_refl _, c3, _, z4, _, _, _, rfl, hid_iff.mpr ⟨((pen4.ex e6).ex f2).new nc3, upd_same⟩, all4.app cAll'.rep, by rw [List.length_append]; omega, by rw [List.length_append]; omega, ((pen4.ex e6).ex f2).ex f3, lo4, hi4, ex4.trans (hid_ex ((e6.trans f2).trans f3))⟩
        · walk_at "rd"
          exact ⟨_, Nat.le_refl _, s4, xs4, z4, _, _, _, rfl, hs4, all4, pos4, by omega, pen4, lo4, hi4, ex4⟩
      obtain ⟨_, _, s5, xs5, z5, u5', u6', u7', rfl, hs5, all5, pos5, len5, pen5, lo5, hi5, ex5⟩ := hM
      walk_at "rd"
      refine i_pickG pen5 (by omega) hs5 pos5 len5 all5 (fun g hg hgP H6 pen6 b6 => ?_)
      walk_at "rd"
      exact k g _ _ hg (fun _ => hgP) (by omega) (by omega) pen6 ((hid_ex e1).trans (ex5.trans b6.ex))
end
end K02

namespace K02
open PySem L2
local macro_rules | `(tactic| walk_at "rd1") => `(tactic| first
  | (with_reducible refine Rd.i_seq ?_) | (with_reducible refine Rd.i_asg ?_) | (with_reducible refine Rd.i_name ?_) | (with_reducible refine Rd.i_nx ?_) | (with_reducible refine Rd.i_rt ?_) | (with_reducible refine Rd.i_next ?_) | (with_reducible refine Rd.i_ct ?_) | (with_reducible refine Rd.i_bk ?_)
  | (with_reducible refine Rd.i_ret ?_) | (with_reducible refine Rd.i_drop ?_) | (with_reducible refine Rd.i_ifS ?_) | (with_reducible refine Rd.i_sub ?_)
  | (with_reducible refine Rd.i_var (by with_unfolding_all exact rfl) ?_) | (with_reducible refine Rd.i_c ?_) | (with_reducible refine Rd.i_op ?_) | (with_reducible refine Rd.i_un ?_)
  | (with_reducible refine Rd.i_rI0 ?_) | (with_reducible refine Rd.i_rI (by with_unfolding_all first | omega | exact Rd.mulL (by omega) (by omega) | exact Rd.mulR (by omega) (by omega) | decide | (refine ⟨?_, ?_⟩ <;> omega) | (refine ⟨?_, ?_, ?_⟩ <;> omega)) ?_)
  | (with_reducible refine Rd.i_rEq (by with_unfolding_all exact rfl) ?_) | (with_reducible refine Rd.i_rNe (by with_unfolding_all exact rfl) ?_)
  | (with_reducible refine Rd.i_test ?_) | (with_reducible refine Rd.i_tB ?_) | (with_reducible refine Rd.i_bl ?_) | (with_reducible refine Rd.i_and ?_) | (with_reducible refine Rd.i_or ?_) | (with_reducible refine Rd.i_not ?_) | (with_reducible refine Rd.i_notV ?_) | (with_reducible refine Rd.i_andV ?_) | (with_reducible refine Rd.i_orV ?_) | (with_reducible refine Rd.i_if ?_) | (with_reducible refine Rd.i_chain ?_)
  | (with_reducible refine Rd.i_call ?_) | (with_reducible refine Rd.i_nil ?_) | (with_reducible refine Rd.i_cons ?_) | (with_reducible refine Rd.i_cb ?_) | (with_reducible refine Rd.i_bm ?_) | (with_reducible refine Rd.i_bm0 ?_) | (with_reducible refine Rd.i_tup ?_) | (with_reducible refine Rd.i_lst ?_)
  | (with_reducible refine Rd.i_int1 ?_) | (with_reducible refine Rd.i_intb ?_) | (with_reducible refine Rd.i_max ?_)
  | (with_reducible refine Rd.i_ixL (SqL.of (by first | assumption | exact upd_same)) (by with_unfolding_all first | exact rfl | exact atI_nat rfl) ?_) | (with_reducible refine Rd.i_ixT (SqT.of (by first | assumption | exact upd_same)) (by with_unfolding_all exact rfl) ?_)
  | (with_reducible refine Rd.i_setL (by first | assumption | exact upd_same) (by with_unfolding_all exact rfl) ?_)
  | (with_reducible refine Xv.i_mkV ?_) | (with_reducible refine Xv.i_xat ?_)
  | (with_reducible refine Rd.i_yes ?_) | (with_reducible refine Rd.i_m1 ?_) | (with_reducible refine Rd.i_m0 ?_) | (with_reducible refine Rd.ite_T ?_) | (with_reducible refine Rd.ite_F ?_) | (with_reducible refine Rd.i_forR ?_) | (with_reducible refine Rd.i_forL ?_) | (with_reducible refine Rd.i_forT ?_)
  | (with_reducible refine Hd.i_rU ?_) | (with_reducible refine Hd.i_pcons ?_) | (with_reducible refine Hd.i_pnil ?_) | (with_reducible refine Hd.i_disp ?_) | (with_reducible refine Hd.i_dget ?_)
  | (with_reducible refine Hd.i_lstRg ?_) | (with_reducible refine Hd.i_rg1 ?_) | (with_reducible refine Hd.i_rg2 ?_) | (with_reducible refine Hd.i_ex1 ?_) | (with_reducible refine Hd.i_ex2 ?_)
  | (with_reducible refine Rd.i_gtup (SqT.of (by assumption)) (by with_unfolding_all exact rfl) ?_) | (with_reducible refine Rd.i_gcons ?_) | (with_reducible refine Rd.i_gnil ?_))
local macro_rules | `(tactic| walk_at "rd") => `(tactic| repeat walk_at "rd1")
section
variable {P : Program} {w : World} {K : PySem.W.Frag} {mg : Str → Option Value} {base : Heap}
open Evl Hd
theorem i_pickI {p q r : Addr} {s : Int} {ns : List Int} {H : Hp} {Q : VK} {E : XK} (hp : Pen H p q s) (hs : s < 1099511627776) (hr : hid [p, q] H r = some (.lst (ns.map V.int))) (l0 : 0 < ns.length) (l1 : ns.length < 1000000) (k : ∀ x ∈ ns, ∀ H', Pen H' p q (s + 1) → But2 p q H H' → Q (.int x) H') : spPick K ([V.ref p, V.ref r] ++ []) H Q E :=
  i_pick hp hs hr (by rw [List.length_map]; exact l0) (by rw [List.length_map]; exact l1) (fun i hi H' a b => by
    rw [List.getElem_map]
    exact k _ (List.getElem_mem _) H' a b)
/-- where a line of words may go -/
def Gok (ws : List Str) (at_ g : Nat) : Prop := g < ws.length ∧ (¬ Lk (wAt ws at_) → Lk (wAt ws g) ∨ (0 < at_ ∧ at_ < g))
/-- a way as a tuple at hand -/
def WayAt (H : Hp) (ns : List Str) (v : V) (y : Int × Nat) : Prop := ∃ a, v = .ref a ∧ H a = some (.tup [.int y.1, .str (wAt ns y.2)])
theorem WayAt.mono {H H' : Hp} {ns : List Str} {v : V} {y : Int × Nat} (e : Ex H H') (h : WayAt H ns v y) : WayAt H' ns v y := by
  obtain ⟨a, h1, h2⟩ := h
  exact ⟨a, h1, e _ _ h2⟩
abbrev WaysAt (H : Hp) (ns : List Str) : List V → List (Int × Nat) → Prop := Paired (WayAt H ns)
theorem paired_mono {α β : Type} {F G : α → β → Prop} (h : ∀ a b, F a b → G a b) : ∀ {l : List α} {m : List β}, Paired F l m → Paired G l m
  | _, _, .nil => .nil
  | _, _, .cons r t => .cons (h _ _ r) (paired_mono h t)
theorem paired_app {α β : Type} {F : α → β → Prop} : ∀ {l l' : List α} {m m' : List β}, Paired F l m → Paired F l' m' → Paired F (l ++ l') (m ++ m')
  | _, _, _, _, .nil, s => s
  | _, _, _, _, .cons r t, s => .cons r (paired_app t s)
def vals (s t : Int) (m : Nat) : List Int := (List.range m).map fun (k : Nat) => (s + t * (k : Int)).fmod 6
theorem vals5 : ∀ s : _root_.Fin 6, ∀ t ∈ ([1, 5] : List Int), (vals (s.1 : Int) t 5).Nodup := by decide +kernel
theorem vals_nodup {s t : Int} {m : Nat} (hs : 0 ≤ s) (hs6 : s < 6) (ht : t ∈ ([1, 5] : List Int)) (hm : m ≤ 5) : (vals s t m).Nodup := by
  have h := vals5 ⟨s.toNat, by omega⟩ t ht
  have e : ((s.toNat : Nat) : Int) = s := by omega
  simp only [e] at h
  exact h.sublist ((List.range_sublist.mpr hm).map _)
theorem vals_in {s t : Int} {m : Nat} : ∀ v ∈ vals s t m, 0 ≤ v ∧ v ≤ 5 := fun v hv => by
  obtain ⟨k, _, rfl⟩ := List.mem_map.mp hv
  have h1 := Int.fmod_nonneg_of_pos (s + t * (k : Int)) (b := 6) (by decide)
  have h2 := Int.fmod_lt_of_pos (s + t * (k : Int)) (b := 6) (by decide)
  exact ⟨h1, by omega⟩
theorem vals_succ (s t : Int) (i : Nat) : vals s t (i + 1) = vals s t i ++ [(s + t * (i : Int)).fmod 6] := by
  unfold vals
  rw [List.range_succ, List.map_append]
  rfl
def spWays : Sp := fun vs H Q _ => ∃ (p q ln lw : Addr) (ns ws : List Str) (at_ : Nat) (s : Int), vs = [.ref p, .ref ln, .ref lw, .int at_] ∧ Pen H p q s ∧ s + 300 < 1099511627776 ∧ hid [p, q] H ln = some (.lst (ns.map V.str)) ∧ ns.length = ws.length ∧ hid [p, q] H lw = some (.lst (ws.map V.str)) ∧ Wds ws ∧ at_ < ws.length ∧ ws.length ≤ 8 ∧
  ∀ (l : Addr) (ts : List V) (wy : List (Int × Nat)) s' H', hid [p, q] H' l = some (.lst ts) → H l = none → WaysAt (hid [p, q] H') ns ts wy → (wy.map (·.1)).Nodup → (∀ y ∈ wy, 0 ≤ y.1 ∧ y.1 ≤ 5 ∧ Gok ws at_ y.2) → wy.length ≤ 5 → s ≤ s' → s' ≤ s + 300 → Pen H' p q s' → Ex (hid [p, q] H) (hid [p, q] H') → Q (.ref l) H'
theorem ok_law_ways (T : Gtx K mg) : FnOk P w K mg base CX0 4 T.f_law_ways T.d_law_ways ["_law_pen", "_law_names_here", "_law_words_here", "_law_at"] spWays := by
  refine T.F_law_ways.ok sc_law_ways (fun vs H Q E h => ?_) (fun cdv A outer s H vs Q E hr h => ?_)
  · obtain ⟨p, q, ln, lw, ns, ws, at_, s, rfl, _⟩ := h
    rfl
  · obtain ⟨p, q, ln, lw, ns, ws, at_, z, rfl, hpen, hz, hln, hnl, hlw, hW, hat, hn8, k⟩ := h
    refine ⟨_, (pss_cons (ps_set (i := 4) sc_law_ways.nd rfl (Or.inr rfl) (pe_call (ok_law_draw T) (hr.mono (by decide)) rfl T.m_law_draw T.F_law_draw.kp T.b_law_draw .nil pass0 (pa_cons (pv 0) (pa_cons pe_int pa_nil))))
      (pss_cons (ps_set (i := 5) sc_law_ways.nd rfl (Or.inr rfl) (pe_call (ok_law_pick T) (hr.mono (by decide)) rfl T.m_law_pick T.F_law_pick.kp T.b_law_pick .nil pass0 (pa_cons (pv 0) (pa_cons (pe_lst (pa_cons pe_int (pa_cons pe_int pa_nil))) pa_nil))))
      (pss_cons (ps_setLc (i := 6) rfl sc_law_ways.nd rfl rfl (sw_true rfl rfl rfl (by decide +kernel)) (pi_range1 (by rfl) T.z_range (pa_cons (pe_call (ok_law_draw T) (hr.mono (by decide)) rfl T.m_law_draw T.F_law_draw.kp T.b_law_draw .nil pass0 (pa_cons (pv 0) (pa_cons pe_int pa_nil))) pa_nil)) (blkOk_by (own := [("_law_k", 7)]) (N := ["_law_pen", "_law_names_here", "_law_words_here", "_law_at", "_law_start", "_law_turn", "_law_values", "_law_k", "_law_value"]) (sc := defScope s_law_ways) (by decide +kernel)) (fun _ _ _ _ _ => (pg_name (i := 7) sc_law_ways.nd rfl (Or.inl rfl))) (fun _ _ _ _ _ => pts_nil) (fun _ _ _ _ _ => (pe_op op_modN (pe_callTy call_int1 (by rfl) T.z_int (by decide +kernel) (pa_cons (pe_op op_add (pv 4) (pe_op op_mul (pv 5) (pv 7))) pa_nil)) pe_int)))
      (pss_one (ps_ret (pe_lc (te := tTup (tCons (tVar 8) (tCons (tOp (rIxL K) (tVar 1) (tCall spGoal [] E0 (tCons (tVar 0) (tCons (tVar 2) (tCons (tVar 3) tNil))))) tNil))) rfl sc_law_ways.nd (pi_list (pv 6)) (blkOk_by (own := [("_law_value", 8)]) (N := ["_law_pen", "_law_names_here", "_law_words_here", "_law_at", "_law_start", "_law_turn", "_law_values", "_law_k", "_law_value"]) (sc := defScope s_law_ways) (by decide +kernel)) (fun _ _ _ _ _ => (pg_name (i := 8) sc_law_ways.nd rfl (Or.inl rfl))) (fun _ _ _ _ _ => pts_nil) (fun _ _ _ _ _ => (pe_tup (pa_cons (pv 8) (pa_cons (pe_ix ix_list (pv 1) (pe_call (ok_law_goal T) (hr.mono (by decide)) rfl T.m_law_goal T.F_law_goal.kp T.b_law_goal .nil pass0 (pa_cons (pv 0) (pa_cons (pv 2) (pa_cons (pv 3) pa_nil)))) (fun _ _ => rfl)) pa_nil)))))))))), ?_⟩
    have hS : start ["_law_pen", "_law_names_here", "_law_words_here", "_law_at", "_law_start", "_law_turn", "_law_values", "_law_k", "_law_value"] [V.ref p, .ref ln, .ref lw, .int at_] = [some (.ref p), some (.ref ln), some (.ref lw), some (.int at_), none, none, none, none, none] := rfl
    rw [hS]
    walk_at "rd"
    refine i_draw hpen (by omega) (by omega) (by omega) (fun r1 H1 lo1 hi1 pen1 b1 => ?_)
    walk_at "rd"
    refine ⟨by show 2 ≤ sizeLine; decide, fun a1 n1 => ?_⟩
    walk_at "rd"
    refine i_pickI (ns := [1, 5]) (pen1.ex (Ex.new n1)) (by omega) (hid_pen_new pen1 n1) (by decide) (by decide) (fun t ht H2 pen2 b2 => ?_)
    have ex2 : Ex (hid [p, q] H) (hid [p, q] H2) := b1.ex.trans ((hid_new n1).trans b2.ex)
    walk_at "rd"
    refine Rd.i_lcR ?_
    walk_at "rd"
    refine i_draw pen2 (by omega) (by omega) (by omega) (fun r3 H3 lo3 hi3 pen3 b3 => ?_)
    have ex3 := ex2.trans b3.ex
    walk_at "rd"
    refine Rd.lcR (by omega) (by omega) (fun D hD => ⟨fun i H4 => H4 D = some (.lst ((vals r1 t i).map V.int)) ∧ Pen H4 p q (z + 1 + 1 + 1) ∧ Ex (hid [p, q] H3) (hid [p, q] H4), ⟨upd_same, pen3.mut (pen3.new hD), hid_new hD⟩, ?_, ?_⟩)
    · rintro i H4 hi ⟨hDl, pen4, ex4⟩
      walk_at "rd"
      refine ⟨rfl, ?_⟩
      have hmul : CMul t (i : Int) := .inr ⟨by omega, by omega⟩
      walk_at "rd"
      refine ⟨_, hDl, small1000 (by rw [List.length_map]; unfold vals; rw [List.length_map, List.length_range]; omega), ?_, pen4.mut (pen3.new hD), hid_mut ex4 hD⟩
      rw [vals_succ, List.map_append]
      exact upd_same
    · rintro H4 ⟨hDl, pen4, ex4⟩
      walk_at "rd"
      refine Rd.i_lcL ?_
      walk_at "rd"
      have hDn := pen3.new hD
      have hlen5 : (vals r1 t r3.toNat).length ≤ 4 := by unfold vals; rw [List.length_map, List.length_range]; omega
      have e34 := ex3.trans ex4
      refine Rd.lcL (xs := (vals r1 t r3.toNat).map V.int) (SqL.of hDl) (fun D2 hD2 => ⟨fun i H5 => ∃ (ts : List V) (wy : List (Int × Nat)) (s' : Int), H5 D2 = some (.lst ts) ∧ ts.length = i ∧ WaysAt (hid [p, q, D2] H5) ns ts wy ∧ wy.map (·.1) = (vals r1 t r3.toNat).take i ∧ (∀ y ∈ wy, Gok ws at_ y.2) ∧ Pen H5 p q s' ∧ z + 3 ≤ s' ∧ s' ≤ z + 3 + 40 * i ∧ Ex (hid [p, q] H4) (hid [p, q] H5), ?_, ?_, ?_, ?_⟩)
      · exact ⟨[], [], z + 1 + 1 + 1, upd_same, rfl, .nil, rfl, fun _ h => (List.not_mem_nil h).elim, pen4.mut (pen4.new hD2), by omega, by omega, hid_new hD2⟩
      · rintro i H5 hi ⟨ts, wy, s', _, _, _, _, _, _, _, _, ex5⟩
        exact SqL.of (hid_get (ex5 _ _ (hid_iff.mpr ⟨hDn, hDl⟩)))
      · rintro i x H5 hx ⟨ts, wy, s', hD5, htl, hts, hwv, hgk, pen5, lo5, hi5, ex5⟩
        rw [List.getElem?_map] at hx
        obtain ⟨v, hv, rfl⟩ := Option.map_eq_some_iff.mp hx
        have hi4 : i < 4 := by
          have := (List.getElem?_eq_some_iff.mp hv).1
          omega
        walk_at "rd"
        refine ⟨rfl, ?_⟩
        walk_at "rd"
        have ex05 := e34.trans ex5
        refine ⟨p, q, lw, ws, at_, s', rfl, pen5, by omega, ex05 _ _ hlw, hW, hat, hn8, fun g s6 H6 hg hgok lo6 hi6 pen6 ex6 => ?_⟩
        have ex06 := ex05.trans ex6
        refine Rd.i_ixL (SqL.of (hid_get (ex06 _ _ hln))) (atI_nat (wAt_get (by omega))) ?_
        walk_at "rd"
        refine ⟨by show 2 ≤ sizeLine; decide, fun a na => ?_⟩
        have hD2n := pen4.new hD2
        have hD6 : H6 D2 = some (.lst ts) := hid_get (ex6 _ _ (hid_iff.mpr ⟨hD2n, hD5⟩))
        have ad : a ≠ D2 := (ne_of_none hD6 na).symm
        have e6 : Ex H6 (upd H6 a (.tup [.int v, .str (wAt ns g)])) := Ex.new na
        refine ⟨ts, e6 _ _ hD6, small1000 (by omega), ts ++ [.ref a], wy ++ [(v, g)], s6, upd_same, by rw [List.length_append, htl]; rfl, ?_, ?_, ?_, (pen6.ex e6).mut hD2n, by omega, by omega, hid_mut (ex5.trans (ex6.trans (hid_ex e6))) hD2⟩
        · rw [hid_upd in3]
          refine paired_app (paired_mono (fun v y h => h.mono ((hid_more ex6 sub2).trans (hid_ex e6))) hts) (.cons ⟨a, rfl, hid_iff.mpr ⟨nin3 (pen6.new na) ad, upd_same⟩⟩ .nil)
        · rw [List.map_append, hwv, List.take_succ, hv]
          rfl
        · intro y hy
          rcases List.mem_append.mp hy with hy | hy
          · exact hgk y hy
          · rw [List.mem_singleton] at hy
            rw [hy]
            exact ⟨hg, hgok⟩
      · rintro H5 ⟨ts, wy, s', hD5, htl, hts, hwv, hgk, pen5, lo5, hi5, ex5⟩
        walk_at "rd"
        rw [List.length_map] at htl hi5 hwv
        rw [List.take_length] at hwv
        have ex05 := e34.trans ex5
        have hD2n := pen4.new hD2
        have hwl : wy.length = (vals r1 t r3.toNat).length := by rw [← hwv, List.length_map]
        refine k D2 ts wy s' H5 (hid_iff.mpr ⟨hD2n, hD5⟩) ?_ (paired_mono (fun v y h => h.mono (hid_less sub2)) hts) ?_ ?_ (by omega) (by omega) (by omega) pen5 ex05
        · cases e : H D2 with
          | none => rfl
          | some o =>
            have := hid_get (e34 _ _ (hid_iff.mpr ⟨hD2n, e⟩))
            rw [hD2] at this
            cases this
        · rw [hwv]
          exact vals_nodup lo1 hi1 ht (by omega)
        · intro y hy
          have : y.1 ∈ vals r1 t r3.toNat := by rw [← hwv]; exact List.mem_map_of_mem hy
          exact ⟨(vals_in _ this).1, (vals_in _ this).2, hgk y hy⟩
end
end K02

namespace K02
open PySem L2
local macro_rules | `(tactic| walk_at "rd1") => `(tactic| first
  | (with_reducible refine Rd.i_seq ?_) | (with_reducible refine Rd.i_asg ?_) | (with_reducible refine Rd.i_name ?_) | (with_reducible refine Rd.i_nx ?_) | (with_reducible refine Rd.i_rt ?_) | (with_reducible refine Rd.i_next ?_) | (with_reducible refine Rd.i_ct ?_) | (with_reducible refine Rd.i_bk ?_)
  | (with_reducible refine Rd.i_ret ?_) | (with_reducible refine Rd.i_drop ?_) | (with_reducible refine Rd.i_ifS ?_) | (with_reducible refine Rd.i_sub ?_)
  | (with_reducible refine Rd.i_var (by with_unfolding_all exact rfl) ?_) | (with_reducible refine Rd.i_c ?_) | (with_reducible refine Rd.i_op ?_) | (with_reducible refine Rd.i_un ?_)
  | (with_reducible refine Rd.i_rI0 ?_) | (with_reducible refine Rd.i_rI (by with_unfolding_all first | omega | exact Rd.mulL (by omega) (by omega) | exact Rd.mulR (by omega) (by omega) | decide | (refine ⟨?_, ?_⟩ <;> omega) | (refine ⟨?_, ?_, ?_⟩ <;> omega)) ?_)
  | (with_reducible refine Rd.i_rEq (by with_unfolding_all exact rfl) ?_) | (with_reducible refine Rd.i_rNe (by with_unfolding_all exact rfl) ?_)
  | (with_reducible refine Rd.i_test ?_) | (with_reducible refine Rd.i_tB ?_) | (with_reducible refine Rd.i_bl ?_) | (with_reducible refine Rd.i_and ?_) | (with_reducible refine Rd.i_or ?_) | (with_reducible refine Rd.i_not ?_) | (with_reducible refine Rd.i_notV ?_) | (with_reducible refine Rd.i_andV ?_) | (with_reducible refine Rd.i_orV ?_) | (with_reducible refine Rd.i_if ?_) | (with_reducible refine Rd.i_chain ?_)
  | (with_reducible refine Rd.i_call ?_) | (with_reducible refine Rd.i_nil ?_) | (with_reducible refine Rd.i_cons ?_) | (with_reducible refine Rd.i_cb ?_) | (with_reducible refine Rd.i_bm ?_) | (with_reducible refine Rd.i_bm0 ?_) | (with_reducible refine Rd.i_tup ?_) | (with_reducible refine Rd.i_lst ?_)
  | (with_reducible refine Rd.i_int1 ?_) | (with_reducible refine Rd.i_intb ?_) | (with_reducible refine Rd.i_max ?_)
  | (with_reducible refine Rd.i_ixL (SqL.of (by first | assumption | exact upd_same)) (by with_unfolding_all first | exact rfl | exact atI_nat rfl) ?_) | (with_reducible refine Rd.i_ixT (SqT.of (by first | assumption | exact upd_same)) (by with_unfolding_all exact rfl) ?_)
  | (with_reducible refine Rd.i_setL (by first | assumption | exact upd_same) (by with_unfolding_all exact rfl) ?_)
  | (with_reducible refine Xv.i_mkV ?_) | (with_reducible refine Xv.i_xat ?_)
  | (with_reducible refine Rd.i_yes ?_) | (with_reducible refine Rd.i_m1 ?_) | (with_reducible refine Rd.i_m0 ?_) | (with_reducible refine Rd.ite_T ?_) | (with_reducible refine Rd.ite_F ?_) | (with_reducible refine Rd.i_forR ?_) | (with_reducible refine Rd.i_forL ?_) | (with_reducible refine Rd.i_forT ?_)
  | (with_reducible refine Hd.i_rU ?_) | (with_reducible refine Hd.i_pcons ?_) | (with_reducible refine Hd.i_pnil ?_) | (with_reducible refine Hd.i_disp ?_) | (with_reducible refine Hd.i_dget ?_)
  | (with_reducible refine Hd.i_lstRg ?_) | (with_reducible refine Hd.i_rg1 ?_) | (with_reducible refine Hd.i_rg2 ?_) | (with_reducible refine Hd.i_ex1 ?_) | (with_reducible refine Hd.i_ex2 ?_)
  | (with_reducible refine Rd.i_gtup (SqT.of (by assumption)) (by with_unfolding_all exact rfl) ?_) | (with_reducible refine Rd.i_gcons ?_) | (with_reducible refine Rd.i_gnil ?_))
local macro_rules | `(tactic| walk_at "rd") => `(tactic| repeat walk_at "rd1")
section
variable {P : Program} {w : World} {K : PySem.W.Frag} {mg : Str → Option Value} {base : Heap}
open Evl Hd
/-- a line, its goals by their places -/
inductive Li where
  | case (wy : List (Int × Nat)) (o : Nat)
  | take (o : Nat)
  | num (w : Str) (c : Int) (o : Nat)
  | upto (c : Int) (a b : Nat)
  | fin (w : Str)
/-- a line as a tuple at hand, its ways a list -/
def LiAt (H : Hp) (ns : List Str) (v : V) : Li → Prop
  | .case wy o => ∃ t l ts, v = .ref t ∧ H t = some (.tup [.str "case", .ref l, .str (wAt ns o)]) ∧ H l = some (.lst ts) ∧ WaysAt H ns ts wy
  | .take o => ∃ t, v = .ref t ∧ H t = some (.tup [.str "take", .str (wAt ns o)])
  | .num w c o => ∃ t, v = .ref t ∧ H t = some (.tup [.str w, .int c, .str (wAt ns o)])
  | .upto c a b => ∃ t, v = .ref t ∧ H t = some (.tup [.str "upto", .int c, .str (wAt ns a), .str (wAt ns b)])
  | .fin w => ∃ t, v = .ref t ∧ H t = some (.tup [.str w])
theorem LiAt.mono {H H' : Hp} {ns : List Str} {v : V} (e : Ex H H') : ∀ {li : Li}, LiAt H ns v li → LiAt H' ns v li
  | .case wy o, ⟨t, l, ts, h1, h2, h3, h4⟩ => ⟨t, l, ts, h1, e _ _ h2, e _ _ h3, paired_mono (fun _ _ h => h.mono e) h4⟩
  | .take o, ⟨t, h1, h2⟩ => ⟨t, h1, e _ _ h2⟩
  | .num w c o, ⟨t, h1, h2⟩ => ⟨t, h1, e _ _ h2⟩
  | .upto c a b, ⟨t, h1, h2⟩ => ⟨t, h1, e _ _ h2⟩
  | .fin w, ⟨t, h1, h2⟩ => ⟨t, h1, e _ _ h2⟩
/-- the bounds of a number behind its word -/
def NumOk (w : Str) (c : Int) : Prop := (w = "rest" ∧ 2 ≤ c ∧ c ≤ 4) ∨ (w = "cap" ∧ 0 ≤ c ∧ c ≤ 5) ∨ (w = "jump" ∧ 1 ≤ c ∧ c ≤ 4) ∨ (w = "set" ∧ 0 ≤ c ∧ c ≤ 5) ∨ (w = "skip" ∧ -3 ≤ c ∧ c ≤ 4)
def LiOk (ws : List Str) (at_ : Nat) : Li → Prop
  | .case wy o => wAt ws at_ = "case" ∧ (wy.map (·.1)).Nodup ∧ (∀ y ∈ wy, 0 ≤ y.1 ∧ y.1 ≤ 5 ∧ Gok ws at_ y.2) ∧ wy.length ≤ 5 ∧ Gok ws at_ o
  | .take o => wAt ws at_ = "take" ∧ Gok ws at_ o
  | .num w c o => wAt ws at_ = w ∧ NumOk w c ∧ Gok ws at_ o
  | .upto c a b => wAt ws at_ = "upto" ∧ 0 ≤ c ∧ c ≤ 5 ∧ Gok ws at_ a ∧ Gok ws at_ b
  | .fin w => wAt ws at_ = w ∧ (w = "cut" ∨ w = "refuse")
abbrev lowK : List (Key × V) := [(Sum.inr "rest", .int 2), (Sum.inr "cap", .int 0), (Sum.inr "jump", .int 1), (Sum.inr "set", .int 0), (Sum.inr "skip", .int (-3))]
abbrev manyK : List (Key × V) := [(Sum.inr "rest", .int 3), (Sum.inr "cap", .int 6), (Sum.inr "jump", .int 4), (Sum.inr "set", .int 6), (Sum.inr "skip", .int 8)]
theorem num_of {x : Str} (h : x ∈ (["rest", "cap", "jump", "set", "skip"] : List Str)) : ∃ lo mn : Int, valV (mergeK [] lowK) (Sum.inr x) = some (.int lo) ∧ valV (mergeK [] manyK) (Sum.inr x) = some (.int mn) ∧ 0 < mn ∧ mn < 10 ∧ ∀ r, 0 ≤ r → r < mn → NumOk x (lo + r) := by
  rcases List.mem_cons.mp h with rfl | h
  · exact ⟨2, 3, by decide +kernel, by decide +kernel, by decide, by decide, fun r h0 h1 => .inl ⟨rfl, by omega, by omega⟩⟩
  rcases List.mem_cons.mp h with rfl | h
  · exact ⟨0, 6, by decide +kernel, by decide +kernel, by decide, by decide, fun r h0 h1 => .inr (.inl ⟨rfl, by omega, by omega⟩)⟩
  rcases List.mem_cons.mp h with rfl | h
  · exact ⟨1, 4, by decide +kernel, by decide +kernel, by decide, by decide, fun r h0 h1 => .inr (.inr (.inl ⟨rfl, by omega, by omega⟩))⟩
  rcases List.mem_cons.mp h with rfl | h
  · exact ⟨0, 6, by decide +kernel, by decide +kernel, by decide, by decide, fun r h0 h1 => .inr (.inr (.inr (.inl ⟨rfl, by omega, by omega⟩)))⟩
  rcases List.mem_cons.mp h with rfl | h
  · exact ⟨-3, 8, by decide +kernel, by decide +kernel, by decide, by decide, fun r h0 h1 => .inr (.inr (.inr (.inr ⟨rfl, by omega, by omega⟩)))⟩
  · cases h
theorem ten {x : Str} (h : Lk x ∨ Qt x) (h1 : x ∉ (["cut", "refuse"] : List Str)) (h2 : x ≠ "take") (h3 : x ≠ "case") (h4 : x ≠ "upto") : x ∈ (["rest", "cap", "jump", "set", "skip"] : List Str) := by
  unfold Lk Qt at h
  simp only [List.mem_cons, List.not_mem_nil, or_false] at h h1 ⊢
  rcases h with (h | h | h | h | h) | (h | h | h | h | h)
  · exact absurd h h2
  · exact absurd h h3
  · exact .inl h
  · exact .inr (.inl h)
  · exact .inr (.inr (.inl h))
  · exact .inr (.inr (.inr (.inr h)))
  · exact absurd (.inl h) h1
  · exact absurd h h4
  · exact .inr (.inr (.inr (.inl h)))
  · exact absurd (.inr h) h1
def numbered (ls : List Li) : List (Nat × Li) := (List.range ls.length).zip ls
/-- the list within a line's tuple is new -/
def LNew (H : Hp) (v : V) (H' : Hp) : Prop := ∀ t x l y, v = .ref t → H' t = some (.tup [x, .ref l, y]) → H l = none
theorem lnew_of {H H' : Hp} {t : Addr} {xs : List V} (h : H' t = some (.tup xs)) (hn : ∀ x l y, xs ≠ [x, V.ref l, y]) : LNew H (.ref t) H' := fun t' x l y e h' => by
  cases e
  rw [h] at h'
  cases h'
  exact absurd rfl (hn x l y)
theorem li_hid {p q D : Addr} {H : Hp} {ts : List V} {ns : List Str} {v : V} (hD : H D = some (.lst ts)) (hn : ∀ t x l y, v = .ref t → H t = some (.tup [x, .ref l, y]) → l ≠ D) : ∀ {li : Li}, LiAt (hid [p, q] H) ns v li → LiAt (hid [p, q, D] H) ns v li := by
  have tp : ∀ {t xs}, hid [p, q] H t = some (.tup xs) → hid [p, q, D] H t = some (.tup xs) := fun {t xs} h => hid_iff.mpr ⟨nin3 (nin h) (ne_of (hid_get h) hD (fun z => by cases z)), hid_get h⟩
  intro li h
  cases li with
  | case wy o =>
    obtain ⟨t, l, lt, h1, h2, h3, h4⟩ := h
    exact ⟨t, l, lt, h1, tp h2, hid_iff.mpr ⟨nin3 (nin h3) (hn _ _ _ _ h1 (hid_get h2)), hid_get h3⟩, paired_mono (fun v y ⟨a, b, c⟩ => ⟨a, b, tp c⟩) h4⟩
  | take o => exact ⟨h.choose, h.choose_spec.1, tp h.choose_spec.2⟩
  | num w c o => exact ⟨h.choose, h.choose_spec.1, tp h.choose_spec.2⟩
  | upto c a b => exact ⟨h.choose, h.choose_spec.1, tp h.choose_spec.2⟩
  | fin w => exact ⟨h.choose, h.choose_spec.1, tp h.choose_spec.2⟩
theorem numbered_app (ls : List Li) (li : Li) : numbered (ls ++ [li]) = numbered ls ++ [(ls.length, li)] := by
  unfold numbered
  rw [List.length_append]
  show (List.range (ls.length + 1)).zip (ls ++ [li]) = _
  rw [List.range_succ, List.zip_append (by rw [List.length_range])]
  rfl
def spLine : Sp := fun vs H Q _ => ∃ (p q ln lw : Addr) (ns ws : List Str) (at_ : Nat) (s : Int), vs = [.ref p, .ref ln, .ref lw, .int at_] ∧ Pen H p q s ∧ s + 500 < 1099511627776 ∧ hid [p, q] H ln = some (.lst (ns.map V.str)) ∧ ns.length = ws.length ∧ hid [p, q] H lw = some (.lst (ws.map V.str)) ∧ Wds ws ∧ at_ < ws.length ∧ ws.length ≤ 8 ∧
  ∀ (v : V) (li : Li) s' H', LiAt (hid [p, q] H') ns v li → LNew H v H' → LiOk ws at_ li → s ≤ s' → s' ≤ s + 500 → Pen H' p q s' → Ex (hid [p, q] H) (hid [p, q] H') → Q v H'
theorem ok_law_line (T : Gtx K mg) : FnOk P w K mg base CX0 5 T.f_law_line T.d_law_line ["_law_pen", "_law_names_here", "_law_words_here", "_law_at"] spLine := by
  refine T.F_law_line.ok sc_law_line (fun vs H Q E h => ?_) (fun cdv A outer s H vs Q E hr h => ?_)
  · obtain ⟨p, q, ln, lw, ns, ws, at_, s, rfl, _⟩ := h
    rfl
  · obtain ⟨p, q, ln, lw, ns, ws, at_, z, rfl, hpen, hz, hln, hnl, hlw, hW, hat, hn8, k⟩ := h
    refine ⟨_, (pss_cons (ps_set (i := 4) sc_law_line.nd rfl (Or.inl rfl) (pe_ix ix_list (pv 2) (pv 3) (fun _ _ => rfl)))
      (pss_cons (ps_if (pt_cmpR op_in_seq (pv 4) (pe_tup (pa_cons pe_str (pa_cons pe_str pa_nil))) (by rfl))
        (pss_one (ps_ret (pe_tup (pa_cons (pv 4) pa_nil))))
        pss_nil)
      (pss_cons (ps_set (i := 5) sc_law_line.nd rfl (Or.inl rfl) (pe_ix ix_list (pv 1) (pe_call (ok_law_goal T) (hr.mono (by decide)) rfl T.m_law_goal T.F_law_goal.kp T.b_law_goal .nil pass0 (pa_cons (pv 0) (pa_cons (pv 2) (pa_cons (pv 3) pa_nil)))) (fun _ _ => rfl)))
      (pss_cons (ps_if (pt_cmpR op_eq (pv 4) pe_str (nomark _))
        (pss_one (ps_ret (pe_tup (pa_cons (pv 4) (pa_cons (pv 5) pa_nil)))))
        pss_nil)
      (pss_cons (ps_if (pt_cmpR op_eq (pv 4) pe_str (nomark _))
        (pss_one (ps_ret (pe_tup (pa_cons (pv 4) (pa_cons (pe_call (ok_law_ways T) (hr.mono (by decide)) rfl T.m_law_ways T.F_law_ways.kp T.b_law_ways .nil pass0 (pa_cons (pv 0) (pa_cons (pv 1) (pa_cons (pv 2) (pa_cons (pv 3) pa_nil))))) (pa_cons (pv 5) pa_nil))))))
        pss_nil)
      (pss_cons (ps_if (pt_cmpR op_eq (pv 4) pe_str (nomark _))
        (pss_one (ps_ret (pe_tup (pa_cons (pv 4) (pa_cons (pe_call (ok_law_draw T) (hr.mono (by decide)) rfl T.m_law_draw T.F_law_draw.kp T.b_law_draw .nil pass0 (pa_cons (pv 0) (pa_cons pe_int pa_nil))) (pa_cons (pv 5) (pa_cons (pe_ix ix_list (pv 1) (pe_call (ok_law_goal T) (hr.mono (by decide)) rfl T.m_law_goal T.F_law_goal.kp T.b_law_goal .nil pass0 (pa_cons (pv 0) (pa_cons (pv 2) (pa_cons (pv 3) pa_nil)))) (fun _ _ => rfl)) pa_nil)))))))
        pss_nil)
      (pss_cons (ps_set (i := 6) sc_law_line.nd rfl (Or.inl rfl) (pe_disp (pps_cons pe_str pe_int (pps_cons pe_str pe_int (pps_cons pe_str pe_int (pps_cons pe_str pe_int (pps_cons pe_str (pe_un un_neg pe_int) pps_nil))))) (by rfl) (by rfl) (fun z => by cases z) (by decide)))
      (pss_cons (ps_set (i := 7) sc_law_line.nd rfl (Or.inl rfl) (pe_disp (pps_cons pe_str pe_int (pps_cons pe_str pe_int (pps_cons pe_str pe_int (pps_cons pe_str pe_int (pps_cons pe_str pe_int pps_nil))))) (by rfl) (by rfl) (fun z => by cases z) (by decide)))
      (pss_one (ps_ret (pe_tup (pa_cons (pv 4) (pa_cons (pe_op op_add (pe_dget (hu_of hr) (pv 6) (pv 4) (fun _ _ => rfl)) (pe_call (ok_law_draw T) (hr.mono (by decide)) rfl T.m_law_draw T.F_law_draw.kp T.b_law_draw .nil pass0 (pa_cons (pv 0) (pa_cons (pe_dget (hu_of hr) (pv 7) (pv 4) (fun _ _ => rfl)) pa_nil)))) (pa_cons (pv 5) pa_nil)))))))))))))), ?_⟩
    have hS : start ["_law_pen", "_law_names_here", "_law_words_here", "_law_at", "_law_word_here", "_law_goal_here", "_law_low", "_law_many"] [V.ref p, .ref ln, .ref lw, .int at_] = [some (.ref p), some (.ref ln), some (.ref lw), some (.int at_), none, none, none, none] := rfl
    rw [hS]
    have frs : ∀ {H1 : Hp} {t : Addr} {s' : Int}, Ex (hid [p, q] H) (hid [p, q] H1) → Pen H1 p q s' → H1 t = none → H t = none := fun {H1 t s'} e pen n => by
      cases h : H t with
      | none => rfl
      | some o =>
        have := hid_get (e _ _ (hid_iff.mpr ⟨pen.new n, h⟩))
        rw [n] at this
        cases this
    have frs' : ∀ {H1 : Hp} {t : Addr}, Ex (hid [p, q] H) (hid [p, q] H1) → t ∉ [p, q] → H1 t = none → H t = none := fun {H1 t} e ni n => by
      cases h : H t with
      | none => rfl
      | some o =>
        have := hid_get (e _ _ (hid_iff.mpr ⟨ni, h⟩))
        rw [n] at this
        cases this
    walk_at "rd"
    refine Rd.i_ixL (sq_of (hid_get hlw)) (atI_nat (wAt_get hat)) ?_
    walk_at "rd"
    refine ⟨by show 2 ≤ sizeLine; decide, fun t1 nt1 => ?_⟩
    refine i_inS (ns := ["cut", "refuse"]) (.inr (SqT.of upd_same)) ?_
    have e1 := Ex.new (o := .tup [.str "cut", .str "refuse"]) nt1
    have pen1 := hpen.ex e1
    have ex1 : Ex (hid [p, q] H) (hid [p, q] (upd H t1 (.tup [.str "cut", .str "refuse"]))) := hid_ex e1
    walk_at "rd"
    refine Rd.ite_d (fun hc => ?_) (fun hc => ?_)
    · walk_at "rd"
      refine ⟨by show 1 ≤ sizeLine; decide, fun t nt => ?_⟩
      walk_at "rd"
      refine k (.ref t) (.fin (wAt ws at_)) z _ ⟨t, rfl, hid_pen_new pen1 nt⟩ (lnew_of upd_same (by intro x l y e; cases e)) ⟨rfl, by simpa using hc⟩ (by omega) (by omega) (pen1.ex (Ex.new nt)) (ex1.trans (hid_new nt))
    · walk_at "rd"
      refine ⟨p, q, lw, ws, at_, z, rfl, pen1, by omega, ex1 _ _ hlw, hW, hat, hn8, fun g s2 H2 hg hgok lo2 hi2 pen2 ex2 => ?_⟩
      have ex02 := ex1.trans ex2
      have hG : Gok ws at_ g := ⟨hg, hgok⟩
      refine Rd.i_ixL (sq_of (hid_get (ex02 _ _ hln))) (atI_nat (wAt_get (by omega))) ?_
      walk_at "rd"
      refine Rd.ite_d (fun h2 => ?_) (fun h2 => ?_)
      · walk_at "rd"
        refine ⟨by show 2 ≤ sizeLine; decide, fun t nt => ?_⟩
        walk_at "rd"
        have hw : wAt ws at_ = "take" := V.str.inj h2
        refine k (.ref t) (.take g) s2 _ ⟨t, rfl, by rw [← hw]; exact hid_pen_new pen2 nt⟩ (lnew_of upd_same (by intro x l y e; cases e)) ⟨hw, hG⟩ (by omega) (by omega) (pen2.ex (Ex.new nt)) (ex02.trans (hid_new nt))
      walk_at "rd"
      refine Rd.ite_d (fun h3 => ?_) (fun h3 => ?_)
      · walk_at "rd"
        have hw : wAt ws at_ = "case" := V.str.inj h3
        refine ⟨p, q, ln, lw, ns, ws, at_, s2, rfl, pen2, by omega, ex02 _ _ hln, hnl, ex02 _ _ hlw, hW, hat, hn8, fun l ts wy s3 H3 hl3 hl3n hts hnd hvl hwl lo3 hi3 pen3 ex3 => ?_⟩
        have ex03 := ex02.trans ex3
        walk_at "rd"
        refine ⟨by show 3 ≤ sizeLine; decide, fun t nt => ?_⟩
        walk_at "rd"
        have e4 : Ex (hid [p, q] H3) (hid [p, q] (upd H3 t (.tup [.str (wAt ws at_), .ref l, .str (wAt ns g)]))) := hid_new nt
        refine k (.ref t) (.case wy g) s3 _ ⟨t, l, ts, rfl, by rw [← hw]; exact hid_pen_new pen3 nt, e4 _ _ hl3, paired_mono (fun _ _ h => h.mono e4) hts⟩ (fun t' x' l' y' e h => by
          cases e
          rw [upd_same] at h
          cases h
          exact frs' ex02 (nin hl3) hl3n) ⟨hw, hnd, hvl, hwl, hG⟩ (by omega) (by omega) (pen3.ex (Ex.new nt)) (ex03.trans e4)
      walk_at "rd"
      refine Rd.ite_d (fun h4 => ?_) (fun h4 => ?_)
      · walk_at "rd"
        have hw : wAt ws at_ = "upto" := V.str.inj h4
        refine i_draw pen2 (by omega) (by omega) (by omega) (fun r H3 lo3 hi3 pen3 b3 => ?_)
        have ex03 := ex02.trans b3.ex
        walk_at "rd"
        refine ⟨p, q, lw, ws, at_, _, rfl, pen3, by omega, ex03 _ _ hlw, hW, hat, hn8, fun g2 s4 H4 hg2 hgok2 lo4 hi4 pen4 ex4 => ?_⟩
        have ex04 := ex03.trans ex4
        refine Rd.i_ixL (sq_of (hid_get (ex04 _ _ hln))) (atI_nat (wAt_get (by omega))) ?_
        walk_at "rd"
        refine ⟨by show 4 ≤ sizeLine; decide, fun t nt => ?_⟩
        walk_at "rd"
        refine k (.ref t) (.upto r g g2) s4 _ ⟨t, rfl, by rw [← hw]; exact hid_pen_new pen4 nt⟩ (lnew_of upd_same (by intro x l y e; cases e)) ⟨hw, by omega, by omega, hG, hg2, hgok2⟩ (by omega) (by omega) (pen4.ex (Ex.new nt)) (ex04.trans (hid_new nt))
      obtain ⟨lo, mn, hlo, hmn, mn0, mn1, hok⟩ := num_of (ten (hW.all _ (wAt_mem hat)) hc (fun e => h2 (by rw [e])) (fun e => h3 (by rw [e])) (fun e => h4 (by rw [e])))
      walk_at "rd"
      intro d1 nd1
      walk_at "rd"
      refine ⟨upd_same, lowK, rfl, by decide, ?_⟩
      rw [upd_upd]
      have e5 := Ex.new (o := .dK (mergeK [] lowK)) nd1
      walk_at "rd"
      intro d2 nd2
      walk_at "rd"
      refine ⟨upd_same, manyK, rfl, by decide, ?_⟩
      rw [upd_upd]
      have e6 := Ex.new (o := .dK (mergeK [] manyK)) nd2
      have pen6 := (pen2.ex e5).ex e6
      walk_at "rd"
      refine i_dg (e6 _ _ upd_same) hlo ?_
      walk_at "rd"
      refine i_dg upd_same hmn ?_
      walk_at "rd"
      refine i_draw pen6 (by omega) (by omega) (by omega) (fun r H3 lo3 hi3 pen3 b3 => ?_)
      have ex03 : Ex (hid [p, q] H) (hid [p, q] H3) := (ex02.trans (hid_ex (e5.trans e6))).trans b3.ex
      walk_at "rd"
      refine ⟨by show 3 ≤ sizeLine; decide, fun t nt => ?_⟩
      walk_at "rd"
      refine k (.ref t) (.num (wAt ws at_) (lo + r) g) _ _ ⟨t, rfl, hid_pen_new pen3 nt⟩ (lnew_of upd_same (by intro x l y e; cases e)) ⟨rfl, hok r lo3 hi3, hG⟩ (by omega) (by omega) (pen3.ex (Ex.new nt)) (ex03.trans (hid_new nt))
/-- a drawn reader's lines: names, words, lines by places -/
structure Drawn (ns ws : List Str) (ls : List Li) : Prop where
  len : ns.length = ws.length
  lenL : ls.length = ws.length
  pos : 1 ≤ ws.length
  most : ws.length ≤ 8
  nd : ns.Nodup
  nm : ∀ x ∈ ns, Nm x
  wds : Wds ws
  ok : ∀ i li, ls[i]? = some li → LiOk ws i li
/-- the pair of a name and a line -/
def PairAt (H : Hp) (ns : List Str) (v : V) (y : Nat × Li) : Prop := ∃ t x, v = .ref t ∧ H t = some (.tup [.str (wAt ns y.1), x]) ∧ LiAt H ns x y.2
theorem PairAt.mono {H H' : Hp} {ns : List Str} {v : V} {y : Nat × Li} (e : Ex H H') (h : PairAt H ns v y) : PairAt H' ns v y := by
  obtain ⟨t, x, h1, h2, h3⟩ := h
  exact ⟨t, x, h1, e _ _ h2, h3.mono e⟩
def spLines (most : Nat) : Sp := fun vs H Q _ => ∃ (p q : Addr) (s : Int), vs = [.ref p, .int most] ∧ Pen H p q s ∧ s + 20000 < 1099511627776 ∧
  ∀ (l : Addr) (ts : List V) (ns ws : List Str) (ls : List Li) s' H', Drawn ns ws ls → hid [p, q] H' l = some (.lst ts) → Paired (PairAt (hid [p, q] H') ns) ts (numbered ls) → H l = none → s ≤ s' → s' ≤ s + 20000 → Pen H' p q s' → Ex (hid [p, q] H) (hid [p, q] H') → Q (.ref l) H'
theorem ok_law_lines (T : Gtx K mg) : FnOk P w K mg base CX0 6 T.f_law_lines T.d_law_lines ["_law_pen", "_law_most"] (spLines 8) := by
  refine T.F_law_lines.ok sc_law_lines (fun vs H Q E h => ?_) (fun cdv A outer s H vs Q E hr h => ?_)
  · obtain ⟨p, q, s, rfl, _⟩ := h
    rfl
  · obtain ⟨p, q, z, rfl, hpen, hz, k⟩ := h
    refine ⟨_, (Evl.pss_cut (ps_set (i := 2) sc_law_lines.nd rfl (Or.inl rfl) (pe_ifExp (pt_cmpR op_eq (pe_call (ok_law_draw T) (hr.mono (by decide)) rfl T.m_law_draw T.F_law_draw.kp T.b_law_draw .nil pass0 (pa_cons (pv 0) (pa_cons pe_int pa_nil))) pe_int (nomark _)) (pe_call (ok_law_draw T) (hr.mono (by decide)) rfl T.m_law_draw T.F_law_draw.kp T.b_law_draw .nil pass0 (pa_cons (pv 0) (pa_cons (pv 1) pa_nil))) (pe_call (ok_law_draw T) (hr.mono (by decide)) rfl T.m_law_draw T.F_law_draw.kp T.b_law_draw .nil pass0 (pa_cons (pv 0) (pa_cons (pe_op op_sub (pv 1) pe_int) pa_nil)))))
      (pss_cons (ps_set (i := 3) sc_law_lines.nd rfl (Or.inr rfl) (pe_call (ok_law_words T) (hr.mono (by decide)) rfl T.m_law_words T.F_law_words.kp T.b_law_words .nil pass0 (pa_cons (pv 0) (pa_cons (pe_op op_sub (pv 1) (pv 2)) pa_nil))))
      (pss_cons (ps_set (i := 4) sc_law_lines.nd rfl (Or.inr rfl) (pe_call (ok_law_names T) (hr.mono (by decide)) rfl T.m_law_names T.F_law_names.kp T.b_law_names .nil pass0 (pa_cons (pv 0) (pa_cons (pe_callB call_len_seq (by rfl) T.z_len (by decide +kernel) (pa_cons (pv 3) pa_nil)) pa_nil))))
      (pss_one (ps_ret (pe_lc (te := tTup (tCons (tOp (rIxL K) (tVar 4) (tVar 5)) (tCons (tCall spLine [] E0 (tCons (tVar 0) (tCons (tVar 4) (tCons (tVar 3) (tCons (tVar 5) tNil))))) tNil))) rfl sc_law_lines.nd (pi_range1 (by rfl) T.z_range (pa_cons (pe_callB call_len_seq (by rfl) T.z_len (by decide +kernel) (pa_cons (pv 3) pa_nil)) pa_nil)) (blkOk_by (own := [("_law_at", 5)]) (N := ["_law_pen", "_law_most", "_law_few", "_law_words_here", "_law_names_here", "_law_at"]) (sc := defScope s_law_lines) (by decide +kernel)) (fun _ _ _ _ _ => (pg_name (i := 5) sc_law_lines.nd rfl (Or.inl rfl))) (fun _ _ _ _ _ => pts_nil) (fun _ _ _ _ _ => (pe_tup (pa_cons (pe_ix ix_list (pv 4) (pv 5) (fun _ _ => rfl)) (pa_cons (pe_call (ok_law_line T) (hr.mono (by decide)) rfl T.m_law_line T.F_law_line.kp T.b_law_line .nil pass0 (pa_cons (pv 0) (pa_cons (pv 4) (pa_cons (pv 3) (pa_cons (pv 5) pa_nil))))) pa_nil)))))))))), ?_⟩
    have hS : start ["_law_pen", "_law_most", "_law_few", "_law_words_here", "_law_names_here", "_law_at"] [V.ref p, .int (8 : Nat)] = [some (.ref p), some (.int 8), none, none, none, none] := rfl
    rw [hS]
    refine Evl.q_cut (M := fun σ H' => ∃ (r : Int) (s' : Int), 0 ≤ r ∧ r < 8 ∧ σ = [some (.ref p), some (.int 8), some (.int r), none, none, none] ∧ Pen H' p q s' ∧ z ≤ s' ∧ s' ≤ z + 5 ∧ Ex (hid [p, q] H) (hid [p, q] H')) ?_ (fun σ H1 hM => ?_)
    · walk_at "rd"
      refine i_draw hpen (by omega) (by omega) (by omega) (fun r1 H1 lo1 hi1 pen1 b1 => ?_)
      walk_at "rd"
      refine Rd.ite_vi (fun _ => ?_) (fun _ => ?_)
      · walk_at "rd"
        refine i_draw pen1 (by omega) (by omega) (by omega) (fun r2 H2 lo2 hi2 pen2 b2 => ?_)
        walk_at "rd"
        exact ⟨r2, _, lo2, by omega, rfl, pen2, by omega, by omega, b1.ex.trans b2.ex⟩
      · walk_at "rd"
        refine i_draw pen1 (by omega) (by omega) (by omega) (fun r2 H2 lo2 hi2 pen2 b2 => ?_)
        walk_at "rd"
        exact ⟨r2, _, lo2, by omega, rfl, pen2, by omega, by omega, b1.ex.trans b2.ex⟩
    obtain ⟨r, s1, r0, r8, rfl, pen1, lo1, hi1, ex1⟩ := hM
    walk_at "rd"
    obtain ⟨n, hn1, hn8, en⟩ : ∃ n : Nat, 1 ≤ n ∧ n ≤ 8 ∧ 8 - r = (n : Int) := ⟨(8 - r).toNat, by omega, by omega, by omega⟩
    rw [en]
    refine ⟨p, q, n, s1, rfl, pen1, by omega, hn1, hn8, fun ws lw s2 H2 hwl hW hlw nlw lo2 hi2 pen2 ex2 => ?_⟩
    have hml : (ws.map V.str).length = ws.length := List.length_map _
    walk_at "rd"
    refine Rd.i_len (sq_of (hid_get hlw)) ?_
    walk_at "rd"
    rw [hml]
    refine ⟨p, q, ws.length, s2, rfl, pen2, by omega, by omega, fun ns ln s3 H3 hnl hnd hnm hln nln lo3 hi3 pen3 ex3 => ?_⟩
    walk_at "rd"
    refine Rd.i_lcR ?_
    walk_at "rd"
    refine Rd.i_len (sq_of (hid_get (ex3 _ _ hlw))) ?_
    walk_at "rd"
    rw [hml]
    have ex03 := (ex1.trans ex2).trans ex3
    refine Rd.lcR (by omega) (by omega) (fun D hD => ⟨fun i H4 => ∃ (ts : List V) (ls : List Li) (s' : Int), H4 D = some (.lst ts) ∧ ts.length = i ∧ ls.length = i ∧ Paired (PairAt (hid [p, q, D] H4) ns) ts (numbered ls) ∧ (∀ j li, ls[j]? = some li → LiOk ws j li) ∧ Pen H4 p q s' ∧ s3 ≤ s' ∧ s' ≤ s3 + 500 * i ∧ Ex (hid [p, q] H3) (hid [p, q] H4), ?_, ?_, ?_⟩)
    · exact ⟨[], [], s3, upd_same, rfl, rfl, .nil, fun j li h => by simp at h, pen3.mut (pen3.new hD), by omega, by omega, hid_new hD⟩
    · rintro i H4 hi ⟨ts, ls, s', hDl, htl, hll, hts, hok, pen4, lo4, hi4, ex4⟩
      walk_at "rd"
      refine ⟨rfl, ?_⟩
      walk_at "rd"
      have hDn := pen3.new hD
      refine Rd.i_ixL (sq_of (hid_get (ex4 _ _ hln))) (atI_nat (wAt_get (by omega))) ?_
      walk_at "rd"
      refine ⟨p, q, ln, lw, ns, ws, i, s', rfl, pen4, by omega, ex4 _ _ hln, hnl, ex4 _ _ (ex3 _ _ hlw), hW, by omega, by omega, fun v li s5 H5 hv hvn hvo lo5 hi5 pen5 ex5 => ?_⟩
      walk_at "rd"
      refine ⟨by show 2 ≤ sizeLine; decide, fun a na => ?_⟩
      have hD5 : H5 D = some (.lst ts) := hid_get (ex5 _ _ (hid_iff.mpr ⟨hDn, hDl⟩))
      have ad : a ≠ D := (ne_of_none hD5 na).symm
      have e6 : Ex H5 (upd H5 a (.tup [.str (wAt ns i), v])) := Ex.new na
      refine ⟨ts, e6 _ _ hD5, small1000 (by omega), ts ++ [.ref a], ls ++ [li], s5, upd_same, by rw [List.length_append, htl]; rfl, by rw [List.length_append, hll]; rfl, ?_, ?_, (pen5.ex e6).mut hDn, by omega, by omega, hid_mut (ex4.trans (ex5.trans (hid_ex e6))) hD⟩
      · rw [hid_upd in3, numbered_app, hll]
        refine paired_app (paired_mono (fun v y h => h.mono ((hid_more ex5 sub2).trans (hid_ex e6))) hts) (.cons ⟨a, v, rfl, hid_iff.mpr ⟨nin3 (pen5.new na) ad, upd_same⟩, ?_⟩ .nil)
        refine li_hid (e6 _ _ hD5) (fun t x l y e1 h1 e2 => ?_) (hv.mono (hid_ex e6))
        rw [e2] at h1
        by_cases hta : t = a
        · rw [hta, upd_same] at h1
          cases h1
        · rw [upd_ne hta] at h1
          have := hvn t x D y e1 h1
          rw [hDl] at this
          cases this
      · intro j lj hj
        by_cases hjl : j < ls.length
        · rw [List.getElem?_append_left hjl] at hj
          exact hok j lj hj
        · rw [List.getElem?_append_right (by omega)] at hj
          have : j = i := by
            have := (List.getElem?_eq_some_iff.mp hj).1
            simp only [List.length_cons, List.length_nil] at this
            omega
          subst this
          rw [hll, Nat.sub_self] at hj
          cases hj
          exact hvo
    · rintro H4 ⟨ts, ls, s', hDl, htl, hll, hts, hok, pen4, lo4, hi4, ex4⟩
      walk_at "rd"
      rw [Int.toNat_natCast] at htl hll hi4
      refine k D ts ns ws ls s' H4 ⟨hnl, by omega, by omega, by omega, hnd, hnm, hW, hok⟩ (hid_iff.mpr ⟨pen3.new hD, hDl⟩) (paired_mono (fun v y h => h.mono (hid_less sub2)) hts) ?_ (by omega) (by omega) pen4 (ex03.trans ex4)
      cases e : H D with
      | none => rfl
      | some o =>
        have := hid_get (ex03 _ _ (hid_iff.mpr ⟨pen3.new hD, e⟩))
        rw [hD] at this
        cases this
end
end K02

namespace K02
open PySem L2
local macro_rules | `(tactic| walk_at "rd1") => `(tactic| first
  | (with_reducible refine Rd.i_seq ?_) | (with_reducible refine Rd.i_asg ?_) | (with_reducible refine Rd.i_name ?_) | (with_reducible refine Rd.i_nx ?_) | (with_reducible refine Rd.i_rt ?_) | (with_reducible refine Rd.i_next ?_) | (with_reducible refine Rd.i_ct ?_) | (with_reducible refine Rd.i_bk ?_)
  | (with_reducible refine Rd.i_ret ?_) | (with_reducible refine Rd.i_drop ?_) | (with_reducible refine Rd.i_ifS ?_) | (with_reducible refine Rd.i_sub ?_)
  | (with_reducible refine Rd.i_var (by with_unfolding_all exact rfl) ?_) | (with_reducible refine Rd.i_c ?_) | (with_reducible refine Rd.i_op ?_) | (with_reducible refine Rd.i_un ?_)
  | (with_reducible refine Rd.i_rI0 ?_) | (with_reducible refine Rd.i_rI (by with_unfolding_all first | omega | exact Rd.mulL (by omega) (by omega) | exact Rd.mulR (by omega) (by omega) | decide | (refine ⟨?_, ?_⟩ <;> omega) | (refine ⟨?_, ?_, ?_⟩ <;> omega)) ?_)
  | (with_reducible refine Rd.i_rEq (by with_unfolding_all exact rfl) ?_) | (with_reducible refine Rd.i_rNe (by with_unfolding_all exact rfl) ?_)
  | (with_reducible refine Rd.i_test ?_) | (with_reducible refine Rd.i_tB ?_) | (with_reducible refine Rd.i_bl ?_) | (with_reducible refine Rd.i_and ?_) | (with_reducible refine Rd.i_or ?_) | (with_reducible refine Rd.i_not ?_) | (with_reducible refine Rd.i_notV ?_) | (with_reducible refine Rd.i_andV ?_) | (with_reducible refine Rd.i_orV ?_) | (with_reducible refine Rd.i_if ?_) | (with_reducible refine Rd.i_chain ?_)
  | (with_reducible refine Rd.i_call ?_) | (with_reducible refine Rd.i_nil ?_) | (with_reducible refine Rd.i_cons ?_) | (with_reducible refine Rd.i_cb ?_) | (with_reducible refine Rd.i_bm ?_) | (with_reducible refine Rd.i_bm0 ?_) | (with_reducible refine Rd.i_tup ?_) | (with_reducible refine Rd.i_lst ?_)
  | (with_reducible refine Rd.i_int1 ?_) | (with_reducible refine Rd.i_intb ?_) | (with_reducible refine Rd.i_max ?_)
  | (with_reducible refine Rd.i_ixL (SqL.of (by first | assumption | exact upd_same)) (by with_unfolding_all first | exact rfl | exact atI_nat rfl) ?_) | (with_reducible refine Rd.i_ixT (SqT.of (by first | assumption | exact upd_same)) (by with_unfolding_all exact rfl) ?_)
  | (with_reducible refine Rd.i_setL (by first | assumption | exact upd_same) (by with_unfolding_all exact rfl) ?_)
  | (with_reducible refine Xv.i_mkV ?_) | (with_reducible refine Xv.i_xat ?_)
  | (with_reducible refine Rd.i_yes ?_) | (with_reducible refine Rd.i_m1 ?_) | (with_reducible refine Rd.i_m0 ?_) | (with_reducible refine Rd.ite_T ?_) | (with_reducible refine Rd.ite_F ?_) | (with_reducible refine Rd.i_forR ?_) | (with_reducible refine Rd.i_forL ?_) | (with_reducible refine Rd.i_forT ?_)
  | (with_reducible refine Hd.i_rU ?_) | (with_reducible refine Hd.i_pcons ?_) | (with_reducible refine Hd.i_pnil ?_) | (with_reducible refine Hd.i_disp ?_) | (with_reducible refine Hd.i_dget ?_)
  | (with_reducible refine Hd.i_lstRg ?_) | (with_reducible refine Hd.i_rg1 ?_) | (with_reducible refine Hd.i_rg2 ?_) | (with_reducible refine Hd.i_ex1 ?_) | (with_reducible refine Hd.i_ex2 ?_)
  | (with_reducible refine Rd.i_gtup (SqT.of (by first | assumption | exact upd_same)) (by with_unfolding_all exact rfl) ?_) | (with_reducible refine Rd.i_gcons ?_) | (with_reducible refine Rd.i_gnil ?_)
  | (with_reducible refine Rd.i_lenT (SqT.of (by first | assumption | exact upd_same)) ?_) | (with_reducible refine Rd.i_len (SqL.of (by first | assumption | exact upd_same)) ?_)
  | (with_reducible refine Nr.ite_eF (by first | decide +kernel | with_unfolding_all exact rfl) ?_) | (with_reducible refine Nr.ite_eT (by first | decide +kernel | with_unfolding_all exact rfl) ?_)
  | (with_reducible refine Nr.i_tyL (by first | assumption | exact upd_same) ?_)
  | (with_reducible refine Nr.i_tupT (SqT.of (by first | assumption | exact upd_same)) ?_)
  | (with_reducible refine Nr.i_sl ?_) | (with_reducible refine Nr.i_part ?_) | (with_reducible refine Nr.i_nop ?_) | (with_reducible refine Nr.i_star ?_)
  | fail "stop")
local macro_rules | `(tactic| walk_at "rd") => `(tactic| repeat walk_at "rd1")
abbrev s_is_name : Stmt := topS 17
theorem sc_is_name : FnScope ["text", "letter"] ["text"] (defScope s_is_name) := ⟨rfl, rfl, rfl, by decide +kernel, rfl, by decide +kernel, by decide +kernel⟩

abbrev s_within : Stmt := topS 18
theorem sc_within : FnScope ["number", "bounds"] ["number", "bounds"] (defScope s_within) := ⟨rfl, rfl, rfl, by decide +kernel, rfl, by decide +kernel, by decide +kernel⟩

abbrev s_are_ways : Stmt := topS 19
theorem sc_are_ways : FnScope ["ways", "values", "way"] ["ways"] (defScope s_are_ways) := ⟨rfl, rfl, rfl, by decide +kernel, rfl, by decide +kernel, by decide +kernel⟩

abbrev s_has_form : Stmt := topS 20
theorem sc_has_form : FnScope ["line", "word"] ["line"] (defScope s_has_form) := ⟨rfl, rfl, rfl, by decide +kernel, rfl, by decide +kernel, by decide +kernel⟩

abbrev s_frozen : Stmt := topS 21
theorem sc_frozen : FnScope ["line", "way"] ["line"] (defScope s_frozen) := ⟨rfl, rfl, rfl, by decide +kernel, rfl, by decide +kernel, by decide +kernel⟩

abbrev s_goals : Stmt := topS 22
theorem sc_goals : FnScope ["line", "_", "name"] ["line"] (defScope s_goals) := ⟨rfl, rfl, rfl, by decide +kernel, rfl, by decide +kernel, by decide +kernel⟩

abbrev s_check_forms : Stmt := topS 23
theorem sc_check_forms : FnScope ["lines", "names", "number", "name", "line"] ["lines"] (defScope s_check_forms) := ⟨rfl, rfl, rfl, by decide +kernel, rfl, by decide +kernel, by decide +kernel⟩

abbrev s_check_goals : Stmt := topS 24
theorem sc_check_goals : FnScope ["lines", "names", "name", "_", "number", "line", "goal"] ["lines"] (defScope s_check_goals) := ⟨rfl, rfl, rfl, by decide +kernel, rfl, by decide +kernel, by decide +kernel⟩

abbrev s_silent_ways : Stmt := topS 25
theorem sc_silent_ways : FnScope ["lines", "name", "line"] ["lines"] (defScope s_silent_ways) := ⟨rfl, rfl, rfl, by decide +kernel, rfl, by decide +kernel, by decide +kernel⟩

abbrev s_reached : Stmt := topS 26
theorem sc_reached : FnScope ["ways", "names", "found", "ahead", "name"] ["ways", "names"] (defScope s_reached) := ⟨rfl, rfl, rfl, by decide +kernel, rfl, by decide +kernel, by decide +kernel⟩

abbrev s_check_rings : Stmt := topS 27
theorem sc_check_rings : FnScope ["lines", "ways", "number", "name", "_"] ["lines"] (defScope s_check_rings) := ⟨rfl, rfl, rfl, by decide +kernel, rfl, by decide +kernel, by decide +kernel⟩

abbrev s_check_begin : Stmt := topS 28
theorem sc_check_begin : FnScope ["lines", "begun", "number", "name", "line"] ["lines"] (defScope s_check_begin) := ⟨rfl, rfl, rfl, by decide +kernel, rfl, by decide +kernel, by decide +kernel⟩

abbrev s_Reader___init : Stmt := inClass (topS 16) 0
theorem sc_Reader___init : FnScope ["self", "lines", "name", "line"] ["self", "lines"] (defScope s_Reader___init) := ⟨rfl, rfl, rfl, by decide +kernel, rfl, by decide +kernel, by decide +kernel⟩

abbrev s_Reader___eq : Stmt := inClass (topS 16) 1
theorem sc_Reader___eq : FnScope ["self", "other"] ["self", "other"] (defScope s_Reader___eq) := ⟨rfl, rfl, rfl, by decide +kernel, rfl, by decide +kernel, by decide +kernel⟩

abbrev s_Reader_names : Stmt := inClass (topS 16) 2
theorem sc_Reader_names : FnScope ["self", "name", "_"] ["self"] (defScope s_Reader_names) := ⟨rfl, rfl, rfl, by decide +kernel, rfl, by decide +kernel, by decide +kernel⟩

abbrev s_Reader_line_of : Stmt := inClass (topS 16) 3
theorem sc_Reader_line_of : FnScope ["self", "name", "own", "line"] ["self", "name"] (defScope s_Reader_line_of) := ⟨rfl, rfl, rfl, by decide +kernel, rfl, by decide +kernel, by decide +kernel⟩

abbrev s_Reader_exits : Stmt := inClass (topS 16) 4
theorem sc_Reader_exits : FnScope ["self", "name", "found", "goal"] ["self", "name"] (defScope s_Reader_exits) := ⟨rfl, rfl, rfl, by decide +kernel, rfl, by decide +kernel, by decide +kernel⟩

abbrev s_Reader_reads : Stmt := inClass (topS 16) 5
theorem sc_Reader_reads : FnScope ["self", "name"] ["self", "name"] (defScope s_Reader_reads) := ⟨rfl, rfl, rfl, by decide +kernel, rfl, by decide +kernel, by decide +kernel⟩

abbrev s_Reader_replaced : Stmt := inClass (topS 16) 6
theorem sc_Reader_replaced : FnScope ["self", "name", "line", "own", "old"] ["self", "name", "line"] (defScope s_Reader_replaced) := ⟨rfl, rfl, rfl, by decide +kernel, rfl, by decide +kernel, by decide +kernel⟩

abbrev s_NoLine___init : Stmt := inClass (topS 6) 0
theorem sc_NoLine___init : FnScope ["self", "name"] ["self", "name"] (defScope s_NoLine___init) := ⟨rfl, rfl, rfl, by decide +kernel, rfl, by decide +kernel, by decide +kernel⟩
abbrev entT : List (Str × Int) := [("case", 3), ("take", 2), ("rest", 3), ("cap", 3), ("jump", 3), ("set", 3), ("upto", 4), ("skip", 3), ("cut", 1), ("refuse", 1)]
abbrev bndT : List (Str × Int × Int) := [("rest", 2, 4), ("cap", 0, 5), ("jump", 1, 4), ("set", 0, 5), ("upto", 0, 5), ("skip", -3, 4)]
structure Ptx (w : World) (K : PySem.W.Frag) (mg : Str → Option Value) where
  f_is_name : Addr
  d_is_name : FuncData
  F_is_name : Fun K "is_name" "is_name" s_is_name f_is_name d_is_name
  b_is_name : Binds K d_is_name ["text"] []
  m_is_name : mg "is_name" = some (.ref f_is_name)
  f_within : Addr
  d_within : FuncData
  F_within : Fun K "_within" "_within" s_within f_within d_within
  b_within : Binds K d_within ["number", "bounds"] []
  m_within : mg "_within" = some (.ref f_within)
  f_are_ways : Addr
  d_are_ways : FuncData
  F_are_ways : Fun K "_are_ways" "_are_ways" s_are_ways f_are_ways d_are_ways
  b_are_ways : Binds K d_are_ways ["ways"] []
  m_are_ways : mg "_are_ways" = some (.ref f_are_ways)
  f_has_form : Addr
  d_has_form : FuncData
  F_has_form : Fun K "_has_form" "_has_form" s_has_form f_has_form d_has_form
  b_has_form : Binds K d_has_form ["line"] []
  m_has_form : mg "_has_form" = some (.ref f_has_form)
  f_frozen : Addr
  d_frozen : FuncData
  F_frozen : Fun K "_frozen" "_frozen" s_frozen f_frozen d_frozen
  b_frozen : Binds K d_frozen ["line"] []
  m_frozen : mg "_frozen" = some (.ref f_frozen)
  f_goals : Addr
  d_goals : FuncData
  F_goals : Fun K "_goals" "_goals" s_goals f_goals d_goals
  b_goals : Binds K d_goals ["line"] []
  m_goals : mg "_goals" = some (.ref f_goals)
  f_check_forms : Addr
  d_check_forms : FuncData
  F_check_forms : Fun K "_check_forms" "_check_forms" s_check_forms f_check_forms d_check_forms
  b_check_forms : Binds K d_check_forms ["lines"] []
  m_check_forms : mg "_check_forms" = some (.ref f_check_forms)
  f_check_goals : Addr
  d_check_goals : FuncData
  F_check_goals : Fun K "_check_goals" "_check_goals" s_check_goals f_check_goals d_check_goals
  b_check_goals : Binds K d_check_goals ["lines"] []
  m_check_goals : mg "_check_goals" = some (.ref f_check_goals)
  f_silent_ways : Addr
  d_silent_ways : FuncData
  F_silent_ways : Fun K "_silent_ways" "_silent_ways" s_silent_ways f_silent_ways d_silent_ways
  b_silent_ways : Binds K d_silent_ways ["lines"] []
  m_silent_ways : mg "_silent_ways" = some (.ref f_silent_ways)
  f_reached : Addr
  d_reached : FuncData
  F_reached : Fun K "_reached" "_reached" s_reached f_reached d_reached
  b_reached : Binds K d_reached ["ways", "names"] []
  m_reached : mg "_reached" = some (.ref f_reached)
  f_check_rings : Addr
  d_check_rings : FuncData
  F_check_rings : Fun K "_check_rings" "_check_rings" s_check_rings f_check_rings d_check_rings
  b_check_rings : Binds K d_check_rings ["lines"] []
  m_check_rings : mg "_check_rings" = some (.ref f_check_rings)
  f_check_begin : Addr
  d_check_begin : FuncData
  F_check_begin : Fun K "_check_begin" "_check_begin" s_check_begin f_check_begin d_check_begin
  b_check_begin : Binds K d_check_begin ["lines"] []
  m_check_begin : mg "_check_begin" = some (.ref f_check_begin)
  a_ENTRIES : Addr
  es_E : Array DictEntry
  n_E : Nat
  m_ENTRIES : mg "ENTRIES" = some (.ref a_ENTRIES)
  kd_E : KDict K w a_ENTRIES es_E n_E
  v_E : ∀ x n, (x, n) ∈ entT → KDct K w a_ENTRIES x (.int n)
  a_BOUNDS : Addr
  es_B : Array DictEntry
  n_B : Nat
  m_BOUNDS : mg "BOUNDS" = some (.ref a_BOUNDS)
  kd_B : KDict K w a_BOUNDS es_B n_B
  v_B : ∀ x lo hi, (x, lo, hi) ∈ bndT → ∃ a, KDct K w a_BOUNDS x (.ref a) ∧ ∀ H, SqT K H a [.int lo, .int hi]
  o_B : ∀ x, x ∈ (["case", "take", "cut", "refuse"] : List Str) → PySem.W.nsIn K a_BOUNDS x = some none
  a_VALUES : Addr
  m_VALUES : mg "VALUES" = some (.ref a_VALUES)
  q_VALUES : ∀ H, SqT K H a_VALUES [.int 0, .int 5]
  a_READING : Addr
  m_READING : mg "READING" = some (.ref a_READING)
  q_READING : ∀ H, SqT K H a_READING [.str "case", .str "take", .str "rest", .str "cap", .str "jump"]
  a_NEVER_FIRST : Addr
  m_NEVER_FIRST : mg "NEVER_FIRST" = some (.ref a_NEVER_FIRST)
  q_NEVER_FIRST : ∀ H, SqT K H a_NEVER_FIRST [.str "cut", .str "skip", .str "refuse"]
  t_L : Tok
  t_M : Tok
  t_N : Tok
  m_MOST_LINES : mg "MOST_LINES" = some (.int 8 t_L)
  m_MOST_LETTERS : mg "MOST_LETTERS" = some (.int 12 t_M)
  m_LETTERS : mg "LETTERS" = some (.str "abcdefghijklmnopqrstuvwxyz" t_N)
  z_len : mg "len" = none
  z_all : mg "all" = none
  z_list : mg "list" = none
  z_tuple : mg "tuple" = none
  z_enumerate : mg "enumerate" = none
  z_isinstance : mg "isinstance" = none
  c_Reader : Addr
  m_Reader : mg "Reader" = some (.ref c_Reader)
  cl_Reader : Cls K c_Reader
  n_lines : NoAttr K c_Reader "lines"
  f_Reader___init : Addr
  d_Reader___init : FuncData
  F_Reader___init : Fun K "__init__" "Reader.__init__" s_Reader___init f_Reader___init d_Reader___init
  b_Reader___init : Binds K d_Reader___init ["self", "lines"] []
  mk_Reader : Mk K c_Reader f_Reader___init
  f_Reader___eq : Addr
  d_Reader___eq : FuncData
  F_Reader___eq : Fun K "__eq__" "Reader.__eq__" s_Reader___eq f_Reader___eq d_Reader___eq
  b_Reader___eq : Binds K d_Reader___eq ["self", "other"] []
  h_Reader___eq : Meth K c_Reader "__eq__" f_Reader___eq
  f_Reader_names : Addr
  d_Reader_names : FuncData
  F_Reader_names : Fun K "names" "Reader.names" s_Reader_names f_Reader_names d_Reader_names
  b_Reader_names : Binds K d_Reader_names ["self"] []
  h_Reader_names : Meth K c_Reader "names" f_Reader_names
  f_Reader_line_of : Addr
  d_Reader_line_of : FuncData
  F_Reader_line_of : Fun K "line_of" "Reader.line_of" s_Reader_line_of f_Reader_line_of d_Reader_line_of
  b_Reader_line_of : Binds K d_Reader_line_of ["self", "name"] []
  h_Reader_line_of : Meth K c_Reader "line_of" f_Reader_line_of
  f_Reader_exits : Addr
  d_Reader_exits : FuncData
  F_Reader_exits : Fun K "exits" "Reader.exits" s_Reader_exits f_Reader_exits d_Reader_exits
  b_Reader_exits : Binds K d_Reader_exits ["self", "name"] []
  h_Reader_exits : Meth K c_Reader "exits" f_Reader_exits
  f_Reader_reads : Addr
  d_Reader_reads : FuncData
  F_Reader_reads : Fun K "reads" "Reader.reads" s_Reader_reads f_Reader_reads d_Reader_reads
  b_Reader_reads : Binds K d_Reader_reads ["self", "name"] []
  h_Reader_reads : Meth K c_Reader "reads" f_Reader_reads
  f_Reader_replaced : Addr
  d_Reader_replaced : FuncData
  F_Reader_replaced : Fun K "replaced" "Reader.replaced" s_Reader_replaced f_Reader_replaced d_Reader_replaced
  b_Reader_replaced : Binds K d_Reader_replaced ["self", "name", "line"] []
  h_Reader_replaced : Meth K c_Reader "replaced" f_Reader_replaced
  c_NoLine : Addr
  i_NoLine : Addr
  d_NoLine : FuncData
  F_NoLine : Fun K "__init__" "NoLine.__init__" s_NoLine___init i_NoLine d_NoLine
  b_NoLine : Binds K d_NoLine ["self", "name"] []
  x_NoLine : Xv.XC K c_NoLine i_NoLine "name"
  e_NoLine : ExcC K c_NoLine
  m_NoLine : mg "NoLine" = some (.ref c_NoLine)
section
variable {P : Program} {w : World} {K : PySem.W.Frag} {mg : Str → Option Value} {base : Heap}
open Evl Hd
theorem i_lcS' {σ : L2.St} {H : Hp} {te e : TE} {g : TG} {t : TT} {vs : List Nat} {Q : VK} (q : te σ H fun v H1 => ∃ x, v = .str x ∧ Rd.LcAsk (Its x) g t e vs σ Q H1) : tLc (iStr te) g t e vs σ H Q := q
theorem ex_mut {H0 H : Hp} {D : Addr} {o : HO} (e : Ex H0 H) (n : H0 D = none) : Ex H0 (upd H D o) := fun b u h => by
  rw [upd_ne (ne_of_none h n)]
  exact e b u h
theorem paired_get {α β : Type} {F : α → β → Prop} {l : List α} {m : List β} (h : Paired F l m) : ∀ {i : Nat} {x : α}, l[i]? = some x → ∃ y, m[i]? = some y ∧ F x y := by
  induction h with
  | nil => intro i x hx; simp at hx
  | cons r t ih =>
    intro i x hx
    cases i with
    | zero => cases hx; exact ⟨_, rfl, r⟩
    | succ i => exact ih hx
theorem take_nodup {α β : Type} {f : α → β} {l : List α} {i : Nat} {y : α} (hnd : (l.map f).Nodup) (hy : l[i]? = some y) : f y ∉ (l.take i).map f := fun hm => by
  obtain ⟨hi, hyi⟩ := List.getElem?_eq_some_iff.mp hy
  have hd : l.drop i = y :: l.drop (i + 1) := by rw [List.drop_eq_getElem_cons hi, hyi]
  rw [← List.take_append_drop i l, hd, List.map_append, List.map_cons] at hnd
  exact (List.nodup_append.mp hnd).2.2 _ hm _ List.mem_cons_self rfl
theorem paired_len {α β : Type} {F : α → β → Prop} : ∀ {l : List α} {m : List β}, Paired F l m → l.length = m.length
  | _, _, .nil => rfl
  | _, _, .cons _ t => congrArg (· + 1) (paired_len t)
theorem az_in : ∀ c : _root_.Fin 26, (97 + c.1) ∈ (Str.ofString "abcdefghijklmnopqrstuvwxyz").cps.toList := by decide +kernel
def spIsName : Sp := fun vs H Q _ => ∃ x : Str, vs = [.str x] ∧ Nm x ∧ ∀ H', Ex H H' → Q (.bl true) H'
theorem ok_is_name (T : Ptx w K mg) : FnOk P w K mg base CX0 1 T.f_is_name T.d_is_name ["text"] spIsName := by
  refine T.F_is_name.ok sc_is_name (fun vs H Q E h => ?_) (fun cdv A outer s H vs Q E hr h => ?_)
  · obtain ⟨x, rfl, _⟩ := h
    rfl
  · obtain ⟨x, rfl, hx, k⟩ := h
    refine ⟨_, (pss_one (ps_ret (pe_and (pe_chain op_le op_le pe_int (pe_callB call_len_str (by rfl) T.z_len (by decide +kernel) (pa_cons (pv 0) pa_nil)) (pe_glob (v := .int 12) rfl T.m_MOST_LETTERS ⟨_, rfl⟩)) (pe_one (pe_callB (cr_all rfl) (by rfl) T.z_all (by decide +kernel) (pa_cons (pe_lc rfl sc_is_name.nd (pi_str (pv 0)) (blkOk_by (own := [("letter", 1)]) (N := ["text", "letter"]) (sc := defScope s_is_name) (by decide +kernel)) (fun _ _ _ _ _ => (pg_name (i := 1) sc_is_name.nd rfl (Or.inl rfl))) (fun _ _ _ _ _ => pts_nil) (fun _ _ _ _ _ => (pe_cmpR op_in_sign (pv 1) (pe_glob (v := .str "abcdefghijklmnopqrstuvwxyz") rfl T.m_LETTERS ⟨_, rfl⟩) (by rfl)))) pa_nil)))))), ?_⟩
    have hS : start ["text", "letter"] [V.str x] = [some (.str x), none] := rfl
    rw [hS]
    walk_at "rd"
    refine ⟨x, rfl, Nat.le_trans hx.hi (by decide), ?_⟩
    walk_at "rd"
    rw [show decide ((1 : Int) ≤ (x.length : Int)) = true from decide_eq_true (by have := hx.lo; omega)]
    walk_at "rd"
    rw [show decide ((x.length : Int) ≤ 12) = true from decide_eq_true (by have := hx.hi; omega)]
    walk_at "rd"
    refine i_lcS' ?_
    walk_at "rd"
    refine ⟨x, rfl, fun D hD => lc_it walk_str (fun i H2 => H2 D = some (.lst ((List.replicate i true).map V.bl)) ∧ Ex H H2) ⟨upd_same, Ex.new hD⟩ (fun _ _ _ _ => trivial) ?_ ?_⟩
    · rintro i v H2 H3 hi ⟨hDl, ex2⟩ ⟨rfl, c, hc, rfl⟩
      have hmem : c ∈ x.cps.toList := by
        rw [← Array.getElem?_toList] at hc
        exact List.mem_of_getElem? hc
      have hcin : c ∈ (Str.ofString "abcdefghijklmnopqrstuvwxyz").cps.toList := by
        obtain ⟨h1, h2⟩ := hx.az c hmem
        have := az_in ⟨c - 97, by omega⟩
        rwa [show 97 + (c - 97) = c by omega] at this
      walk_at "rd"
      refine ⟨rfl, ?_⟩
      walk_at "rd"
      refine ⟨c, _, rfl, rfl, ?_⟩
      rw [decide_eq_true hcin]
      have h12 := hx.hi
      refine ⟨_, hDl, small1000 (by rw [List.length_map, List.length_replicate]; have : x.cps.size = x.length := rfl; omega), ?_, ex_mut ex2 hD⟩
      rw [upd_same, List.replicate_succ', List.map_append]
      rfl
    · rintro H2 ⟨hDl, ex2⟩
      walk_at "rd"
      refine ⟨D, _, rfl, SqL.of hDl, ?_⟩
      rw [show (List.replicate x.cps.size true).all id = true from List.all_eq_true.mpr fun y hy => by rw [List.eq_of_mem_replicate hy]; rfl]
      exact k _ ex2
def spWithin (K : PySem.W.Frag) : Sp := fun vs H Q _ => ∃ (c lo hi : Int) (b : Addr), vs = [.int c, .ref b] ∧ SqT K H b [.int lo, .int hi] ∧ Q (.bl (decide (lo ≤ c) && decide (c ≤ hi))) H
theorem ok_within (T : Ptx w K mg) : FnOk P w K mg base CX0 1 T.f_within T.d_within ["number", "bounds"] (spWithin K) := by
  refine T.F_within.ok sc_within (fun vs H Q E h => ?_) (fun cdv A outer s H vs Q E hr h => ?_)
  · obtain ⟨c, lo, hi, b, rfl, _⟩ := h
    rfl
  · obtain ⟨c, lo, hi, b, rfl, hb, k⟩ := h
    refine ⟨_, (pss_one (ps_ret (pe_chain op_le op_le (pe_ix ix_tup (pv 1) pe_int (fun _ _ => rfl)) (pv 0) (pe_ix ix_tup (pv 1) pe_int (fun _ _ => rfl))))), ?_⟩
    have hS : start ["number", "bounds"] [V.int c, .ref b] = [some (.int c), some (.ref b)] := rfl
    rw [hS]
    walk_at "rd"
    refine Rd.i_ixT hb (v := .int lo) rfl ?_
    walk_at "rd"
    by_cases h1 : lo ≤ c
    · rw [decide_eq_true h1] at k ⊢
      walk_at "rd"
      refine Rd.i_ixT hb (v := .int hi) rfl ?_
      walk_at "rd"
      exact k
    · rw [decide_eq_false h1] at k ⊢
      walk_at "rd"
      exact k
def spAreWays (K : PySem.W.Frag) : Sp := fun vs H Q _ => ∃ (l : Addr) (ts : List V) (ns : List Str) (wy : List (Int × Nat)), vs = [.ref l] ∧ Nr.Sq K H l ts ∧ WaysAt H ns ts wy ∧ (wy.map (·.1)).Nodup ∧ (∀ y ∈ wy, 0 ≤ y.1 ∧ y.1 ≤ 5) ∧ wy.length ≤ 5 ∧ ∀ H', Ex H H' → Q (.bl true) H'
theorem ok_are_ways (T : Ptx w K mg) : FnOk P w K mg base CX0 2 T.f_are_ways T.d_are_ways ["ways"] (spAreWays K) := by
  refine T.F_are_ways.ok sc_are_ways (fun vs H Q E h => ?_) (fun cdv A outer s H vs Q E hr h => ?_)
  · obtain ⟨l, ts, ns, wy, rfl, _⟩ := h
    rfl
  · obtain ⟨l, ts, ns, wy, rfl, hl, hts, hnd, hb, hlen, k⟩ := h
    refine ⟨_, (pss_cons (ps_set (i := 1) sc_are_ways.nd rfl (Or.inl rfl) (pe_lst pa_nil))
      (pss_cons (ps_for PassesOwn.never rfl (Nr.pi_seq (pv 0)) (pg_name (i := 2) sc_are_ways.nd rfl (Or.inl rfl))
        (pss_cons (ps_if (PW.pt (pw_or (pt_cmpR op_ne (pe_callB call_len_seq (by rfl) T.z_len (by decide +kernel) (pa_cons (pv 2) pa_nil)) pe_int (nomark _)) (pw_or (pt_not (pt_val (pe_call (ok_within T) (hr.mono (by decide)) rfl T.m_within T.F_within.kp T.b_within .nil pass0 (pa_cons (pe_ix ix_tup (pv 2) pe_int (fun _ _ => rfl)) (pa_cons (pe_glob (v := .ref T.a_VALUES) rfl T.m_VALUES rfl) pa_nil))))) (pw_or1 (pt_cmpR op_in_seq (pe_ix ix_tup (pv 2) pe_int (fun _ _ => rfl)) (pv 1) (by rfl))))))
          (pss_one (ps_ret pe_bl))
          pss_nil)
        (pss_one (ps_expr (pe_bm PySem.F.plainAttrs_list PySem.F.slot_list_append PySem.F.type_list_append mt_append (pv 1) (pa_cons (pe_ix ix_tup (pv 2) pe_int (fun _ _ => rfl)) pa_nil))))))
      (pss_one (ps_ret pe_bl)))), ?_⟩
    have hS : start ["ways", "values", "way"] [V.ref l] = [some (.ref l), none, none] := rfl
    rw [hS]
    walk_at "rd"
    refine ⟨Nat.zero_le _, fun vl nvl => ?_⟩
    walk_at "rd"
    refine Nr.i_forS ?_
    walk_at "rd"
    refine Nr.forS hl (fun i σ H2 => ∃ u : Option V, σ = [some (.ref l), some (.ref vl), u] ∧ H2 vl = some (.lst (((wy.take i).map (·.1)).map V.int)) ∧ Ex H H2) ⟨_, rfl, upd_same, Ex.new nvl⟩ (fun _ _ _ ⟨_, _, _, e⟩ => e) ?_ ?_
    · rintro i x _ H2 hx ⟨u, rfl, hv, ex2⟩
      obtain ⟨y, hy, a, rfl, ha⟩ := paired_get hts hx
      have hym : y ∈ wy := List.mem_of_getElem? hy
      have ha2 : H2 a = some (.tup [.int y.1, .str (wAt ns y.2)]) := ex2 _ _ ha
      walk_at "rd"
      refine ⟨y.1, 0, 5, T.a_VALUES, rfl, T.q_VALUES _, ?_⟩
      rw [decide_eq_true (hb y hym).1, decide_eq_true (hb y hym).2]
      walk_at "rd"
      refine ⟨vl, _, rfl, .inl (SqL.of hv), rfl, flat_int _, ?_⟩
      rw [inV_int]
      have hnew : y.1 ∉ (wy.take i).map (·.1) := take_nodup hnd hy
      rw [decide_eq_false hnew]
      walk_at "rd"
      refine Rd.i_append hv (small1000 (by rw [List.length_map, List.length_map, List.length_take]; omega)) ?_
      walk_at "rd"
      refine ⟨_, rfl, ?_, ex_mut ex2 nvl⟩
      rw [upd_same, List.take_succ, hy, List.map_append, List.map_append]
      rfl
    · rintro _ H2 ⟨u, rfl, _, ex2⟩
      walk_at "rd"
      exact k _ ex2
/-- a line at hand: its ways a list or a tuple -/
def LnAt (K : PySem.W.Frag) (H : Hp) (ns : List Str) (v : V) : Li → Prop
  | .case wy o => ∃ t l ts, v = .ref t ∧ H t = some (.tup [.str "case", .ref l, .str (wAt ns o)]) ∧ Nr.Sq K H l ts ∧ WaysAt H ns ts wy
  | .take o => ∃ t, v = .ref t ∧ H t = some (.tup [.str "take", .str (wAt ns o)])
  | .num w c o => ∃ t, v = .ref t ∧ H t = some (.tup [.str w, .int c, .str (wAt ns o)])
  | .upto c a b => ∃ t, v = .ref t ∧ H t = some (.tup [.str "upto", .int c, .str (wAt ns a), .str (wAt ns b)])
  | .fin w => ∃ t, v = .ref t ∧ H t = some (.tup [.str w])
/-- its ways a tuple -/
def LtAt (H : Hp) (ns : List Str) (v : V) : Li → Prop
  | .case wy o => ∃ t l ts, v = .ref t ∧ H t = some (.tup [.str "case", .ref l, .str (wAt ns o)]) ∧ H l = some (.tup ts) ∧ WaysAt H ns ts wy
  | .take o => ∃ t, v = .ref t ∧ H t = some (.tup [.str "take", .str (wAt ns o)])
  | .num w c o => ∃ t, v = .ref t ∧ H t = some (.tup [.str w, .int c, .str (wAt ns o)])
  | .upto c a b => ∃ t, v = .ref t ∧ H t = some (.tup [.str "upto", .int c, .str (wAt ns a), .str (wAt ns b)])
  | .fin w => ∃ t, v = .ref t ∧ H t = some (.tup [.str w])
theorem LiAt.ln {H : Hp} {ns : List Str} {v : V} : ∀ {li : Li}, LiAt H ns v li → LnAt K H ns v li
  | .case _ _, ⟨t, l, ts, h1, h2, h3, h4⟩ => ⟨t, l, ts, h1, h2, .inl (SqL.of h3), h4⟩
  | .take _, h => h
  | .num _ _ _, h => h
  | .upto _ _ _, h => h
  | .fin _, h => h
theorem LtAt.ln {H : Hp} {ns : List Str} {v : V} : ∀ {li : Li}, LtAt H ns v li → LnAt K H ns v li
  | .case _ _, ⟨t, l, ts, h1, h2, h3, h4⟩ => ⟨t, l, ts, h1, h2, .inr (SqT.of h3), h4⟩
  | .take _, h => h
  | .num _ _ _, h => h
  | .upto _ _ _, h => h
  | .fin _, h => h
theorem LnAt.mono {H H' : Hp} {ns : List Str} {v : V} (e : Ex H H') : ∀ {li : Li}, LnAt K H ns v li → LnAt K H' ns v li
  | .case _ _, ⟨t, l, ts, h1, h2, h3, h4⟩ => ⟨t, l, ts, h1, e _ _ h2, h3.mono e, paired_mono (fun _ _ h => h.mono e) h4⟩
  | .take _, ⟨t, h1, h2⟩ => ⟨t, h1, e _ _ h2⟩
  | .num _ _ _, ⟨t, h1, h2⟩ => ⟨t, h1, e _ _ h2⟩
  | .upto _ _ _, ⟨t, h1, h2⟩ => ⟨t, h1, e _ _ h2⟩
  | .fin _, ⟨t, h1, h2⟩ => ⟨t, h1, e _ _ h2⟩
theorem LtAt.mono {H H' : Hp} {ns : List Str} {v : V} (e : Ex H H') : ∀ {li : Li}, LtAt H ns v li → LtAt H' ns v li
  | .case _ _, ⟨t, l, ts, h1, h2, h3, h4⟩ => ⟨t, l, ts, h1, e _ _ h2, e _ _ h3, paired_mono (fun _ _ h => h.mono e) h4⟩
  | .take _, ⟨t, h1, h2⟩ => ⟨t, h1, e _ _ h2⟩
  | .num _ _ _, ⟨t, h1, h2⟩ => ⟨t, h1, e _ _ h2⟩
  | .upto _ _ _, ⟨t, h1, h2⟩ => ⟨t, h1, e _ _ h2⟩
  | .fin _, ⟨t, h1, h2⟩ => ⟨t, h1, e _ _ h2⟩
/-- the fields of a line, one after the other -/
def LnF (K : PySem.W.Frag) (H : Hp) (ns : List Str) (v : V) (li : Li) (w : Str) (n : Nat) : Prop := ∃ t xs, v = .ref t ∧ H t = some (.tup xs) ∧ xs.length = n ∧ xs[0]? = some (.str w)
def liW : Li → Str
  | .case _ _ => "case"
  | .take _ => "take"
  | .num w _ _ => w
  | .upto _ _ _ => "upto"
  | .fin w => w
def LiFm : Li → Prop
  | .case wy _ => (wy.map (·.1)).Nodup ∧ (∀ y ∈ wy, 0 ≤ y.1 ∧ y.1 ≤ 5) ∧ wy.length ≤ 5
  | .take _ => True
  | .num w c _ => NumOk w c
  | .upto c _ _ => 0 ≤ c ∧ c ≤ 5
  | .fin w => w = "cut" ∨ w = "refuse"
theorem LiOk.fm {ws : List Str} {i : Nat} : ∀ {li : Li}, LiOk ws i li → LiFm li
  | .case _ _, ⟨_, h1, h2, h3, _⟩ => ⟨h1, fun y hy => ⟨(h2 y hy).1, (h2 y hy).2.1⟩, h3⟩
  | .take _, _ => trivial
  | .num _ _ _, ⟨_, h, _⟩ => h
  | .upto _ _ _, ⟨_, h1, h2, _⟩ => ⟨h1, h2⟩
  | .fin _, ⟨_, h⟩ => h
theorem LiOk.wd {ws : List Str} {i : Nat} : ∀ {li : Li}, LiOk ws i li → liW li = wAt ws i
  | .case _ _, ⟨h, _⟩ => h.symm
  | .take _, ⟨h, _⟩ => h.symm
  | .num _ _ _, ⟨h, _⟩ => h.symm
  | .upto _ _ _, ⟨h, _⟩ => h.symm
  | .fin _, ⟨h, _⟩ => h.symm
theorem num_bnd {x : Str} {c : Int} (h : NumOk x c) : (x, (3 : Int)) ∈ entT ∧ (∃ lo hi, (x, lo, hi) ∈ bndT ∧ lo ≤ c ∧ c ≤ hi) ∧ x ≠ "case" := by
  rcases h with ⟨rfl, h1, h2⟩ | ⟨rfl, h1, h2⟩ | ⟨rfl, h1, h2⟩ | ⟨rfl, h1, h2⟩ | ⟨rfl, h1, h2⟩
  · exact ⟨by decide +kernel, ⟨2, 4, by decide +kernel, h1, h2⟩, by decide +kernel⟩
  · exact ⟨by decide +kernel, ⟨0, 5, by decide +kernel, h1, h2⟩, by decide +kernel⟩
  · exact ⟨by decide +kernel, ⟨1, 4, by decide +kernel, h1, h2⟩, by decide +kernel⟩
  · exact ⟨by decide +kernel, ⟨0, 5, by decide +kernel, h1, h2⟩, by decide +kernel⟩
  · exact ⟨by decide +kernel, ⟨-3, 4, by decide +kernel, h1, h2⟩, by decide +kernel⟩
theorem nsIn_of {a : Addr} {x : Str} {v : V} (h : KDct K w a x v) : ∃ r, PySem.W.nsIn K a x = some r ∧ r.isSome = true := by
  obtain ⟨es, n, u, _, _, e, _⟩ := h
  exact ⟨_, e, rfl⟩
theorem i_ixD {a : Addr} {x : Str} {v : V} {H : Hp} {Q : VK} (h : KDct K w a x v) (q : Q v H) : rIxD K w (.ref a) (.str x) H Q := ⟨a, x, v, rfl, rfl, h, q⟩
def spHasForm (K : PySem.W.Frag) : Sp := fun vs H Q _ => ∃ (v : V) (ns : List Str) (li : Li), vs = [v] ∧ LnAt K H ns v li ∧ LiFm li ∧ ∀ H', Ex H H' → Q (.bl true) H'
theorem ok_has_form (T : Ptx w K mg) : FnOk P w K mg base CX0 3 T.f_has_form T.d_has_form ["line"] (spHasForm K) := by
  refine T.F_has_form.ok sc_has_form (fun vs H Q E h => ?_) (fun cdv A outer s H vs Q E hr h => ?_)
  · obtain ⟨v, ns, li, rfl, _⟩ := h
    rfl
  · obtain ⟨v, ns, li, rfl, hv, hf, k⟩ := h
    refine ⟨_, (pss_cons (ps_if (PW.pt (pw_or (pt_cmpR op_eq (pe_callB call_len_seq (by rfl) T.z_len (by decide +kernel) (pa_cons (pv 0) pa_nil)) pe_int (nomark _)) (pw_or (pt_cmpR (op_notIn_kd T.kd_E) (pe_ix ix_tup (pv 0) pe_int (fun _ _ => rfl)) (pe_glob (v := .ref T.a_ENTRIES) rfl T.m_ENTRIES rfl) (by rfl)) (pw_or1 (pt_cmpR op_ne (pe_callB call_len_seq (by rfl) T.z_len (by decide +kernel) (pa_cons (pv 0) pa_nil)) (pe_ix ix_kdict (pe_glob (v := .ref T.a_ENTRIES) rfl T.m_ENTRIES rfl) (pe_ix ix_tup (pv 0) pe_int (fun _ _ => rfl)) (fun _ _ => rfl)) (nomark _))))))
        (pss_one (ps_ret pe_bl))
        pss_nil)
      (pss_cons (ps_set (i := 1) sc_has_form.nd rfl (Or.inl rfl) (pe_ix ix_tup (pv 0) pe_int (fun _ _ => rfl)))
      (pss_cons (ps_if (pt_cmpR op_eq (pv 1) pe_str (nomark _))
        (pss_one (ps_ret (pe_call (ok_are_ways T) (hr.mono (by decide)) rfl T.m_are_ways T.F_are_ways.kp T.b_are_ways .nil pass0 (pa_cons (pe_ix ix_tup (pv 0) pe_int (fun _ _ => rfl)) pa_nil))))
        pss_nil)
      (pss_one (ps_ret (pe_or (pe_cmpR (op_notIn_kd T.kd_B) (pv 1) (pe_glob (v := .ref T.a_BOUNDS) rfl T.m_BOUNDS rfl) (by rfl)) (pe_one (pe_call (ok_within T) (hr.mono (by decide)) rfl T.m_within T.F_within.kp T.b_within .nil pass0 (pa_cons (pe_ix ix_tup (pv 0) pe_int (fun _ _ => rfl)) (pa_cons (pe_ix ix_kdict (pe_glob (v := .ref T.a_BOUNDS) rfl T.m_BOUNDS rfl) (pv 1) (fun _ _ => rfl)) pa_nil)))))))))), ?_⟩
    have hS : start ["line", "word"] [v] = [some v, none] := rfl
    rw [hS]
    cases li with
    | case wy o =>
      obtain ⟨t, l, ts, rfl, ht, hl, hts⟩ := hv
      walk_at "rd"
      have vE := T.v_E "case" 3 (by decide +kernel)
      obtain ⟨r0, e1, e2⟩ := nsIn_of vE
      refine ⟨_, _, rfl, rfl, e1, ?_⟩
      rw [e2]
      walk_at "rd"
      refine i_ixD vE ?_
      walk_at "rd"
      exact ⟨l, ts, ns, wy, rfl, hl, hts, hf.1, hf.2.1, hf.2.2, k⟩
    | take o =>
      obtain ⟨t, rfl, ht⟩ := hv
      walk_at "rd"
      have vE := T.v_E "take" 2 (by decide +kernel)
      obtain ⟨r0, e1, e2⟩ := nsIn_of vE
      refine ⟨_, _, rfl, rfl, e1, ?_⟩
      rw [e2]
      walk_at "rd"
      refine i_ixD vE ?_
      walk_at "rd"
      refine ⟨_, _, rfl, rfl, T.o_B "take" (by decide +kernel), ?_⟩
      walk_at "rd"
      exact k _ (Ex.refl _)
    | num x c o =>
      obtain ⟨t, rfl, ht⟩ := hv
      obtain ⟨hE, ⟨lo, hi, hB, h1, h2⟩, hx⟩ := num_bnd hf
      walk_at "rd"
      have vE := T.v_E x 3 hE
      obtain ⟨r0, e1, e2⟩ := nsIn_of vE
      refine ⟨_, _, rfl, rfl, e1, ?_⟩
      rw [e2]
      walk_at "rd"
      refine i_ixD vE ?_
      walk_at "rd"
      refine Rd.ite_d (fun h => absurd (V.str.inj h) hx) (fun _ => ?_)
      obtain ⟨ab, vB, hab⟩ := T.v_B x lo hi hB
      obtain ⟨r1, e3, e4⟩ := nsIn_of vB
      walk_at "rd"
      refine ⟨_, _, rfl, rfl, e3, ?_⟩
      rw [e4]
      walk_at "rd"
      refine i_ixD vB ?_
      walk_at "rd"
      refine ⟨c, lo, hi, ab, rfl, hab _, ?_⟩
      rw [decide_eq_true h1, decide_eq_true h2]
      exact k _ (Ex.refl _)
    | upto c a b =>
      obtain ⟨t, rfl, ht⟩ := hv
      walk_at "rd"
      have vE := T.v_E "upto" 4 (by decide +kernel)
      obtain ⟨r0, e1, e2⟩ := nsIn_of vE
      refine ⟨_, _, rfl, rfl, e1, ?_⟩
      rw [e2]
      walk_at "rd"
      refine i_ixD vE ?_
      walk_at "rd"
      obtain ⟨ab, vB, hab⟩ := T.v_B "upto" 0 5 (by decide +kernel)
      obtain ⟨r1, e3, e4⟩ := nsIn_of vB
      refine ⟨_, _, rfl, rfl, e3, ?_⟩
      rw [e4]
      walk_at "rd"
      refine i_ixD vB ?_
      walk_at "rd"
      refine ⟨c, 0, 5, ab, rfl, hab _, ?_⟩
      rw [decide_eq_true hf.1, decide_eq_true hf.2]
      exact k _ (Ex.refl _)
    | fin x =>
      obtain ⟨t, rfl, ht⟩ := hv
      have hx : x ≠ "case" ∧ (x, (1 : Int)) ∈ entT ∧ x ∈ (["case", "take", "cut", "refuse"] : List Str) := by
        rcases hf with rfl | rfl
        · exact ⟨by decide +kernel, by decide +kernel, by decide +kernel⟩
        · exact ⟨by decide +kernel, by decide +kernel, by decide +kernel⟩
      walk_at "rd"
      have vE := T.v_E x 1 hx.2.1
      obtain ⟨r0, e1, e2⟩ := nsIn_of vE
      refine ⟨_, _, rfl, rfl, e1, ?_⟩
      rw [e2]
      walk_at "rd"
      refine i_ixD vE ?_
      walk_at "rd"
      refine Rd.ite_d (fun h => absurd (V.str.inj h) hx.1) (fun _ => ?_)
      walk_at "rd"
      refine ⟨_, _, rfl, rfl, T.o_B x hx.2.2, ?_⟩
      walk_at "rd"
      exact k _ (Ex.refl _)
/-- what a line is frozen to -/
def spFrozen (K : PySem.W.Frag) : Sp := fun vs H Q _ => ∃ (v : V) (ns : List Str) (li : Li), vs = [v] ∧ LnAt K H ns v li ∧ LiFm li ∧ ∀ v' H', Ex H H' → LtAt H' ns v' li → Q v' H'
theorem ok_frozen (T : Ptx w K mg) : FnOk P w K mg base CX0 3 T.f_frozen T.d_frozen ["line"] (spFrozen K) := by
  refine T.F_frozen.ok sc_frozen (fun vs H Q E h => ?_) (fun cdv A outer s H vs Q E hr h => ?_)
  · obtain ⟨v, ns, li, rfl, _⟩ := h
    rfl
  · obtain ⟨v, ns, li, rfl, hv, hf, k⟩ := h
    refine ⟨_, (pss_cons (ps_if (pt_cmpR op_eq (pe_ix ix_tup (pv 0) pe_int (fun _ _ => rfl)) pe_str (nomark _))
        (pss_one (ps_ret (pe_tup (pa_cons pe_str (pa_cons (pe_callTy Nr.call_tupR (by rfl) T.z_tuple (by decide +kernel) (pa_cons (pe_lc (te := tCB (Nr.rTup K) (tCons (tVar 1) tNil)) rfl sc_frozen.nd (Nr.pi_seq (pe_ix ix_tup (pv 0) pe_int (fun _ _ => rfl))) (blkOk_by (own := [("way", 1)]) (N := ["line", "way"]) (sc := defScope s_frozen) (by decide +kernel)) (fun _ _ _ _ _ => (pg_name (i := 1) sc_frozen.nd rfl (Or.inl rfl))) (fun _ _ _ _ _ => pts_nil) (fun _ _ _ _ _ => (pe_callTy Nr.call_tupR (by rfl) T.z_tuple (by decide +kernel) (pa_cons (pv 1) pa_nil)))) pa_nil)) (pa_cons (pe_ix ix_tup (pv 0) pe_int (fun _ _ => rfl)) pa_nil))))))
        pss_nil)
      (pss_one (ps_ret (pe_callTy Nr.call_tupR (by rfl) T.z_tuple (by decide +kernel) (pa_cons (pv 0) pa_nil))))), ?_⟩
    have hS : start ["line", "way"] [v] = [some v, none] := rfl
    rw [hS]
    cases li with
    | case wy o =>
      obtain ⟨t, l, ts, rfl, ht, hl, hts⟩ := hv
      have hlt := hf.2.2
      walk_at "rd"
      refine Nr.i_lcS ?_
      walk_at "rd"
      refine Nr.lcS hl (Ex.refl _) (fun D hD => ⟨fun i H2 => H2 D = some (.lst (ts.take i)) ∧ Ex H H2, ⟨upd_same, Ex.new hD⟩, fun _ _ h => h.2, ?_, ?_⟩)
      · rintro i x H2 hx ⟨hDl, ex2⟩
        obtain ⟨y, hy, a, rfl, ha⟩ := paired_get hts hx
        have ha2 : H2 a = some (.tup [.int y.1, .str (wAt ns y.2)]) := ex2 _ _ ha
        walk_at "rd"
        refine ⟨rfl, ?_⟩
        walk_at "rd"
        refine ⟨_, hDl, small1000 (by rw [List.length_take, paired_len hts]; omega), ?_, ex_mut ex2 hD⟩
        rw [upd_same, List.take_succ, hx]
        rfl
      · rintro H2 ⟨hDl, ex2⟩
        walk_at "rd"
        rw [List.take_length] at hDl
        refine Nr.i_tupL (SqL.of hDl) (fun b hb => ?_)
        have e3 := ex2.trans (Ex.new (o := .tup ts) hb)
        have ht3 : upd H2 b (.tup ts) t = some (.tup [.str "case", .ref l, .str (wAt ns o)]) := e3 _ _ ht
        walk_at "rd"
        refine ⟨by show 3 ≤ sizeLine; decide, fun p hp => ?_⟩
        walk_at "rd"
        have e4 := Ex.new (o := .tup [.str "case", .ref b, .str (wAt ns o)]) hp
        exact k _ _ (e3.trans e4) ⟨p, b, ts, rfl, upd_same, e4 _ _ upd_same, paired_mono (fun _ _ h => h.mono (e3.trans e4)) hts⟩
    | take o =>
      obtain ⟨t, rfl, ht⟩ := hv
      walk_at "rd"
      exact k _ _ (Ex.refl _) ⟨t, rfl, ht⟩
    | num x c o =>
      obtain ⟨t, rfl, ht⟩ := hv
      walk_at "rd"
      refine Rd.ite_d (fun h => absurd (V.str.inj h) (num_bnd hf).2.2) (fun _ => ?_)
      walk_at "rd"
      exact k _ _ (Ex.refl _) ⟨t, rfl, ht⟩
    | upto c a b =>
      obtain ⟨t, rfl, ht⟩ := hv
      walk_at "rd"
      exact k _ _ (Ex.refl _) ⟨t, rfl, ht⟩
    | fin x =>
      obtain ⟨t, rfl, ht⟩ := hv
      walk_at "rd"
      refine Rd.ite_d (fun h => ?_) (fun _ => ?_)
      · rcases hf with rfl | rfl
        · exact absurd (V.str.inj h) (by decide +kernel)
        · exact absurd (V.str.inj h) (by decide +kernel)
      walk_at "rd"
      exact k _ _ (Ex.refl _) ⟨t, rfl, ht⟩
end
end K02

namespace K02
open PySem L2
local macro_rules | `(tactic| walk_at "rd1") => `(tactic| first
  | (with_reducible refine Rd.i_seq ?_) | (with_reducible refine Rd.i_asg ?_) | (with_reducible refine Rd.i_name ?_) | (with_reducible refine Rd.i_nx ?_) | (with_reducible refine Rd.i_rt ?_) | (with_reducible refine Rd.i_next ?_) | (with_reducible refine Rd.i_ct ?_) | (with_reducible refine Rd.i_bk ?_)
  | (with_reducible refine Rd.i_ret ?_) | (with_reducible refine Rd.i_drop ?_) | (with_reducible refine Rd.i_ifS ?_) | (with_reducible refine Rd.i_sub ?_)
  | (with_reducible refine Rd.i_var (by with_unfolding_all exact rfl) ?_) | (with_reducible refine Rd.i_c ?_) | (with_reducible refine Rd.i_op ?_) | (with_reducible refine Rd.i_un ?_)
  | (with_reducible refine Rd.i_rI0 ?_) | (with_reducible refine Rd.i_rI (by with_unfolding_all first | omega | exact Rd.mulL (by omega) (by omega) | exact Rd.mulR (by omega) (by omega) | decide | (refine ⟨?_, ?_⟩ <;> omega) | (refine ⟨?_, ?_, ?_⟩ <;> omega)) ?_)
  | (with_reducible refine Rd.i_rEq (by with_unfolding_all exact rfl) ?_) | (with_reducible refine Rd.i_rNe (by with_unfolding_all exact rfl) ?_)
  | (with_reducible refine Rd.i_test ?_) | (with_reducible refine Rd.i_tB ?_) | (with_reducible refine Rd.i_bl ?_) | (with_reducible refine Rd.i_and ?_) | (with_reducible refine Rd.i_or ?_) | (with_reducible refine Rd.i_not ?_) | (with_reducible refine Rd.i_notV ?_) | (with_reducible refine Rd.i_andV ?_) | (with_reducible refine Rd.i_orV ?_) | (with_reducible refine Rd.i_if ?_) | (with_reducible refine Rd.i_chain ?_)
  | (with_reducible refine Rd.i_call ?_) | (with_reducible refine Rd.i_nil ?_) | (with_reducible refine Rd.i_cons ?_) | (with_reducible refine Rd.i_cb ?_) | (with_reducible refine Rd.i_bm ?_) | (with_reducible refine Rd.i_bm0 ?_) | (with_reducible refine Rd.i_tup ?_) | (with_reducible refine Rd.i_lst ?_)
  | (with_reducible refine Rd.i_int1 ?_) | (with_reducible refine Rd.i_intb ?_) | (with_reducible refine Rd.i_max ?_)
  | (with_reducible refine Rd.i_ixL (SqL.of (by first | assumption | exact upd_same)) (by with_unfolding_all first | exact rfl | exact atI_nat rfl) ?_) | (with_reducible refine Rd.i_ixT (SqT.of (by first | assumption | exact upd_same)) (by with_unfolding_all exact rfl) ?_)
  | (with_reducible refine Rd.i_setL (by first | assumption | exact upd_same) (by with_unfolding_all exact rfl) ?_)
  | (with_reducible refine Xv.i_mkV ?_) | (with_reducible refine Xv.i_xat ?_)
  | (with_reducible refine Rd.i_yes ?_) | (with_reducible refine Rd.i_m1 ?_) | (with_reducible refine Rd.i_m0 ?_) | (with_reducible refine Rd.ite_T ?_) | (with_reducible refine Rd.ite_F ?_) | (with_reducible refine Rd.i_forR ?_) | (with_reducible refine Rd.i_forL ?_) | (with_reducible refine Rd.i_forT ?_)
  | (with_reducible refine Hd.i_rU ?_) | (with_reducible refine Hd.i_pcons ?_) | (with_reducible refine Hd.i_pnil ?_) | (with_reducible refine Hd.i_disp ?_) | (with_reducible refine Hd.i_dget ?_)
  | (with_reducible refine Hd.i_lstRg ?_) | (with_reducible refine Hd.i_rg1 ?_) | (with_reducible refine Hd.i_rg2 ?_) | (with_reducible refine Hd.i_ex1 ?_) | (with_reducible refine Hd.i_ex2 ?_)
  | (with_reducible refine Rd.i_gtup (SqT.of (by first | assumption | exact upd_same)) (by with_unfolding_all exact rfl) ?_) | (with_reducible refine Rd.i_gcons ?_) | (with_reducible refine Rd.i_gnil ?_)
  | (with_reducible refine Rd.i_lenT (SqT.of (by first | assumption | exact upd_same)) ?_) | (with_reducible refine Rd.i_len (SqL.of (by first | assumption | exact upd_same)) ?_)
  | (with_reducible refine Nr.ite_eF (by first | decide +kernel | with_unfolding_all exact rfl) ?_) | (with_reducible refine Nr.ite_eT (by first | decide +kernel | with_unfolding_all exact rfl) ?_)
  | (with_reducible refine Nr.i_tyL (by first | assumption | exact upd_same) ?_)
  | (with_reducible refine Nr.i_tupT (SqT.of (by first | assumption | exact upd_same)) ?_)
  | (with_reducible refine Nr.i_sl ?_) | (with_reducible refine Nr.i_part ?_) | (with_reducible refine Nr.i_nop ?_) | (with_reducible refine Nr.i_star ?_)
  | fail "stop")
local macro_rules | `(tactic| walk_at "rd") => `(tactic| repeat walk_at "rd1")
section
variable {P : Program} {w : World} {K : PySem.W.Frag} {mg : Str → Option Value} {base : Heap}
open Evl Hd
/-- the goals of a line by their places -/
def liG : Li → List Nat
  | .case wy o => wy.map (·.2) ++ [o]
  | .take o => [o]
  | .num _ _ o => [o]
  | .upto _ a b => [a, b]
  | .fin _ => []
def gV (ns : List Str) (l : List Nat) : List V := l.map fun o => .str (wAt ns o)
def spGoals (K : PySem.W.Frag) : Sp := fun vs H Q _ => ∃ (v : V) (ns : List Str) (li : Li), vs = [v] ∧ LtAt H ns v li ∧ LiFm li ∧ ∀ l H', Ex H H' → H l = none → H' l = some (.lst (gV ns (liG li))) → Q (.ref l) H'
theorem ok_goals (T : Ptx w K mg) : FnOk P w K mg base CX0 3 T.f_goals T.d_goals ["line"] (spGoals K) := by
  refine T.F_goals.ok sc_goals (fun vs H Q E h => ?_) (fun cdv A outer s H vs Q E hr h => ?_)
  · obtain ⟨v, ns, li, rfl, _⟩ := h
    rfl
  · obtain ⟨v, ns, li, rfl, hv, hf, k⟩ := h
    refine ⟨_, (pss_cons (ps_if (pt_cmpR op_eq (pe_ix ix_tup (pv 0) pe_int (fun _ _ => rfl)) pe_str (nomark _))
        (pss_one (ps_ret (pe_lst (Nr.pa_star (pe_lc (g := gTup K 2 (gCons (gName 1) (gCons (gName 2) gNil))) rfl sc_goals.nd (pi_tup (pe_ix ix_tup (pv 0) pe_int (fun _ _ => rfl))) (blkOk_by (own := [("_", 1), ("name", 2)]) (N := ["line", "_", "name"]) (sc := defScope s_goals) (by decide +kernel)) (fun _ _ _ _ _ => (pg_tup (by rfl) (pgs_cons (pg_name (i := 1) sc_goals.nd rfl (Or.inl rfl)) (pgs_cons (pg_name (i := 2) sc_goals.nd rfl (Or.inl rfl)) pgs_nil)))) (fun _ _ _ _ _ => pts_nil) (fun _ _ _ _ _ => (pv 2))) (pa_cons (pe_ix ix_tup (pv 0) pe_int (fun _ _ => rfl)) pa_nil)))))
        pss_nil)
      (pss_cons (ps_if (pt_cmpR (op_in_kd T.kd_B) (pe_ix ix_tup (pv 0) pe_int (fun _ _ => rfl)) (pe_glob (v := .ref T.a_BOUNDS) rfl T.m_BOUNDS rfl) (by rfl))
        (pss_one (ps_ret (pe_callTy call_list_of (by rfl) T.z_list (by decide +kernel) (pa_cons (pe_slice sl_tup (pv 0) (po_some pe_int) po_none) pa_nil))))
        pss_nil)
      (pss_one (ps_ret (pe_callTy call_list_of (by rfl) T.z_list (by decide +kernel) (pa_cons (pe_slice sl_tup (pv 0) (po_some pe_int) po_none) pa_nil)))))), ?_⟩
    have hS : start ["line", "_", "name"] [v] = [some v, none, none] := rfl
    rw [hS]
    have hcut : ∀ (t2 : Addr) (H2 : Hp) (ys : List V), Ex H H2 → ys = gV ns (liG li) → ∀ l, H2 l = none → Q (.ref l) (upd H2 l (.lst ys)) := fun t2 H2 ys e2 ey l hl => k l _ (e2.trans (Ex.new hl)) (fresh_back e2 hl) (by rw [← ey]; exact upd_same)
    cases li with
    | case wy o =>
      obtain ⟨t, l, ts, rfl, ht, hl, hts⟩ := hv
      have hlt := hf.2.2
      have hlen := paired_len hts
      walk_at "rd"
      refine Rd.i_lcT ?_
      walk_at "rd"
      refine Rd.lcT (xs := ts) (SqT.of hl) (fun D hD => ⟨fun i H2 => H2 D = some (.lst (gV ns ((wy.take i).map (·.2)))) ∧ Ex H H2, ⟨upd_same, Ex.new hD⟩, fun i H2 _ h => SqT.of (h.2 _ _ hl), ?_, ?_⟩)
      · rintro i x H2 hx ⟨hDl, ex2⟩
        obtain ⟨y, hy, a, rfl, ha⟩ := paired_get hts hx
        have ha2 : H2 a = some (.tup [.int y.1, .str (wAt ns y.2)]) := ex2 _ _ ha
        walk_at "rd"
        refine ⟨rfl, ?_⟩
        walk_at "rd"
        refine ⟨_, hDl, small1000 (by unfold gV; rw [List.length_map, List.length_map, List.length_take]; omega), ?_, ex_mut ex2 hD⟩
        rw [upd_same, List.take_succ, hy]
        unfold gV
        rw [List.map_append, List.map_append]
        rfl
      · rintro H2 ⟨hDl, ex2⟩
        rw [hlen, List.take_length] at hDl
        refine ⟨D, _, rfl, SqL.of hDl, ?_⟩
        have ht3 := ex2 _ _ ht
        walk_at "rd"
        refine ⟨by rw [List.length_append]; unfold gV; rw [List.length_map, List.length_map]; show wy.length + 1 ≤ sizeLine; exact Nat.le_trans (by omega : wy.length + 1 ≤ 6) (by decide), fun p hp => ?_⟩
        walk_at "rd"
        refine k p _ (ex2.trans (Ex.new hp)) (fresh_back ex2 hp) ?_
        rw [upd_same]
        unfold gV liG
        rw [List.map_append]
        rfl
    | take o =>
      obtain ⟨t, rfl, ht⟩ := hv
      walk_at "rd"
      refine ⟨_, _, rfl, rfl, T.o_B "take" (by decide +kernel), ?_⟩
      walk_at "rd"
      refine Nr.i_slT (SqT.of ht) (fun h => absurd (show (1 : Nat) = 0 from h.1) (by decide)) (fun p hp => ?_)
      walk_at "rd"
      exact hcut p _ _ (Ex.new hp) rfl
    | num x c o =>
      obtain ⟨t, rfl, ht⟩ := hv
      obtain ⟨hE, ⟨lo, hi, hB, h1, h2⟩, hx⟩ := num_bnd hf
      obtain ⟨ab, vB, hab⟩ := T.v_B x lo hi hB
      obtain ⟨r1, e3, e4⟩ := nsIn_of vB
      walk_at "rd"
      refine Rd.ite_d (fun h => absurd (V.str.inj h) hx) (fun _ => ?_)
      walk_at "rd"
      refine ⟨_, _, rfl, rfl, e3, ?_⟩
      rw [e4]
      walk_at "rd"
      refine Nr.i_slT (SqT.of ht) (fun h => absurd (show (2 : Nat) = 0 from h.1) (by decide)) (fun p hp => ?_)
      walk_at "rd"
      exact hcut p _ _ (Ex.new hp) rfl
    | upto c a b =>
      obtain ⟨t, rfl, ht⟩ := hv
      obtain ⟨ab, vB, hab⟩ := T.v_B "upto" 0 5 (by decide +kernel)
      obtain ⟨r1, e3, e4⟩ := nsIn_of vB
      walk_at "rd"
      refine ⟨_, _, rfl, rfl, e3, ?_⟩
      rw [e4]
      walk_at "rd"
      refine Nr.i_slT (SqT.of ht) (fun h => absurd (show (2 : Nat) = 0 from h.1) (by decide)) (fun p hp => ?_)
      walk_at "rd"
      exact hcut p _ _ (Ex.new hp) rfl
    | fin x =>
      obtain ⟨t, rfl, ht⟩ := hv
      have hx : x ≠ "case" ∧ x ∈ (["case", "take", "cut", "refuse"] : List Str) := by
        rcases hf with rfl | rfl
        · exact ⟨by decide +kernel, by decide +kernel⟩
        · exact ⟨by decide +kernel, by decide +kernel⟩
      walk_at "rd"
      refine Rd.ite_d (fun h => absurd (V.str.inj h) hx.1) (fun _ => ?_)
      walk_at "rd"
      refine ⟨_, _, rfl, rfl, T.o_B x hx.2, ?_⟩
      walk_at "rd"
      refine Nr.i_slT (SqT.of ht) (fun h => absurd (show (1 : Nat) = 0 from h.1) (by decide)) (fun p hp => ?_)
      walk_at "rd"
      exact hcut p _ _ (Ex.new hp) rfl
end
end K02

namespace K02
open PySem L2
local macro_rules | `(tactic| walk_at "rd1") => `(tactic| first
  | (with_reducible refine Rd.i_seq ?_) | (with_reducible refine Rd.i_asg ?_) | (with_reducible refine Rd.i_name ?_) | (with_reducible refine Rd.i_nx ?_) | (with_reducible refine Rd.i_rt ?_) | (with_reducible refine Rd.i_next ?_) | (with_reducible refine Rd.i_ct ?_) | (with_reducible refine Rd.i_bk ?_)
  | (with_reducible refine Rd.i_ret ?_) | (with_reducible refine Rd.i_drop ?_) | (with_reducible refine Rd.i_ifS ?_) | (with_reducible refine Rd.i_sub ?_)
  | (with_reducible refine Rd.i_var (by with_unfolding_all exact rfl) ?_) | (with_reducible refine Rd.i_c ?_) | (with_reducible refine Rd.i_op ?_) | (with_reducible refine Rd.i_un ?_)
  | (with_reducible refine Rd.i_rI0 ?_) | (with_reducible refine Rd.i_rI (by with_unfolding_all first | omega | exact Rd.mulL (by omega) (by omega) | exact Rd.mulR (by omega) (by omega) | decide | (refine ⟨?_, ?_⟩ <;> omega) | (refine ⟨?_, ?_, ?_⟩ <;> omega)) ?_)
  | (with_reducible refine Rd.i_rEq (by with_unfolding_all exact rfl) ?_) | (with_reducible refine Rd.i_rNe (by with_unfolding_all exact rfl) ?_)
  | (with_reducible refine Rd.i_test ?_) | (with_reducible refine Rd.i_tB ?_) | (with_reducible refine Rd.i_bl ?_) | (with_reducible refine Rd.i_and ?_) | (with_reducible refine Rd.i_or ?_) | (with_reducible refine Rd.i_not ?_) | (with_reducible refine Rd.i_notV ?_) | (with_reducible refine Rd.i_andV ?_) | (with_reducible refine Rd.i_orV ?_) | (with_reducible refine Rd.i_if ?_) | (with_reducible refine Rd.i_chain ?_)
  | (with_reducible refine Rd.i_call ?_) | (with_reducible refine Rd.i_nil ?_) | (with_reducible refine Rd.i_cons ?_) | (with_reducible refine Rd.i_cb ?_) | (with_reducible refine Rd.i_bm ?_) | (with_reducible refine Rd.i_bm0 ?_) | (with_reducible refine Rd.i_tup ?_) | (with_reducible refine Rd.i_lst ?_)
  | (with_reducible refine Rd.i_int1 ?_) | (with_reducible refine Rd.i_intb ?_) | (with_reducible refine Rd.i_max ?_)
  | (with_reducible refine Rd.i_ixL (SqL.of (by first | assumption | exact upd_same)) (by with_unfolding_all first | exact rfl | exact atI_nat rfl) ?_) | (with_reducible refine Rd.i_ixT (SqT.of (by first | assumption | exact upd_same)) (by with_unfolding_all exact rfl) ?_)
  | (with_reducible refine Rd.i_setL (by first | assumption | exact upd_same) (by with_unfolding_all exact rfl) ?_)
  | (with_reducible refine Xv.i_mkV ?_) | (with_reducible refine Xv.i_xat ?_)
  | (with_reducible refine Rd.i_yes ?_) | (with_reducible refine Rd.i_m1 ?_) | (with_reducible refine Rd.i_m0 ?_) | (with_reducible refine Rd.ite_T ?_) | (with_reducible refine Rd.ite_F ?_) | (with_reducible refine Rd.i_forR ?_) | (with_reducible refine Rd.i_forL ?_) | (with_reducible refine Rd.i_forT ?_)
  | (with_reducible refine Hd.i_rU ?_) | (with_reducible refine Hd.i_pcons ?_) | (with_reducible refine Hd.i_pnil ?_) | (with_reducible refine Hd.i_disp ?_) | (with_reducible refine Hd.i_dget ?_)
  | (with_reducible refine Hd.i_lstRg ?_) | (with_reducible refine Hd.i_rg1 ?_) | (with_reducible refine Hd.i_rg2 ?_) | (with_reducible refine Hd.i_ex1 ?_) | (with_reducible refine Hd.i_ex2 ?_)
  | (with_reducible refine Rd.i_gtup (SqT.of (by first | assumption | exact upd_same)) (by with_unfolding_all exact rfl) ?_) | (with_reducible refine Rd.i_gcons ?_) | (with_reducible refine Rd.i_gnil ?_)
  | (with_reducible refine Rd.i_lenT (SqT.of (by first | assumption | exact upd_same)) ?_) | (with_reducible refine Rd.i_len (SqL.of (by first | assumption | exact upd_same)) ?_)
  | (with_reducible refine Nr.ite_eF (by first | decide +kernel | with_unfolding_all exact rfl) ?_) | (with_reducible refine Nr.ite_eT (by first | decide +kernel | with_unfolding_all exact rfl) ?_)
  | (with_reducible refine Nr.i_tyL (by first | assumption | exact upd_same) ?_)
  | (with_reducible refine Nr.i_tupT (SqT.of (by first | assumption | exact upd_same)) ?_)
  | (with_reducible refine Nr.i_sl ?_) | (with_reducible refine Nr.i_part ?_) | (with_reducible refine Nr.i_nop ?_) | (with_reducible refine Nr.i_star ?_)
  | fail "stop")
local macro_rules | `(tactic| walk_at "rd") => `(tactic| repeat walk_at "rd1")
section
variable {P : Program} {w : World} {K : PySem.W.Frag} {mg : Str → Option Value} {base : Heap}
open Evl Hd
/-- a name and a line in a pair -/
def PrAt (F : Hp → List Str → V → Li → Prop) (H : Hp) (ns : List Str) (v : V) (y : Nat × Li) : Prop := ∃ t x, v = .ref t ∧ H t = some (.tup [.str (wAt ns y.1), x]) ∧ F H ns x y.2
abbrev PrN (K : PySem.W.Frag) (H : Hp) (ns : List Str) := PrAt (LnAt K) H ns
abbrev PrT (H : Hp) (ns : List Str) := PrAt LtAt H ns
theorem PrAt.mono {F : Hp → List Str → V → Li → Prop} (hF : ∀ {H H' : Hp} {ns v li}, Ex H H' → F H ns v li → F H' ns v li) {H H' : Hp} {ns : List Str} {v : V} {y : Nat × Li} (e : Ex H H') (h : PrAt F H ns v y) : PrAt F H' ns v y := by
  obtain ⟨t, x, h1, h2, h3⟩ := h
  exact ⟨t, x, h1, e _ _ h2, hF e h3⟩
theorem num_get {ls : List Li} {i : Nat} {y : Nat × Li} (h : (numbered ls)[i]? = some y) : y.1 = i ∧ ls[i]? = some y.2 := by
  unfold numbered at h
  rw [List.getElem?_zip_eq_some] at h
  obtain ⟨h1, h2⟩ := h
  rw [List.getElem?_range] at h1
  · exact ⟨(Option.some.inj h1).symm, h2⟩
  · exact (List.getElem?_eq_some_iff.mp h2).1
theorem num_len (ls : List Li) : (numbered ls).length = ls.length := by
  unfold numbered
  rw [List.length_zip, List.length_range, Nat.min_self]
theorem i_forE {σ : L2.St} {H : Hp} {A : TA} {g : TG} {s : TS} {D : Ends} (q : A σ H fun vs H1 => ∃ a xs, vs = [.ref a] ∧ SqL K H1 a xs ∧ Rd.ForAsk (Ite K a) g s D σ H1) : tFor (iEnum K A) g s D σ H := q
theorem i_forET {σ : L2.St} {H : Hp} {A : TA} {g : TG} {s : TS} {D : Ends} (q : A σ H fun vs H1 => ∃ a xs, vs = [.ref a] ∧ SqT K H1 a xs ∧ Rd.ForAsk (En.IteT K a) g s D σ H1) : tFor (En.iEnumT K A) g s D σ H := q
theorem walk_enumT {a : Addr} {xs : List V} : Walk (En.IteT K a) xs.length (fun H => SqT K H a xs) (YPair (fun i => some (.int (i : Nat))) (fun i => xs[i]?)) := by
  refine ⟨fun i _ hi q => ⟨xs, xs[i], q, by simp [hi]⟩, fun _ q => ⟨xs, q, Nat.le_refl _⟩, fun i H v H' _ q y => ?_⟩
  obtain ⟨t, x, h1, h2, h3, h4⟩ := y
  exact ⟨t, .int (i : Nat), x, h1, h2, h3, rfl, h4 xs q⟩
/-- what the forms of handed lines must be -/
structure Fms (ns : List Str) (ls : List Li) : Prop where
  len : ns.length = ls.length
  most : ls.length ≤ 8
  pos : 1 ≤ ls.length
  nd : ns.Nodup
  nm : ∀ x ∈ ns, Nm x
  fm : ∀ li ∈ ls, LiFm li
theorem wAt_take {ns : List Str} {i : Nat} (hi : i < ns.length) : (ns.take (i + 1)) = ns.take i ++ [wAt ns i] := by
  rw [List.take_succ, List.getElem?_eq_getElem hi, wAt_some (List.getElem?_eq_getElem hi)]
  rfl
theorem wAt_new {ns : List Str} {i : Nat} (hn : ns.Nodup) (hi : i < ns.length) : wAt ns i ∉ ns.take i := by
  have := take_nodup (f := fun x : Str => x) (l := ns) (by rw [List.map_id']; exact hn) (List.getElem?_eq_getElem hi)
  rw [List.map_id'] at this
  rw [wAt_some (List.getElem?_eq_getElem hi)]
  exact this
def spCF (K : PySem.W.Frag) : Sp := fun vs H Q _ => ∃ (l : Addr) (ts : List V) (ns : List Str) (ls : List Li), vs = [.ref l] ∧ H l = some (.lst ts) ∧ Paired (PrN K H ns) ts (numbered ls) ∧ Fms ns ls ∧ ∀ H', Ex H H' → Q .non H'
theorem ok_check_forms (T : Ptx w K mg) : FnOk P w K mg base CX0 4 T.f_check_forms T.d_check_forms ["lines"] (spCF K) := by
  refine T.F_check_forms.ok sc_check_forms (fun vs H Q E h => ?_) (fun cdv A outer s H vs Q E hr h => ?_)
  · obtain ⟨l, ts, ns, ls, rfl, _⟩ := h
    rfl
  · obtain ⟨l, ts, ns, ls, rfl, hl, hts, hF, k⟩ := h
    refine ⟨_, (pss_cons (ps_set (i := 1) sc_check_forms.nd rfl (Or.inl rfl) (pe_lst pa_nil))
      (pss_one (ps_for PassesOwn.never rfl (pi_enum (by rfl) T.z_enumerate (pa_cons (pv 0) pa_nil)) (pg_tup (by rfl) (pgs_cons (pg_name (i := 2) sc_check_forms.nd rfl (Or.inl rfl)) (pgs_cons (pg_tup (by rfl) (pgs_cons (pg_name (i := 3) sc_check_forms.nd rfl (Or.inl rfl)) (pgs_cons (pg_name (i := 4) sc_check_forms.nd rfl (Or.inl rfl)) pgs_nil))) pgs_nil)))
        (pss_cons (ps_if (PW.pt (pw_or (pt_not (pt_val (pe_call (ok_is_name T) (hr.mono (by decide)) rfl T.m_is_name T.F_is_name.kp T.b_is_name .nil pass0 (pa_cons (pv 3) pa_nil)))) (pw_or (pt_cmpR op_in_seq (pv 3) (pv 1) (by rfl)) (pw_or1 (pt_not (pt_val (pe_call (ok_has_form T) (hr.mono (by decide)) rfl T.m_has_form T.F_has_form.kp T.b_has_form .nil pass0 (pa_cons (pv 4) pa_nil))))))))
          (pss_one ps_never)
          pss_nil)
        (pss_one (ps_expr (pe_bm PySem.F.plainAttrs_list PySem.F.slot_list_append PySem.F.type_list_append mt_append (pv 1) (pa_cons (pv 3) pa_nil)))))))), ?_⟩
    have hS : start ["lines", "names", "number", "name", "line"] [V.ref l] = [some (.ref l), none, none, none, none] := rfl
    rw [hS]
    have htl : ts.length = ls.length := by rw [paired_len hts, num_len]
    walk_at "rd"
    refine ⟨Nat.zero_le _, fun nl nnl => ?_⟩
    walk_at "rd"
    refine i_forE ?_
    walk_at "rd"
    have hl1 : upd H nl (.lst []) l = some (.lst ts) := (Ex.new (o := .lst []) nnl) _ _ hl
    refine ⟨l, ts, rfl, SqL.of hl1, ?_⟩
    refine for_it walk_enum (fun i σ H2 => ∃ u2 u3 u4 : Option V, σ = [some (.ref l), some (.ref nl), u2, u3, u4] ∧ H2 nl = some (.lst ((ns.take i).map V.str)) ∧ Ex H H2) ⟨_, _, _, rfl, upd_same, Ex.new nnl⟩ (fun i σ H2 _ ⟨_, _, _, _, _, e⟩ => SqL.of (e _ _ hl)) ?_ ?_
    · rintro i v _ H2 H3 hi ⟨u2, u3, u4, rfl, hnl, ex2⟩ ⟨t, x, y, rfl, ht, rfl, hx, hy⟩
      cases hx
      obtain ⟨⟨j, li⟩, hj, t2, lx, rfl, ht2, hli⟩ := paired_get hts hy
      obtain ⟨rfl, hj2⟩ := num_get hj
      have hlt : j < ls.length := (List.getElem?_eq_some_iff.mp hj2).1
      have hln : j < ns.length := by rw [hF.len]; exact hlt
      have e3 : Ex H2 (upd H2 t (.tup [.int (j : Nat), .ref t2])) := Ex.new ht
      have ht3 := e3 _ _ (ex2 _ _ ht2)
      have hnl3 := e3 _ _ hnl
      walk_at "rd"
      refine ⟨wAt ns j, rfl, hF.nm _ (wAt_mem hln), fun H4 ex4 => ?_⟩
      walk_at "rd"
      refine i_inS (.inl (SqL.of (ex4 _ _ hnl3))) ?_
      rw [decide_eq_false (wAt_new hF.nd hln)]
      walk_at "rd"
      have ex04 := (ex2.trans e3).trans ex4
      refine ⟨lx, ns, li, rfl, hli.mono ex04, hF.fm _ (List.mem_of_getElem? hj2), fun H5 ex5 => ?_⟩
      walk_at "rd"
      have hnl5 := ex5 _ _ (ex4 _ _ hnl3)
      refine Nr.i_tyL hnl5 ?_
      walk_at "rd"
      refine Rd.i_append hnl5 (small1000 (by rw [List.length_map, List.length_take]; have := hF.most; omega)) ?_
      walk_at "rd"
      refine ⟨_, _, _, rfl, ?_, ex_mut (ex04.trans ex5) nnl⟩
      rw [upd_same, wAt_take hln, List.map_append]
      rfl
    · rintro _ H2 ⟨u2, u3, u4, rfl, hnl, ex2⟩
      walk_at "rd"
      exact k _ ex2
end
end K02

namespace K02
open PySem L2
local macro_rules | `(tactic| walk_at "rd1") => `(tactic| first
  | (with_reducible refine Rd.i_seq ?_) | (with_reducible refine Rd.i_asg ?_) | (with_reducible refine Rd.i_name ?_) | (with_reducible refine Rd.i_nx ?_) | (with_reducible refine Rd.i_rt ?_) | (with_reducible refine Rd.i_next ?_) | (with_reducible refine Rd.i_ct ?_) | (with_reducible refine Rd.i_bk ?_)
  | (with_reducible refine Rd.i_ret ?_) | (with_reducible refine Rd.i_drop ?_) | (with_reducible refine Rd.i_ifS ?_) | (with_reducible refine Rd.i_sub ?_)
  | (with_reducible refine Rd.i_var (by with_unfolding_all exact rfl) ?_) | (with_reducible refine Rd.i_c ?_) | (with_reducible refine Rd.i_op ?_) | (with_reducible refine Rd.i_un ?_)
  | (with_reducible refine Rd.i_rI0 ?_) | (with_reducible refine Rd.i_rI (by with_unfolding_all first | omega | exact Rd.mulL (by omega) (by omega) | exact Rd.mulR (by omega) (by omega) | decide | (refine ⟨?_, ?_⟩ <;> omega) | (refine ⟨?_, ?_, ?_⟩ <;> omega)) ?_)
  | (with_reducible refine Rd.i_rEq (by with_unfolding_all exact rfl) ?_) | (with_reducible refine Rd.i_rNe (by with_unfolding_all exact rfl) ?_)
  | (with_reducible refine Rd.i_test ?_) | (with_reducible refine Rd.i_tB ?_) | (with_reducible refine Rd.i_bl ?_) | (with_reducible refine Rd.i_and ?_) | (with_reducible refine Rd.i_or ?_) | (with_reducible refine Rd.i_not ?_) | (with_reducible refine Rd.i_notV ?_) | (with_reducible refine Rd.i_andV ?_) | (with_reducible refine Rd.i_orV ?_) | (with_reducible refine Rd.i_if ?_) | (with_reducible refine Rd.i_chain ?_)
  | (with_reducible refine Rd.i_call ?_) | (with_reducible refine Rd.i_nil ?_) | (with_reducible refine Rd.i_cons ?_) | (with_reducible refine Rd.i_cb ?_) | (with_reducible refine Rd.i_bm ?_) | (with_reducible refine Rd.i_bm0 ?_) | (with_reducible refine Rd.i_tup ?_) | (with_reducible refine Rd.i_lst ?_)
  | (with_reducible refine Rd.i_int1 ?_) | (with_reducible refine Rd.i_intb ?_) | (with_reducible refine Rd.i_max ?_)
  | (with_reducible refine Rd.i_ixL (SqL.of (by first | assumption | exact upd_same)) (by with_unfolding_all first | exact rfl | exact atI_nat rfl) ?_) | (with_reducible refine Rd.i_ixT (SqT.of (by first | assumption | exact upd_same)) (by with_unfolding_all exact rfl) ?_)
  | (with_reducible refine Rd.i_setL (by first | assumption | exact upd_same) (by with_unfolding_all exact rfl) ?_)
  | (with_reducible refine Xv.i_mkV ?_) | (with_reducible refine Xv.i_xat ?_)
  | (with_reducible refine Rd.i_yes ?_) | (with_reducible refine Rd.i_m1 ?_) | (with_reducible refine Rd.i_m0 ?_) | (with_reducible refine Rd.ite_T ?_) | (with_reducible refine Rd.ite_F ?_) | (with_reducible refine Rd.i_forR ?_) | (with_reducible refine Rd.i_forL ?_) | (with_reducible refine Rd.i_forT ?_)
  | (with_reducible refine Hd.i_rU ?_) | (with_reducible refine Hd.i_pcons ?_) | (with_reducible refine Hd.i_pnil ?_) | (with_reducible refine Hd.i_disp ?_) | (with_reducible refine Hd.i_dget ?_)
  | (with_reducible refine Hd.i_lstRg ?_) | (with_reducible refine Hd.i_rg1 ?_) | (with_reducible refine Hd.i_rg2 ?_) | (with_reducible refine Hd.i_ex1 ?_) | (with_reducible refine Hd.i_ex2 ?_)
  | (with_reducible refine Rd.i_gtup (SqT.of (by first | assumption | exact upd_same)) (by with_unfolding_all exact rfl) ?_) | (with_reducible refine Rd.i_gcons ?_) | (with_reducible refine Rd.i_gnil ?_)
  | (with_reducible refine Rd.i_lenT (SqT.of (by first | assumption | exact upd_same)) ?_) | (with_reducible refine Rd.i_len (SqL.of (by first | assumption | exact upd_same)) ?_)
  | (with_reducible refine Nr.ite_eF (by first | decide +kernel | with_unfolding_all exact rfl) ?_) | (with_reducible refine Nr.ite_eT (by first | decide +kernel | with_unfolding_all exact rfl) ?_)
  | (with_reducible refine Nr.i_tyL (by first | assumption | exact upd_same) ?_)
  | (with_reducible refine Nr.i_tupT (SqT.of (by first | assumption | exact upd_same)) ?_)
  | (with_reducible refine Nr.i_sl ?_) | (with_reducible refine Nr.i_part ?_) | (with_reducible refine Nr.i_nop ?_) | (with_reducible refine Nr.i_star ?_)
  | fail "stop")
local macro_rules | `(tactic| walk_at "rd") => `(tactic| repeat walk_at "rd1")
section
variable {P : Program} {w : World} {K : PySem.W.Frag} {mg : Str → Option Value} {base : Heap}
open Evl Hd
theorem PrT.mono' {H H' : Hp} {ns : List Str} {v : V} {y : Nat × Li} (e : Ex H H') (h : PrT H ns v y) : PrT H' ns v y := PrAt.mono (fun e h => h.mono e) e h
theorem PrN.mono' {H H' : Hp} {ns : List Str} {v : V} {y : Nat × Li} (e : Ex H H') (h : PrN K H ns v y) : PrN K H' ns v y := PrAt.mono (fun e h => h.mono e) e h
theorem take_all {α : Type} {l : List α} {n : Nat} (h : l.length = n) : l.take n = l := by rw [← h, List.take_length]
theorem map_take_succ {α : Type} {f : α → V} {l : List α} {i : Nat} {x : α} (h : l[i]? = some x) : (l.take (i + 1)).map f = (l.take i).map f ++ [f x] := by
  rw [List.take_succ, h, List.map_append]
  rfl
theorem liG_len {li : Li} (h : LiFm li) : (liG li).length ≤ 6 := by
  cases li with
  | case wy o =>
    have := h.2.2
    show (wy.map (·.2) ++ [o]).length ≤ 6
    rw [List.length_append, List.length_map]
    show wy.length + 1 ≤ 6
    omega
  | take o => show 1 ≤ 6; decide
  | num w c o => show 1 ≤ 6; decide
  | upto c a b => show 2 ≤ 6; decide
  | fin w => show 0 ≤ 6; decide
/-- the lines kept: a tuple of pairs -/
structure Kept (H : Hp) (l : Addr) (ts : List V) (ns : List Str) (ls : List Li) : Prop where
  at_ : H l = some (.tup ts)
  prs : Paired (PrT H ns) ts (numbered ls)
  fms : Fms ns ls
theorem Kept.mono {H H' : Hp} {l : Addr} {ts : List V} {ns : List Str} {ls : List Li} (e : Ex H H') (h : Kept H l ts ns ls) : Kept H' l ts ns ls := ⟨e _ _ h.at_, paired_mono (fun _ _ h => h.mono' e) h.prs, h.fms⟩
theorem Kept.len {H : Hp} {l : Addr} {ts : List V} {ns : List Str} {ls : List Li} (h : Kept H l ts ns ls) : ts.length = ls.length := by rw [paired_len h.prs, num_len]
theorem Kept.get {H : Hp} {l : Addr} {ts : List V} {ns : List Str} {ls : List Li} (h : Kept H l ts ns ls) {i : Nat} {x : V} (hx : ts[i]? = some x) : ∃ t y li, x = .ref t ∧ H t = some (.tup [.str (wAt ns i), y]) ∧ LtAt H ns y li ∧ ls[i]? = some li ∧ i < ns.length ∧ LiFm li := by
  obtain ⟨⟨j, li⟩, hj, t2, lx, rfl, ht2, hli⟩ := paired_get h.prs hx
  obtain ⟨rfl, hj2⟩ := num_get hj
  exact ⟨t2, lx, li, rfl, ht2, hli, hj2, by rw [h.fms.len]; exact (List.getElem?_eq_some_iff.mp hj2).1, h.fms.fm _ (List.mem_of_getElem? hj2)⟩
def spCG : Sp := fun vs H Q _ => ∃ (l : Addr) (ts : List V) (ns : List Str) (ls : List Li), vs = [.ref l] ∧ Kept H l ts ns ls ∧ (∀ li ∈ ls, ∀ g ∈ liG li, g < ns.length) ∧ ∀ H', Ex H H' → Q .non H'
theorem ok_check_goals (T : Ptx w K mg) : FnOk P w K mg base CX0 4 T.f_check_goals T.d_check_goals ["lines"] spCG := by
  refine T.F_check_goals.ok sc_check_goals (fun vs H Q E h => ?_) (fun cdv A outer s H vs Q E hr h => ?_)
  · obtain ⟨l, ts, ns, ls, rfl, _⟩ := h
    rfl
  · obtain ⟨l, ts, ns, ls, rfl, hk, hg, k⟩ := h
    refine ⟨_, (pss_cons (ps_set (i := 1) sc_check_goals.nd rfl (Or.inr rfl) (pe_lc (g := gTup K 2 (gCons (gName 2) (gCons (gName 3) gNil))) rfl sc_check_goals.nd (pi_tup (pv 0)) (blkOk_by (own := [("name", 2), ("_", 3)]) (N := ["lines", "names", "name", "_", "number", "line", "goal"]) (sc := defScope s_check_goals) (by decide +kernel)) (fun _ _ _ _ _ => (pg_tup (by rfl) (pgs_cons (pg_name (i := 2) sc_check_goals.nd rfl (Or.inl rfl)) (pgs_cons (pg_name (i := 3) sc_check_goals.nd rfl (Or.inl rfl)) pgs_nil)))) (fun _ _ _ _ _ => pts_nil) (fun _ _ _ _ _ => (pv 2))))
      (pss_one (ps_for PassesOwn.never rfl (En.pi_enumT (by rfl) T.z_enumerate (pa_cons (pv 0) pa_nil)) (pg_tup (by rfl) (pgs_cons (pg_name (i := 4) sc_check_goals.nd rfl (Or.inl rfl)) (pgs_cons (pg_tup (by rfl) (pgs_cons (pg_name (i := 3) sc_check_goals.nd rfl (Or.inl rfl)) (pgs_cons (pg_name (i := 5) sc_check_goals.nd rfl (Or.inl rfl)) pgs_nil))) pgs_nil)))
        (pss_one (ps_if (pt_not (pt_val (pe_callB (cr_all rfl) (by rfl) T.z_all (by decide +kernel) (pa_cons (pe_lc (te := tOp (rIn K false) (tVar 6) (tVar 1)) rfl sc_check_goals.nd (pi_list (pe_call (ok_goals T) (hr.mono (by decide)) rfl T.m_goals T.F_goals.kp T.b_goals .nil pass0 (pa_cons (pv 5) pa_nil))) (blkOk_by (own := [("goal", 6)]) (N := ["lines", "names", "name", "_", "number", "line", "goal"]) (sc := defScope s_check_goals) (by decide +kernel)) (fun _ _ _ _ _ => (pg_name (i := 6) sc_check_goals.nd rfl (Or.inl rfl))) (fun _ _ _ _ _ => pts_nil) (fun _ _ _ _ _ => (pe_cmpR op_in_seq (pv 6) (pv 1) (by rfl)))) pa_nil))))
          (pss_one ps_never)
          pss_nil))))), ?_⟩
    have hS : start ["lines", "names", "name", "_", "number", "line", "goal"] [V.ref l] = [some (.ref l), none, none, none, none, none, none] := rfl
    rw [hS]
    have htl := hk.len
    have hl := hk.at_
    walk_at "rd"
    refine Rd.i_lcT ?_
    walk_at "rd"
    refine Rd.lcT (xs := ts) (SqT.of hl) (fun D hD => ⟨fun i H2 => H2 D = some (.lst ((ns.take i).map V.str)) ∧ Ex H H2, ⟨upd_same, Ex.new hD⟩, fun i H2 _ h => SqT.of (h.2 _ _ hl), ?_, ?_⟩)
    · rintro i x H2 hx ⟨hDl, ex2⟩
      obtain ⟨t, y, li, rfl, ht, hy, hli, hin, hfm⟩ := (hk.mono ex2).get hx
      walk_at "rd"
      refine ⟨rfl, ?_⟩
      walk_at "rd"
      refine ⟨_, hDl, small1000 (by rw [List.length_map, List.length_take]; have := hk.fms.most; have := hk.fms.len; omega), ?_, ex_mut ex2 hD⟩
      rw [upd_same, wAt_take hin, List.map_append]
      rfl
    · rintro H2 ⟨hDl, ex2⟩
      rw [take_all (by rw [htl, hk.fms.len])] at hDl
      have hl2 := ex2 _ _ hl
      walk_at "rd"
      refine i_forET ?_
      walk_at "rd"
      refine ⟨l, ts, rfl, SqT.of hl2, ?_⟩
      refine for_it walk_enumT (fun i σ H3 => ∃ u2 u3 u4 u5 u6 : Option V, σ = [some (.ref l), some (.ref D), u2, u3, u4, u5, u6] ∧ Ex H2 H3) ⟨_, _, _, _, _, rfl, Ex.refl _⟩ (fun i σ H3 _ ⟨_, _, _, _, _, _, e⟩ => SqT.of (e _ _ hl2)) ?_ ?_
      · rintro i v _ H3 H4 hi ⟨u2, u3, u4, u5, u6, rfl, ex3⟩ ⟨t, x, y, rfl, ht, rfl, hx, hy⟩
        cases hx
        have e4 : Ex H3 (upd H3 t (.tup [.int (i : Nat), y])) := Ex.new ht
        obtain ⟨t2, lx, li, rfl, ht2, hlx, hli, hin, hfm⟩ := (hk.mono ((ex2.trans ex3).trans e4)).get hy
        have hD4 := e4 _ _ (ex3 _ _ hDl)
        walk_at "rd"
        refine Rd.i_lcL ?_
        walk_at "rd"
        refine ⟨lx, ns, li, rfl, hlx, hfm, fun gl H5 ex5 ngl hgl => ?_⟩
        have hD5 := ex5 _ _ hD4
        refine Rd.lcL (xs := gV ns (liG li)) (SqL.of hgl) (fun D2 hD2 => ⟨fun j H6 => H6 D2 = some (.lst ((List.replicate j true).map V.bl)) ∧ Ex H5 H6, ⟨upd_same, Ex.new hD2⟩, fun j H6 _ h => SqL.of (h.2 _ _ hgl), ?_, ?_⟩)
        · rintro j z H6 hz ⟨hD6, ex6⟩
          unfold gV at hz
          rw [List.getElem?_map] at hz
          obtain ⟨g, hg2, rfl⟩ := Option.map_eq_some_iff.mp hz
          have hj := (List.getElem?_eq_some_iff.mp hg2).1
          have hgn := hg li (List.mem_of_getElem? hli) g (List.mem_of_getElem? hg2)
          walk_at "rd"
          refine ⟨rfl, ?_⟩
          walk_at "rd"
          refine i_inS (.inl (SqL.of (ex6 _ _ hD5))) ?_
          rw [decide_eq_true (wAt_mem hgn)]
          refine ⟨_, hD6, small1000 ?_, ?_, ex_mut ex6 hD2⟩
          · rw [List.length_map, List.length_replicate]
            have := liG_len hfm
            omega
          · rw [upd_same, List.replicate_succ', List.map_append]
            rfl
        · rintro H6 ⟨hD6, ex6⟩
          walk_at "rd"
          refine ⟨D2, _, rfl, SqL.of hD6, ?_⟩
          rw [show (List.replicate (gV ns (liG li)).length true).all id = true from List.all_eq_true.mpr fun y hy => by rw [List.eq_of_mem_replicate hy]; rfl]
          walk_at "rd"
          exact ⟨_, _, _, _, _, rfl, (ex3.trans e4).trans (ex5.trans ex6)⟩
      · rintro _ H3 ⟨u2, u3, u4, u5, u6, rfl, ex3⟩
        walk_at "rd"
        exact k _ (ex2.trans ex3)
/-- what a dict of silent ways holds -/
def WyAt (H : Hp) (d : Addr) (ns : List Str) (ls : List Li) (n : Nat) : Prop := ∃ kvs : List (Key × V), H d = some (.dK kvs) ∧ kvs.length ≤ n ∧ ∀ x : Str, valV kvs (Sum.inr x) = none ∨ ∃ i li l, i < n ∧ ls[i]? = some li ∧ i < ns.length ∧ x = wAt ns i ∧ ¬ Lk (liW li) ∧ LiFm li ∧ valV kvs (Sum.inr x) = some (.ref l) ∧ H l = some (.lst (gV ns (liG li)))
theorem WyAt.mono {H H' : Hp} {d : Addr} {ns : List Str} {ls : List Li} {n : Nat} (e : Ex H H') : WyAt H d ns ls n → WyAt H' d ns ls n := fun ⟨kvs, h1, h2, h3⟩ => ⟨kvs, e _ _ h1, h2, fun x => (h3 x).imp id fun ⟨i, li, l, a, b, c, d, e', f, g, h⟩ => ⟨i, li, l, a, b, c, d, e', f, g, e _ _ h⟩⟩
theorem lk_in {x : Str} (h : Lk x) : x ∈ (["case", "take", "rest", "cap", "jump"] : List Str) := by
  unfold Lk at h
  simp only [List.mem_cons, List.not_mem_nil, or_false] at h ⊢
  rcases h with h | h | h | h | h
  · exact .inr (.inl h)
  · exact .inl h
  · exact .inr (.inr (.inl h))
  · exact .inr (.inr (.inr (.inl h)))
  · exact .inr (.inr (.inr (.inr h)))
theorem LtAt.word {H : Hp} {ns : List Str} {v : V} : ∀ {li : Li}, LtAt H ns v li → ∃ t xs, v = .ref t ∧ H t = some (.tup (.str (liW li) :: xs))
  | .case _ _, ⟨t, l, ts, h1, h2, h3, h4⟩ => ⟨t, _, h1, h2⟩
  | .take _, ⟨t, h1, h2⟩ => ⟨t, _, h1, h2⟩
  | .num _ _ _, ⟨t, h1, h2⟩ => ⟨t, _, h1, h2⟩
  | .upto _ _ _, ⟨t, h1, h2⟩ => ⟨t, _, h1, h2⟩
  | .fin _, ⟨t, h1, h2⟩ => ⟨t, _, h1, h2⟩
theorem dcT {i : Nat} {a : Addr} {xs : List V} {g : TG} {t : TT} {tk tv : TE} {vs : List Nat} {σ : L2.St} {H : Hp} {Q : VK} (hi : σ[i]? = some (some (.ref a))) (h : SqT K H a xs) (q : ∀ D, H D = none → ∃ Pv : Nat → Hp → Prop, Pv 0 (upd H D (.dK [])) ∧ (∀ i H, i ≤ xs.length → Pv i H → SqT K H a xs) ∧
    (∀ i x H, xs[i]? = some x → Pv i H → g x (wipe σ vs) H fun σ2 H2 => wipe σ2 vs = wipe σ vs ∧ t σ2 H2 fun b H3 => if b = true then tk σ2 H3 fun y H4 => tv σ2 H4 fun z H5 => ∃ kvs k, y = kV k ∧ H5 D = some (.dK kvs) ∧ kvs.length < sizeLine ∧ Pv (i + 1) (upd H5 D (.dK (putK kvs k z))) else Pv (i + 1) H3) ∧ ∀ H, Pv xs.length H → Q (.ref D) H) : tDc (iTup K (tVar i)) g t tk tv vs σ H Q :=
  Exists.intro (.ref a) ⟨hi, a, rfl, ⟨xs, h⟩, fun D hD => let ⟨Pv, p0, pl, ps, pd⟩ := q D hD; dc_tup (xs := xs) (Qd := fun H => Q (.ref D) H) Pv p0 pl ps pd⟩
def spSW : Sp := fun vs H Q _ => ∃ (l : Addr) (ts : List V) (ns : List Str) (ls : List Li), vs = [.ref l] ∧ Kept H l ts ns ls ∧ ∀ d H', Ex H H' → WyAt H' d ns ls ls.length → Q (.ref d) H'
theorem ok_silent_ways (T : Ptx w K mg) : FnOk P w K mg base CX0 4 T.f_silent_ways T.d_silent_ways ["lines"] spSW := by
  refine T.F_silent_ways.ok sc_silent_ways (fun vs H Q E h => ?_) (fun cdv A outer s H vs Q E hr h => ?_)
  · obtain ⟨l, ts, ns, ls, rfl, _⟩ := h
    rfl
  · obtain ⟨l, ts, ns, ls, rfl, hk, k⟩ := h
    refine ⟨_, (pss_one (ps_ret (pe_dc (g := gTup K 2 (gCons (gName 1) (gCons (gName 2) gNil))) (tv := tCall (spGoals K) [] E0 (tCons (tVar 2) tNil)) (tt := tTest (tOp (rIn K true) (tOp (rIxT K) (tVar 2) (tC (.int 0))) (tC (.ref T.a_READING)))) rfl sc_silent_ways.nd (pi_tup (pv 0)) (blkOk_by (own := [("name", 1), ("line", 2)]) (N := ["lines", "name", "line"]) (sc := defScope s_silent_ways) (by decide +kernel)) (fun _ _ _ _ _ => (pg_tup (by rfl) (pgs_cons (pg_name (i := 1) sc_silent_ways.nd rfl (Or.inl rfl)) (pgs_cons (pg_name (i := 2) sc_silent_ways.nd rfl (Or.inl rfl)) pgs_nil)))) (fun _ _ _ _ _ => (pts_one (pt_cmpR op_notIn_seq (pe_ix ix_tup (pv 2) pe_int (fun _ _ => rfl)) (pe_glob (v := .ref T.a_READING) rfl T.m_READING rfl) (by rfl)))) (fun _ _ _ _ _ => (pv 1)) (fun _ _ _ _ _ => (pe_call (ok_goals T) (hr.mono (by decide)) rfl T.m_goals T.F_goals.kp T.b_goals .nil pass0 (pa_cons (pv 2) pa_nil)))))), ?_⟩
    have hS : start ["lines", "name", "line"] [V.ref l] = [some (.ref l), none, none] := rfl
    rw [hS]
    have htl := hk.len
    have hl := hk.at_
    walk_at "rd"
    refine dcT (xs := ts) rfl (SqT.of hl) (fun D hD => ⟨fun i H2 => WyAt H2 D ns ls i ∧ Ex H H2, ⟨⟨[], upd_same, Nat.le_refl _, fun x => .inl rfl⟩, Ex.new hD⟩, fun i H2 _ h => SqT.of (h.2 _ _ hl), ?_, ?_⟩)
    · rintro i x H2 hx ⟨⟨kvs, hDd, hlen, hkv⟩, ex2⟩
      obtain ⟨t, y, li, rfl, ht, hy, hli, hin, hfm⟩ := (hk.mono ex2).get hx
      obtain ⟨t2, xs, rfl, ht2⟩ := hy.word
      have hil := (List.getElem?_eq_some_iff.mp hli).1
      have hm8 := hk.fms.most
      walk_at "rd"
      refine ⟨rfl, ?_⟩
      walk_at "rd"
      refine Rd.i_ixT (SqT.of ht2) (atI_nat (j := 0) rfl) ?_
      walk_at "rd"
      refine i_ninS (ns := ["case", "take", "rest", "cap", "jump"]) (.inr (T.q_READING _)) ?_
      walk_at "rd"
      refine Rd.ite_nd (fun hlk => ?_) (fun hnl => ?_)
      · refine ⟨⟨kvs, hDd, by omega, fun x => (hkv x).imp id fun ⟨j, h⟩ => ⟨j, h.choose, h.choose_spec.choose, ?_⟩⟩, ex2⟩
        obtain ⟨h1, h2⟩ := h.choose_spec.choose_spec
        exact ⟨by omega, h2⟩
      · walk_at "rd"
        refine ⟨_, ns, li, rfl, hy, hfm, fun gl H5 ex5 ngl hgl => ?_⟩
        have hD5 := ex5 _ _ hDd
        have glD : gl ≠ D := fun e => by rw [e, hDd] at ngl; cases ngl
        refine ⟨kvs, Sum.inr (wAt ns i), rfl, hD5, Nat.lt_of_le_of_lt hlen (Nat.lt_of_le_of_lt (by omega : i ≤ 8) (by decide)), ⟨_, upd_same, ?_, fun x => ?_⟩, ex_mut (ex2.trans ex5) hD⟩
        · exact Nat.le_trans (length_putK _ _ _) (by omega)
        · rw [valV_put]
          by_cases hxw : x = wAt ns i
          · subst hxw
            rw [if_pos rfl]
            refine .inr ⟨i, li, gl, by omega, hli, hin, rfl, fun hlk => hnl (lk_in hlk), hfm, rfl, ?_⟩
            rw [upd_ne glD]
            exact hgl
          · rw [if_neg fun e => hxw (Sum.inr.inj e)]
            refine (hkv x).imp id fun ⟨j, lj, l2, h1, h2, h3, h4, h5, h6, h7, h8⟩ => ⟨j, lj, l2, by omega, h2, h3, h4, h5, h6, h7, ?_⟩
            rw [upd_ne fun e => by rw [e, hDd] at h8; cases h8]
            exact ex5 _ _ h8
    · rintro H2 ⟨hW, ex2⟩
      rw [htl] at hW
      exact k D _ ex2 hW
end
end K02

namespace K02
open PySem L2
local macro_rules | `(tactic| walk_at "rd1") => `(tactic| first
  | (with_reducible refine Rd.i_seq ?_) | (with_reducible refine Rd.i_asg ?_) | (with_reducible refine Rd.i_name ?_) | (with_reducible refine Rd.i_nx ?_) | (with_reducible refine Rd.i_rt ?_) | (with_reducible refine Rd.i_next ?_) | (with_reducible refine Rd.i_ct ?_) | (with_reducible refine Rd.i_bk ?_)
  | (with_reducible refine Rd.i_ret ?_) | (with_reducible refine Rd.i_drop ?_) | (with_reducible refine Rd.i_ifS ?_) | (with_reducible refine Rd.i_sub ?_)
  | (with_reducible refine Rd.i_var (by with_unfolding_all exact rfl) ?_) | (with_reducible refine Rd.i_c ?_) | (with_reducible refine Rd.i_op ?_) | (with_reducible refine Rd.i_un ?_)
  | (with_reducible refine Rd.i_rI0 ?_) | (with_reducible refine Rd.i_rI (by with_unfolding_all first | omega | exact Rd.mulL (by omega) (by omega) | exact Rd.mulR (by omega) (by omega) | decide | (refine ⟨?_, ?_⟩ <;> omega) | (refine ⟨?_, ?_, ?_⟩ <;> omega)) ?_)
  | (with_reducible refine Rd.i_rEq (by with_unfolding_all exact rfl) ?_) | (with_reducible refine Rd.i_rNe (by with_unfolding_all exact rfl) ?_)
  | (with_reducible refine Rd.i_test ?_) | (with_reducible refine Rd.i_tB ?_) | (with_reducible refine Rd.i_bl ?_) | (with_reducible refine Rd.i_and ?_) | (with_reducible refine Rd.i_or ?_) | (with_reducible refine Rd.i_not ?_) | (with_reducible refine Rd.i_notV ?_) | (with_reducible refine Rd.i_andV ?_) | (with_reducible refine Rd.i_orV ?_) | (with_reducible refine Rd.i_if ?_) | (with_reducible refine Rd.i_chain ?_)
  | (with_reducible refine Rd.i_call ?_) | (with_reducible refine Rd.i_nil ?_) | (with_reducible refine Rd.i_cons ?_) | (with_reducible refine Rd.i_cb ?_) | (with_reducible refine Rd.i_bm ?_) | (with_reducible refine Rd.i_bm0 ?_) | (with_reducible refine Rd.i_tup ?_) | (with_reducible refine Rd.i_lst ?_)
  | (with_reducible refine Rd.i_int1 ?_) | (with_reducible refine Rd.i_intb ?_) | (with_reducible refine Rd.i_max ?_)
  | (with_reducible refine Rd.i_ixL (SqL.of (by first | assumption | exact upd_same)) (by with_unfolding_all first | exact rfl | exact atI_nat rfl) ?_) | (with_reducible refine Rd.i_ixT (SqT.of (by first | assumption | exact upd_same)) (by with_unfolding_all exact rfl) ?_)
  | (with_reducible refine Rd.i_setL (by first | assumption | exact upd_same) (by with_unfolding_all exact rfl) ?_)
  | (with_reducible refine Xv.i_mkV ?_) | (with_reducible refine Xv.i_xat ?_)
  | (with_reducible refine Rd.i_yes ?_) | (with_reducible refine Rd.i_m1 ?_) | (with_reducible refine Rd.i_m0 ?_) | (with_reducible refine Rd.ite_T ?_) | (with_reducible refine Rd.ite_F ?_) | (with_reducible refine Rd.i_forR ?_) | (with_reducible refine Rd.i_forL ?_) | (with_reducible refine Rd.i_forT ?_)
  | (with_reducible refine Hd.i_rU ?_) | (with_reducible refine Hd.i_pcons ?_) | (with_reducible refine Hd.i_pnil ?_) | (with_reducible refine Hd.i_disp ?_) | (with_reducible refine Hd.i_dget ?_)
  | (with_reducible refine Hd.i_lstRg ?_) | (with_reducible refine Hd.i_rg1 ?_) | (with_reducible refine Hd.i_rg2 ?_) | (with_reducible refine Hd.i_ex1 ?_) | (with_reducible refine Hd.i_ex2 ?_)
  | (with_reducible refine Rd.i_gtup (SqT.of (by first | assumption | exact upd_same)) (by with_unfolding_all exact rfl) ?_) | (with_reducible refine Rd.i_gcons ?_) | (with_reducible refine Rd.i_gnil ?_)
  | (with_reducible refine Rd.i_lenT (SqT.of (by first | assumption | exact upd_same)) ?_) | (with_reducible refine Rd.i_len (SqL.of (by first | assumption | exact upd_same)) ?_)
  | (with_reducible refine Nr.ite_eF (by first | decide +kernel | with_unfolding_all exact rfl) ?_) | (with_reducible refine Nr.ite_eT (by first | decide +kernel | with_unfolding_all exact rfl) ?_)
  | (with_reducible refine Nr.i_tyL (by first | assumption | exact upd_same) ?_)
  | (with_reducible refine Nr.i_tupT (SqT.of (by first | assumption | exact upd_same)) ?_)
  | (with_reducible refine Nr.i_sl ?_) | (with_reducible refine Nr.i_part ?_) | (with_reducible refine Nr.i_nop ?_) | (with_reducible refine Nr.i_star ?_)
  | fail "stop")
local macro_rules | `(tactic| walk_at "rd") => `(tactic| repeat walk_at "rd1")
section
variable {P : Program} {w : World} {K : PySem.W.Frag} {mg : Str → Option Value} {base : Heap}
open Evl Hd
theorem i_pop {l : Addr} {xs : List V} {y : V} {H : Hp} {Q : VK} (h : H l = some (.lst (xs ++ [y]))) (q : Q y (upd H l (.lst xs))) : rPop (.ref l) [] H Q :=
  ⟨l, _, y, rfl, rfl, h, by rw [List.length_append]; show (xs ++ [y])[xs.length + 1 - 1]? = _; rw [Nat.add_sub_cancel, List.getElem?_append_right (Nat.le_refl _), Nat.sub_self]; rfl, by rw [List.dropLast_concat]; exact q⟩
theorem i_ext {l b : Addr} {xs zs : List V} {H : Hp} {Q : VK} (h1 : H l = some (.lst xs)) (h2 : H b = some (.lst zs)) (hz : xs.length + zs.length ≤ 1000) (q : Q .non (upd H l (.lst (xs ++ zs)))) : rExtend (.ref l) [.ref b] H Q := ⟨l, b, xs, zs, rfl, rfl, h1, h2, Nat.le_trans hz (by decide), q⟩
theorem i_get2 {td ty tx : TE} {σ : L2.St} {H : Hp} {Q : VK} (q : td σ H fun x H1 => ∃ a, x = .ref a ∧ IsD H1 a ∧ ty σ H1 fun y H2 => tx σ H2 fun z H3 => ∃ o, DGet H3 a y o ∧ Q (o.getD z) H3) : tDGet2 td ty tx σ H Q := q
/-- what is reached keeps a property that the silent ways keep -/
structure Clo (ns : List Str) (ls : List Li) (S : Str → Prop) : Prop where
  fms : Fms ns ls
  rng : ∀ li ∈ ls, ∀ g ∈ liG li, g < ns.length
  go : ∀ i li, ls[i]? = some li → i < ns.length → S (wAt ns i) → ¬ Lk (liW li) → ∀ g ∈ liG li, S (wAt ns g)
def spRe : Sp := fun vs H Q _ => ∃ (d m : Addr) (ns : List Str) (ls : List Li) (n : Nat) (S : Str → Prop) (xs : List Str), vs = [.ref d, .ref m] ∧ WyAt H d ns ls n ∧ Clo ns ls S ∧ H m = some (.lst (xs.map V.str)) ∧ xs.length ≤ 10 ∧ (∀ x ∈ xs, x ∈ ns ∧ S x) ∧ ∀ (l : Addr) (fs : List Str) (H' : Hp), Ex H H' → H' l = some (.lst (fs.map V.str)) → (∀ x ∈ fs, S x) → Q (.ref l) H'
def ReInv (H : Hp) (d m fl al : Addr) (ns : List Str) (S : Str → Prop) (μ : Nat) (σ : L2.St) (H2 : Hp) : Prop := ∃ (fs as : List Str) (u : Option V), σ = [some (.ref d), some (.ref m), some (.ref fl), some (.ref al), u] ∧ H2 fl = some (.lst (fs.map V.str)) ∧ H2 al = some (.lst (as.map V.str)) ∧ fs.Nodup ∧ (∀ x ∈ fs, x ∈ ns ∧ S x) ∧ (∀ x ∈ as, x ∈ ns ∧ S x) ∧ as.length ≤ 10 + 6 * fs.length ∧ Ex H H2 ∧ μ = (9 - fs.length) * 7 + as.length
theorem ok_reached (T : Ptx w K mg) : FnOk P w K mg base CX0 5 T.f_reached T.d_reached ["ways", "names"] spRe := by
  refine T.F_reached.ok sc_reached (fun vs H Q E h => ?_) (fun cdv A outer s H vs Q E hr h => ?_)
  · obtain ⟨d, m, ns, ls, n, S, xs, rfl, _⟩ := h
    rfl
  · obtain ⟨d, m, ns, ls, n, S, xs, rfl, hW, hC, hm, hxl, hxs, k⟩ := h
    refine ⟨_, (pss_cons (ps_set (i := 2) sc_reached.nd rfl (Or.inl rfl) (pe_lst pa_nil))
      (pss_cons (ps_set (i := 3) sc_reached.nd rfl (Or.inl rfl) (pe_callTy call_list_of (by rfl) T.z_list (by decide +kernel) (pa_cons (pv 1) pa_nil)))
      (pss_cons (ps_while PassesOwn.never (pt_truth (pv 3) (by intro _; rfl))
        (pss_cons (ps_set (i := 4) sc_reached.nd rfl (Or.inl rfl) (pe_bm0 PySem.F.plainAttrs_list PySem.F.slot_list_pop PySem.F.type_list_pop mt_pop (pv 3)))
        (pss_one (ps_if (pt_cmpR op_notIn_seq (pv 4) (pv 2) (by rfl))
          (pss_cons (ps_expr (pe_bm PySem.F.plainAttrs_list PySem.F.slot_list_append PySem.F.type_list_append mt_append (pv 2) (pa_cons (pv 4) pa_nil)))
          (pss_one (ps_expr (pe_bm PySem.F.plainAttrs_list PySem.F.slot_list_extend PySem.F.type_list_extend mt_extend (pv 3) (pa_cons (pe_dget2 (hu_of hr) (pv 0) (pv 4) (pe_lst pa_nil) ⟨rfl, rfl, rfl, rfl⟩) pa_nil)))))
          pss_nil))))
      (pss_one (ps_ret (pv 2)))))), ?_⟩
    have hS : start ["ways", "names", "found", "ahead", "name"] [V.ref d, .ref m] = [some (.ref d), some (.ref m), none, none, none] := rfl
    rw [hS]
    walk_at "rd"
    refine ⟨Nat.zero_le _, fun fl nfl => ?_⟩
    have hm1 : upd H fl (.lst []) m = some (.lst (xs.map V.str)) := (Ex.new (o := .lst []) nfl) _ _ hm
    walk_at "rd"
    intro al nal
    walk_at "rd"
    have e2 : Ex H (upd (upd H fl (.lst [])) al (.lst (xs.map V.str))) := (Ex.new (o := .lst []) nfl).trans (Ex.new nal)
    have nal0 : H al = none := fresh_back (Ex.new (o := .lst []) nfl) nal
    have fal : fl ≠ al := fun e => by rw [e, upd_same] at nal; cases nal
    refine Exists.intro (ReInv H d m fl al ns S) ⟨⟨_, [], xs, _, rfl, ?_, upd_same, List.nodup_nil, fun _ h => (List.not_mem_nil h).elim, hxs, hxl, e2, rfl⟩, ?_⟩
    · rw [upd_ne fal]
      exact upd_same
    rintro μ _ H2 ⟨fs, as, u, rfl, hfl, hal, hnd, hfs, has, hlen, ex2, rfl⟩
    refine Exists.intro (.ref al) ⟨rfl, !(as.map V.str).isEmpty, .inl ⟨_, SqL.of hal, rfl⟩, ?_⟩
    rcases List.eq_nil_or_concat as with rfl | ⟨as', y, rfl⟩
    · walk_at "rd"
      exact k fl fs H2 ex2 hfl fun x hx => (hfs x hx).2
    rw [List.concat_eq_append] at hal has hlen ⊢
    rw [show (!((as' ++ [y]).map V.str).isEmpty) = true from by rw [List.map_append]; cases as' <;> rfl]
    refine Rd.ite_T ⟨fun σ' H' => ∃ m', m' < (9 - fs.length) * 7 + (as' ++ [y]).length ∧ ReInv H d m fl al ns S m' σ' H', fun _ _ h => h, ?_⟩
    rw [List.map_append] at hal
    rw [List.length_append] at hlen
    have hal' : H2 al = some (.lst (as'.map V.str ++ [.str y])) := hal
    obtain ⟨hyn, hyS⟩ := has y (List.mem_append_right _ List.mem_cons_self)
    have has' : ∀ x ∈ as', x ∈ ns ∧ S x := fun x hx => has x (List.mem_append_left _ hx)
    have hl1 : (as' ++ [y]).length = as'.length + 1 := List.length_append
    rw [hl1]
    have hl1' : as'.length + 1 ≤ 10 + 6 * fs.length := hlen
    walk_at "rd"
    refine i_pop hal' ?_
    walk_at "rd"
    have hfl3 : upd H2 al (.lst (as'.map V.str)) fl = some (.lst (fs.map V.str)) := by rw [upd_ne fal]; exact hfl
    have ex3 : Ex H (upd H2 al (.lst (as'.map V.str))) := ex_mut ex2 nal0
    have hal3 : upd H2 al (.lst (as'.map V.str)) al = some (.lst (as'.map V.str)) := upd_same
    generalize upd H2 al (.lst (as'.map V.str)) = H3 at hfl3 ex3 hal3
    refine i_ninS (.inl (SqL.of hfl3)) ?_
    walk_at "rd"
    refine Rd.ite_nd (fun hy => ?_) (fun hy => ?_)
    · walk_at "rd"
      exact ⟨_, by omega, fs, as', _, rfl, hfl3, hal3, hnd, hfs, has', by omega, ex3, rfl⟩
    have hnd2 : (fs ++ [y]).Nodup := List.nodup_append.mpr ⟨hnd, List.nodup_cons.mpr ⟨List.not_mem_nil, List.nodup_nil⟩, fun a ha b hb e => by
      rw [List.mem_singleton.mp hb] at e
      exact hy (e ▸ ha)⟩
    have hsub2 : ∀ x ∈ fs ++ [y], x ∈ ns ∧ S x := fun x hx => (List.mem_append.mp hx).elim (hfs x) fun h => by
      rw [List.mem_singleton.mp h]
      exact ⟨hyn, hyS⟩
    have hl8 : fs.length + 1 ≤ 8 := by
      have h1 := nodup_len hnd2 fun x hx => (hsub2 x hx).1
      have h2 := hC.fms.len
      have h3 := hC.fms.most
      rw [List.length_append] at h1
      have h4 : fs.length + 1 ≤ ns.length := h1
      omega
    walk_at "rd"
    refine Rd.i_append hfl3 (small1000 (by rw [List.length_map]; omega)) ?_
    walk_at "rd"
    have hfl4 : upd H3 fl (.lst (fs.map V.str ++ [.str y])) fl = some (.lst ((fs ++ [y]).map V.str)) := by rw [List.map_append]; exact upd_same
    have hal4 : upd H3 fl (.lst (fs.map V.str ++ [.str y])) al = some (.lst (as'.map V.str)) := by rw [upd_ne (Ne.symm fal)]; exact hal3
    have ex4 : Ex H (upd H3 fl (.lst (fs.map V.str ++ [.str y]))) := ex_mut ex3 nfl
    generalize upd H3 fl (.lst (fs.map V.str ++ [.str y])) = H4 at hfl4 hal4 ex4
    refine Nr.i_tyL hal4 ?_
    walk_at "rd"
    refine i_get2 ?_
    obtain ⟨kvs, hd4, hkl, hkv⟩ := hW.mono ex4
    walk_at "rd"
    refine ⟨d, rfl, .inl ⟨kvs, .inl hd4⟩, ?_⟩
    walk_at "rd"
    refine ⟨Nat.zero_le _, fun el nel => ?_⟩
    have e5 : Ex H4 (upd H4 el (.lst [])) := Ex.new nel
    refine ⟨_, DGet.k (k := Sum.inr y) (e5 _ _ hd4), ?_⟩
    have fin : ∀ (b : Addr) (new : List Str), upd H4 el (.lst []) b = some (.lst (new.map V.str)) → new.length ≤ 6 → (∀ x ∈ new, x ∈ ns ∧ S x) → ∀ u, ∃ m', m' < (9 - fs.length) * 7 + (as'.length + 1) ∧ ReInv H d m fl al ns S m' [some (.ref d), some (.ref m), some (.ref fl), some (.ref al), u] (upd (upd H4 el (.lst [])) al (.lst (as'.map V.str ++ new.map V.str))) := fun b new hb hnl hnew u =>
      ⟨(9 - (fs ++ [y]).length) * 7 + (as' ++ new).length, by rw [List.length_append, List.length_append]; show (9 - (fs.length + 1)) * 7 + _ < _; omega, fs ++ [y], as' ++ new, u, rfl, by rw [upd_ne fal]; exact e5 _ _ hfl4, by rw [List.map_append]; exact upd_same, hnd2, hsub2, fun x hx => (List.mem_append.mp hx).elim (has' x) (hnew x), by rw [List.length_append, List.length_append]; show _ ≤ 10 + 6 * (fs.length + 1); omega, ex_mut (ex4.trans e5) nal0, rfl⟩
    have al5 := e5 _ _ hal4
    rcases hkv y with hv | ⟨i, li, l, hi, hli, hin, hyw, hnl, hfm, hv, hgl⟩
    · rw [hv]
      walk_at "rd"
      refine i_ext al5 (upd_same (o := .lst [])) (by rw [List.length_map]; show as'.length + 0 ≤ 1000; omega) ?_
      walk_at "rd"
      exact fin el [] upd_same (Nat.zero_le _) (fun _ h => (List.not_mem_nil h).elim) _
    · rw [hv]
      have hgl5 : upd H4 el (.lst []) l = some (.lst (((liG li).map fun o => wAt ns o).map V.str)) := by rw [List.map_map]; exact e5 _ _ hgl
      have h6 := liG_len hfm
      walk_at "rd"
      refine i_ext al5 hgl5 (by rw [List.length_map, List.length_map, List.length_map]; omega) ?_
      walk_at "rd"
      refine fin l _ hgl5 (by rw [List.length_map]; exact h6) (fun x hx => ?_) _
      obtain ⟨g, hg, rfl⟩ := List.mem_map.mp hx
      exact ⟨wAt_mem (hC.rng li (List.mem_of_getElem? hli) g hg), hC.go i li hli hin (hyw ▸ hyS) hnl g hg⟩
end
end K02

namespace K02
open PySem L2
local macro_rules | `(tactic| walk_at "rd1") => `(tactic| first
  | (with_reducible refine Rd.i_seq ?_) | (with_reducible refine Rd.i_asg ?_) | (with_reducible refine Rd.i_name ?_) | (with_reducible refine Rd.i_nx ?_) | (with_reducible refine Rd.i_rt ?_) | (with_reducible refine Rd.i_next ?_) | (with_reducible refine Rd.i_ct ?_) | (with_reducible refine Rd.i_bk ?_)
  | (with_reducible refine Rd.i_ret ?_) | (with_reducible refine Rd.i_drop ?_) | (with_reducible refine Rd.i_ifS ?_) | (with_reducible refine Rd.i_sub ?_)
  | (with_reducible refine Rd.i_var (by with_unfolding_all exact rfl) ?_) | (with_reducible refine Rd.i_c ?_) | (with_reducible refine Rd.i_op ?_) | (with_reducible refine Rd.i_un ?_)
  | (with_reducible refine Rd.i_rI0 ?_) | (with_reducible refine Rd.i_rI (by with_unfolding_all first | omega | exact Rd.mulL (by omega) (by omega) | exact Rd.mulR (by omega) (by omega) | decide | (refine ⟨?_, ?_⟩ <;> omega) | (refine ⟨?_, ?_, ?_⟩ <;> omega)) ?_)
  | (with_reducible refine Rd.i_rEq (by with_unfolding_all exact rfl) ?_) | (with_reducible refine Rd.i_rNe (by with_unfolding_all exact rfl) ?_)
  | (with_reducible refine Rd.i_test ?_) | (with_reducible refine Rd.i_tB ?_) | (with_reducible refine Rd.i_bl ?_) | (with_reducible refine Rd.i_and ?_) | (with_reducible refine Rd.i_or ?_) | (with_reducible refine Rd.i_not ?_) | (with_reducible refine Rd.i_notV ?_) | (with_reducible refine Rd.i_andV ?_) | (with_reducible refine Rd.i_orV ?_) | (with_reducible refine Rd.i_if ?_) | (with_reducible refine Rd.i_chain ?_)
  | (with_reducible refine Rd.i_call ?_) | (with_reducible refine Rd.i_nil ?_) | (with_reducible refine Rd.i_cons ?_) | (with_reducible refine Rd.i_cb ?_) | (with_reducible refine Rd.i_bm ?_) | (with_reducible refine Rd.i_bm0 ?_) | (with_reducible refine Rd.i_tup ?_) | (with_reducible refine Rd.i_lst ?_)
  | (with_reducible refine Rd.i_int1 ?_) | (with_reducible refine Rd.i_intb ?_) | (with_reducible refine Rd.i_max ?_)
  | (with_reducible refine Rd.i_ixL (SqL.of (by first | assumption | exact upd_same)) (by with_unfolding_all first | exact rfl | exact atI_nat rfl) ?_) | (with_reducible refine Rd.i_ixT (SqT.of (by first | assumption | exact upd_same)) (by with_unfolding_all exact rfl) ?_)
  | (with_reducible refine Rd.i_setL (by first | assumption | exact upd_same) (by with_unfolding_all exact rfl) ?_)
  | (with_reducible refine Xv.i_mkV ?_) | (with_reducible refine Xv.i_xat ?_)
  | (with_reducible refine Rd.i_yes ?_) | (with_reducible refine Rd.i_m1 ?_) | (with_reducible refine Rd.i_m0 ?_) | (with_reducible refine Rd.ite_T ?_) | (with_reducible refine Rd.ite_F ?_) | (with_reducible refine Rd.i_forR ?_) | (with_reducible refine Rd.i_forL ?_) | (with_reducible refine Rd.i_forT ?_)
  | (with_reducible refine Hd.i_rU ?_) | (with_reducible refine Hd.i_pcons ?_) | (with_reducible refine Hd.i_pnil ?_) | (with_reducible refine Hd.i_disp ?_) | (with_reducible refine Hd.i_dget ?_)
  | (with_reducible refine Hd.i_lstRg ?_) | (with_reducible refine Hd.i_rg1 ?_) | (with_reducible refine Hd.i_rg2 ?_) | (with_reducible refine Hd.i_ex1 ?_) | (with_reducible refine Hd.i_ex2 ?_)
  | (with_reducible refine Rd.i_gtup (SqT.of (by first | assumption | exact upd_same)) (by with_unfolding_all exact rfl) ?_) | (with_reducible refine Rd.i_gcons ?_) | (with_reducible refine Rd.i_gnil ?_)
  | (with_reducible refine Rd.i_lenT (SqT.of (by first | assumption | exact upd_same)) ?_) | (with_reducible refine Rd.i_len (SqL.of (by first | assumption | exact upd_same)) ?_)
  | (with_reducible refine Nr.ite_eF (by first | decide +kernel | with_unfolding_all exact rfl) ?_) | (with_reducible refine Nr.ite_eT (by first | decide +kernel | with_unfolding_all exact rfl) ?_)
  | (with_reducible refine Nr.i_tyL (by first | assumption | exact upd_same) ?_)
  | (with_reducible refine Nr.i_tupT (SqT.of (by first | assumption | exact upd_same)) ?_)
  | (with_reducible refine Nr.i_sl ?_) | (with_reducible refine Nr.i_part ?_) | (with_reducible refine Nr.i_nop ?_) | (with_reducible refine Nr.i_star ?_)
  | fail "stop")
local macro_rules | `(tactic| walk_at "rd") => `(tactic| repeat walk_at "rd1")
section
variable {P : Program} {w : World} {K : PySem.W.Frag} {mg : Str → Option Value} {base : Heap}
open Evl Hd
theorem wAt_inj {ns : List Str} {i j : Nat} (hn : ns.Nodup) (hi : i < ns.length) (hj : j < ns.length) (e : wAt ns i = wAt ns j) : i = j := by
  rw [wAt_some (List.getElem?_eq_getElem hi), wAt_some (List.getElem?_eq_getElem hj)] at e
  rcases Nat.lt_trichotomy i j with h | h | h
  · exact absurd e (List.pairwise_iff_getElem.mp hn i j hi hj h)
  · exact h
  · exact absurd e.symm (List.pairwise_iff_getElem.mp hn j i hj hi h)
theorem LiOk.gl {ws : List Str} {i : Nat} : ∀ {li : Li}, LiOk ws i li → ∀ g ∈ liG li, Gok ws i g
  | .case wy o, ⟨_, _, h2, _, h4⟩, g, hg => by
    rcases List.mem_append.mp hg with hg | hg
    · obtain ⟨y, hy, rfl⟩ := List.mem_map.mp hg
      exact (h2 y hy).2.2
    · rw [List.mem_singleton.mp hg]
      exact h4
  | .take o, ⟨_, h⟩, g, hg => by rw [List.mem_singleton.mp hg]; exact h
  | .num _ _ o, ⟨_, _, h⟩, g, hg => by rw [List.mem_singleton.mp hg]; exact h
  | .upto _ a b, ⟨_, _, _, h1, h2⟩, g, hg => by
    rcases List.mem_cons.mp hg with rfl | hg
    · exact h1
    · rw [List.mem_singleton.mp hg]
      exact h2
  | .fin _, _, g, hg => (List.not_mem_nil hg).elim
theorem Drawn.fms {ns ws : List Str} {ls : List Li} (h : Drawn ns ws ls) : Fms ns ls := ⟨by rw [h.len, h.lenL], by rw [h.lenL]; exact h.most, by rw [h.lenL]; exact h.pos, h.nd, h.nm, fun li hli => by
  obtain ⟨i, hi⟩ := List.getElem?_of_mem hli
  exact (h.ok i li hi).fm⟩
theorem Drawn.rng {ns ws : List Str} {ls : List Li} (h : Drawn ns ws ls) : ∀ li ∈ ls, ∀ g ∈ liG li, g < ns.length := fun li hli g hg => by
  obtain ⟨i, hi⟩ := List.getElem?_of_mem hli
  rw [h.len]
  exact ((h.ok i li hi).gl g hg).1
/-- where a silent line leads: to lines that look, or to later ones -/
def Sil (ns ws : List Str) (i : Nat) (x : Str) : Prop := ∃ j, j < ns.length ∧ x = wAt ns j ∧ ¬ Lk (wAt ws i) ∧ (Lk (wAt ws j) ∨ (0 < i ∧ i < j))
theorem Drawn.clo {ns ws : List Str} {ls : List Li} (h : Drawn ns ws ls) (i : Nat) : Clo ns ls (Sil ns ws i) := ⟨h.fms, h.rng, fun j li hli hj ⟨j2, hj2, e, hi, hor⟩ hnl g hg => by
  obtain rfl := wAt_inj h.nd hj hj2 e
  have ho := h.ok j li hli
  rw [ho.wd] at hnl
  obtain ⟨h1, h2⟩ := ho.gl g hg
  refine ⟨g, by rw [h.len]; exact h1, rfl, hi, ?_⟩
  rcases hor with hl | ⟨h3, h4⟩
  · exact absurd hl hnl
  · rcases h2 hnl with h5 | ⟨_, h5⟩
    · exact .inl h5
    · exact .inr ⟨h3, by omega⟩⟩
def Beg (ns ws : List Str) (x : Str) : Prop := ∃ j, j < ns.length ∧ x = wAt ns j ∧ (j = 0 ∨ Lk (wAt ws j))
theorem Drawn.cloB {ns ws : List Str} {ls : List Li} (h : Drawn ns ws ls) : Clo ns ls (Beg ns ws) := ⟨h.fms, h.rng, fun j li hli hj ⟨j2, hj2, e, hor⟩ hnl g hg => by
  obtain rfl := wAt_inj h.nd hj hj2 e
  have ho := h.ok j li hli
  rw [ho.wd] at hnl
  obtain ⟨h1, h2⟩ := ho.gl g hg
  refine ⟨g, by rw [h.len]; exact h1, rfl, .inr ?_⟩
  rcases hor with rfl | hl
  · rcases h2 hnl with h5 | ⟨h5, _⟩
    · exact h5
    · omega
  · exact absurd hl hnl⟩
def spCR : Sp := fun vs H Q _ => ∃ (l : Addr) (ts : List V) (ns ws : List Str) (ls : List Li), vs = [.ref l] ∧ Kept H l ts ns ls ∧ Drawn ns ws ls ∧ ∀ H', Ex H H' → Q .non H'
theorem ok_check_rings (T : Ptx w K mg) : FnOk P w K mg base CX0 6 T.f_check_rings T.d_check_rings ["lines"] spCR := by
  refine T.F_check_rings.ok sc_check_rings (fun vs H Q E h => ?_) (fun cdv A outer s H vs Q E hr h => ?_)
  · obtain ⟨l, ts, ns, ws, ls, rfl, _⟩ := h
    rfl
  · obtain ⟨l, ts, ns, ws, ls, rfl, hk, hD, k⟩ := h
    refine ⟨_, (pss_cons (ps_set (i := 1) sc_check_rings.nd rfl (Or.inl rfl) (pe_call (ok_silent_ways T) (hr.mono (by decide)) rfl T.m_silent_ways T.F_silent_ways.kp T.b_silent_ways .nil pass0 (pa_cons (pv 0) pa_nil)))
      (pss_one (ps_for PassesOwn.never rfl (En.pi_enumT (by rfl) T.z_enumerate (pa_cons (pv 0) pa_nil)) (pg_tup (by rfl) (pgs_cons (pg_name (i := 2) sc_check_rings.nd rfl (Or.inl rfl)) (pgs_cons (pg_tup (by rfl) (pgs_cons (pg_name (i := 3) sc_check_rings.nd rfl (Or.inl rfl)) (pgs_cons (pg_name (i := 4) sc_check_rings.nd rfl (Or.inl rfl)) pgs_nil))) pgs_nil)))
        (pss_one (ps_if (pt_cmpR op_in_seq (pv 3) (pe_call (ok_reached T) (hr.mono (by decide)) rfl T.m_reached T.F_reached.kp T.b_reached .nil pass0 (pa_cons (pv 1) (pa_cons (pe_dget2 (hu_of hr) (pv 1) (pv 3) (pe_lst pa_nil) ⟨rfl, rfl, rfl, rfl⟩) pa_nil))) (by rfl))
          (pss_one ps_never)
          pss_nil))))), ?_⟩
    have hS : start ["lines", "ways", "number", "name", "_"] [V.ref l] = [some (.ref l), none, none, none, none] := rfl
    rw [hS]
    have htl := hk.len
    walk_at "rd"
    refine ⟨l, ts, ns, ls, rfl, hk, fun d H1 ex1 hW => ?_⟩
    have hl1 := ex1 _ _ hk.at_
    walk_at "rd"
    refine i_forET ?_
    walk_at "rd"
    refine ⟨l, ts, rfl, SqT.of hl1, ?_⟩
    refine for_it walk_enumT (fun i σ H2 => ∃ u2 u3 u4 : Option V, σ = [some (.ref l), some (.ref d), u2, u3, u4] ∧ Ex H1 H2) ⟨_, _, _, rfl, Ex.refl _⟩ (fun i σ H3 _ ⟨_, _, _, _, e⟩ => SqT.of (e _ _ hl1)) ?_ ?_
    · rintro i v _ H2 H3 hi ⟨u2, u3, u4, rfl, ex2⟩ ⟨t, x, y, rfl, ht, rfl, hx, hy⟩
      cases hx
      have e3 : Ex H2 (upd H2 t (.tup [.int (i : Nat), y])) := Ex.new ht
      obtain ⟨t2, lx, li, rfl, ht2, hlx, hli, hin, hfm⟩ := (hk.mono (ex1.trans (ex2.trans e3))).get hy
      obtain ⟨kvs, hd3, hkl, hkv⟩ := hW.mono (ex2.trans e3)
      walk_at "rd"
      refine i_get2 ?_
      walk_at "rd"
      refine ⟨d, rfl, .inl ⟨kvs, .inl hd3⟩, ?_⟩
      walk_at "rd"
      refine ⟨Nat.zero_le _, fun el nel => ?_⟩
      have e4 : Ex (upd H2 t (.tup [.int (i : Nat), .ref t2])) (upd (upd H2 t (.tup [.int (i : Nat), .ref t2])) el (.lst [])) := Ex.new nel
      refine ⟨_, DGet.k (k := Sum.inr (wAt ns i)) (e4 _ _ hd3), ?_⟩
      have start : ∃ (b : Addr) (xs : List Str), (valV kvs (Sum.inr (wAt ns i))).getD (.ref el) = .ref b ∧ upd (upd H2 t (.tup [.int (i : Nat), .ref t2])) el (.lst []) b = some (.lst (xs.map V.str)) ∧ xs.length ≤ 10 ∧ ∀ x ∈ xs, x ∈ ns ∧ Sil ns ws i x := by
        rcases hkv (wAt ns i) with hv | ⟨j, lj, gl, hj, hlj, hjn, hjw, hnl, hfj, hv, hgl⟩
        · exact ⟨el, [], by rw [hv]; rfl, upd_same, Nat.zero_le _, fun _ h => (List.not_mem_nil h).elim⟩
        · obtain rfl := wAt_inj hD.nd hin hjn hjw
          refine ⟨gl, (liG lj).map fun o => wAt ns o, by rw [hv]; rfl, by rw [List.map_map]; exact e4 _ _ hgl, by rw [List.length_map]; exact Nat.le_trans (liG_len hfj) (by decide), fun x hx => ?_⟩
          obtain ⟨g, hg, rfl⟩ := List.mem_map.mp hx
          have ho := hD.ok i lj hlj
          rw [ho.wd] at hnl
          obtain ⟨h1, h2⟩ := ho.gl g hg
          rw [← hD.len] at h1
          exact ⟨wAt_mem h1, g, h1, rfl, hnl, h2 hnl⟩
      obtain ⟨b, xs, eb, hb, hxl, hxs⟩ := start
      rw [eb]
      walk_at "rd"
      refine ⟨d, b, ns, ls, _, Sil ns ws i, xs, rfl, hW.mono ((ex2.trans e3).trans e4), hD.clo i, hb, hxl, hxs, fun fl fs H5 ex5 hfl hfs => ?_⟩
      refine i_inS (.inl (SqL.of hfl)) ?_
      rw [decide_eq_false fun hm => ?_]
      · walk_at "rd"
        exact ⟨_, _, _, rfl, ((ex2.trans e3).trans e4).trans ex5⟩
      · obtain ⟨j, hj, e, hnl, hor⟩ := hfs _ hm
        obtain rfl := wAt_inj hD.nd hin hj e
        rcases hor with h | h
        · exact hnl h
        · omega
    · rintro _ H2 ⟨u2, u3, u4, rfl, ex2⟩
      walk_at "rd"
      exact k _ (ex1.trans ex2)
theorem nf_all : ∀ x ∈ (["cut", "skip", "refuse"] : List Str), ¬ Lk x ∧ x ∉ (["set", "upto"] : List Str) := by decide +kernel
theorem nf_lk {x : Str} (h : x ∈ (["cut", "skip", "refuse"] : List Str)) : ¬ Lk x := (nf_all x h).1
theorem Drawn.first {ns ws : List Str} {ls : List Li} (h : Drawn ns ws ls) : wAt ws 0 ∉ (["cut", "skip", "refuse"] : List Str) := fun hw => by
  rcases h.wds.beg with ⟨x, hx, hk⟩ | ⟨_, ⟨x, hx, hk⟩, _⟩
  · rw [wAt_some hx] at hw
    exact nf_lk hw hk
  · rw [wAt_some hx] at hw
    exact (nf_all x hw).2 hk
def spCB : Sp := fun vs H Q _ => ∃ (l : Addr) (ts : List V) (ns ws : List Str) (ls : List Li), vs = [.ref l] ∧ Kept H l ts ns ls ∧ Drawn ns ws ls ∧ ∀ H', Ex H H' → Q .non H'
theorem ok_check_begin (T : Ptx w K mg) : FnOk P w K mg base CX0 6 T.f_check_begin T.d_check_begin ["lines"] spCB := by
  refine T.F_check_begin.ok sc_check_begin (fun vs H Q E h => ?_) (fun cdv A outer s H vs Q E hr h => ?_)
  · obtain ⟨l, ts, ns, ws, ls, rfl, _⟩ := h
    rfl
  · obtain ⟨l, ts, ns, ws, ls, rfl, hk, hD, k⟩ := h
    refine ⟨_, (pss_cons (ps_set (i := 1) sc_check_begin.nd rfl (Or.inl rfl) (pe_call (ok_reached T) (hr.mono (by decide)) rfl T.m_reached T.F_reached.kp T.b_reached .nil pass0 (pa_cons (pe_call (ok_silent_ways T) (hr.mono (by decide)) rfl T.m_silent_ways T.F_silent_ways.kp T.b_silent_ways .nil pass0 (pa_cons (pv 0) pa_nil)) (pa_cons (pe_lst (pa_cons (pe_ix ix_tup (pe_ix ix_tup (pv 0) pe_int (fun _ _ => rfl)) pe_int (fun _ _ => rfl)) pa_nil)) pa_nil))))
      (pss_one (ps_for PassesOwn.never rfl (En.pi_enumT (by rfl) T.z_enumerate (pa_cons (pv 0) pa_nil)) (pg_tup (by rfl) (pgs_cons (pg_name (i := 2) sc_check_begin.nd rfl (Or.inl rfl)) (pgs_cons (pg_tup (by rfl) (pgs_cons (pg_name (i := 3) sc_check_begin.nd rfl (Or.inl rfl)) (pgs_cons (pg_name (i := 4) sc_check_begin.nd rfl (Or.inl rfl)) pgs_nil))) pgs_nil)))
        (pss_one (ps_if (PW.pt (pw_and (pt_cmpR op_in_seq (pe_ix ix_tup (pv 4) pe_int (fun _ _ => rfl)) (pe_glob (v := .ref T.a_NEVER_FIRST) rfl T.m_NEVER_FIRST rfl) (by rfl)) (pw_and1 (pt_cmpR op_in_seq (pv 3) (pv 1) (by rfl)))))
          (pss_one ps_never)
          pss_nil))))), ?_⟩
    have hS : start ["lines", "begun", "number", "name", "line"] [V.ref l] = [some (.ref l), none, none, none, none] := rfl
    rw [hS]
    have htl := hk.len
    walk_at "rd"
    refine ⟨l, ts, ns, ls, rfl, hk, fun d H1 ex1 hW => ?_⟩
    have hl1 := ex1 _ _ hk.at_
    have h0 : 0 < ts.length := by rw [htl]; exact hk.fms.pos
    obtain ⟨t0, y0, l0, e0, ht0, _, _, hn0, _⟩ := (hk.mono ex1).get (List.getElem?_eq_getElem h0)
    walk_at "rd"
    refine Rd.i_ixT (SqT.of hl1) (atI_nat (j := 0) (by rw [List.getElem?_eq_getElem h0, e0])) ?_
    walk_at "rd"
    refine ⟨by show 1 ≤ sizeLine; decide, fun p hp => ?_⟩
    have e2 : Ex H1 (upd H1 p (.lst [.str (wAt ns 0)])) := Ex.new hp
    walk_at "rd"
    refine ⟨d, p, ns, ls, _, Beg ns ws, [wAt ns 0], rfl, hW.mono e2, hD.cloB, upd_same, by show 1 ≤ 10; decide, fun x hx => ?_, fun fl fs H5 ex5 hfl hfs => ?_⟩
    · rw [List.mem_singleton.mp hx]
      exact ⟨wAt_mem hn0, 0, hn0, rfl, .inl rfl⟩
    have e15 := e2.trans ex5
    have hl5 := e15 _ _ hl1
    walk_at "rd"
    refine i_forET ?_
    walk_at "rd"
    refine ⟨l, ts, rfl, SqT.of hl5, ?_⟩
    refine for_it walk_enumT (fun i σ H2 => ∃ u2 u3 u4 : Option V, σ = [some (.ref l), some (.ref fl), u2, u3, u4] ∧ Ex H5 H2) ⟨_, _, _, rfl, Ex.refl _⟩ (fun i σ H3 _ ⟨_, _, _, _, e⟩ => SqT.of (e _ _ hl5)) ?_ ?_
    · rintro i v _ H2 H3 hi ⟨u2, u3, u4, rfl, ex2⟩ ⟨t, x, y, rfl, ht, rfl, hx, hy⟩
      cases hx
      have e3 : Ex H2 (upd H2 t (.tup [.int (i : Nat), y])) := Ex.new ht
      obtain ⟨t2, lx, li, rfl, ht2, hlx, hli, hin, hfm⟩ := (hk.mono (ex1.trans (e15.trans (ex2.trans e3)))).get hy
      obtain ⟨t3, xs3, rfl, ht3⟩ := hlx.word
      have hfl3 := e3 _ _ (ex2 _ _ hfl)
      walk_at "rd"
      refine Rd.i_ixT (SqT.of ht3) (atI_nat (j := 0) rfl) ?_
      walk_at "rd"
      refine i_inS (ns := ["cut", "skip", "refuse"]) (.inr (T.q_NEVER_FIRST _)) ?_
      walk_at "rd"
      refine Rd.ite_d (fun hw => ?_) (fun _ => ?_)
      · walk_at "rd"
        refine i_inS (.inl (SqL.of hfl3)) ?_
        rw [decide_eq_false fun hm => ?_]
        · walk_at "rd"
          exact ⟨_, _, _, rfl, ex2.trans e3⟩
        · obtain ⟨j, hj, e, hor⟩ := hfs _ hm
          obtain rfl := wAt_inj hD.nd hin hj e
          have ho := hD.ok i li hli
          rw [ho.wd] at hw
          rcases hor with rfl | h
          · exact hD.first hw
          · exact nf_lk hw h
      · walk_at "rd"
        exact ⟨_, _, _, rfl, ex2.trans e3⟩
    · rintro _ H2 ⟨u2, u3, u4, rfl, ex2⟩
      walk_at "rd"
      exact k _ (ex1.trans (e15.trans ex2))
end
end K02

namespace K02
open PySem L2
local macro_rules | `(tactic| walk_at "rd1") => `(tactic| first
  | (with_reducible refine Rd.i_seq ?_) | (with_reducible refine Rd.i_asg ?_) | (with_reducible refine Rd.i_name ?_) | (with_reducible refine Rd.i_nx ?_) | (with_reducible refine Rd.i_rt ?_) | (with_reducible refine Rd.i_next ?_) | (with_reducible refine Rd.i_ct ?_) | (with_reducible refine Rd.i_bk ?_)
  | (with_reducible refine Rd.i_ret ?_) | (with_reducible refine Rd.i_drop ?_) | (with_reducible refine Rd.i_ifS ?_) | (with_reducible refine Rd.i_sub ?_)
  | (with_reducible refine Rd.i_var (by with_unfolding_all exact rfl) ?_) | (with_reducible refine Rd.i_c ?_) | (with_reducible refine Rd.i_op ?_) | (with_reducible refine Rd.i_un ?_)
  | (with_reducible refine Rd.i_rI0 ?_) | (with_reducible refine Rd.i_rI (by with_unfolding_all first | omega | exact Rd.mulL (by omega) (by omega) | exact Rd.mulR (by omega) (by omega) | decide | (refine ⟨?_, ?_⟩ <;> omega) | (refine ⟨?_, ?_, ?_⟩ <;> omega)) ?_)
  | (with_reducible refine Rd.i_rEq (by with_unfolding_all exact rfl) ?_) | (with_reducible refine Rd.i_rNe (by with_unfolding_all exact rfl) ?_)
  | (with_reducible refine Rd.i_test ?_) | (with_reducible refine Rd.i_tB ?_) | (with_reducible refine Rd.i_bl ?_) | (with_reducible refine Rd.i_and ?_) | (with_reducible refine Rd.i_or ?_) | (with_reducible refine Rd.i_not ?_) | (with_reducible refine Rd.i_notV ?_) | (with_reducible refine Rd.i_andV ?_) | (with_reducible refine Rd.i_orV ?_) | (with_reducible refine Rd.i_if ?_) | (with_reducible refine Rd.i_chain ?_)
  | (with_reducible refine Rd.i_call ?_) | (with_reducible refine Rd.i_nil ?_) | (with_reducible refine Rd.i_cons ?_) | (with_reducible refine Rd.i_cb ?_) | (with_reducible refine Rd.i_bm ?_) | (with_reducible refine Rd.i_bm0 ?_) | (with_reducible refine Rd.i_tup ?_) | (with_reducible refine Rd.i_lst ?_)
  | (with_reducible refine Rd.i_int1 ?_) | (with_reducible refine Rd.i_intb ?_) | (with_reducible refine Rd.i_max ?_)
  | (with_reducible refine Rd.i_ixL (SqL.of (by first | assumption | exact upd_same)) (by with_unfolding_all first | exact rfl | exact atI_nat rfl) ?_) | (with_reducible refine Rd.i_ixT (SqT.of (by first | assumption | exact upd_same)) (by with_unfolding_all exact rfl) ?_)
  | (with_reducible refine Rd.i_setL (by first | assumption | exact upd_same) (by with_unfolding_all exact rfl) ?_)
  | (with_reducible refine Xv.i_mkV ?_) | (with_reducible refine Xv.i_xat ?_)
  | (with_reducible refine Rd.i_yes ?_) | (with_reducible refine Rd.i_m1 ?_) | (with_reducible refine Rd.i_m0 ?_) | (with_reducible refine Rd.ite_T ?_) | (with_reducible refine Rd.ite_F ?_) | (with_reducible refine Rd.i_forR ?_) | (with_reducible refine Rd.i_forL ?_) | (with_reducible refine Rd.i_forT ?_)
  | (with_reducible refine Hd.i_rU ?_) | (with_reducible refine Hd.i_pcons ?_) | (with_reducible refine Hd.i_pnil ?_) | (with_reducible refine Hd.i_disp ?_) | (with_reducible refine Hd.i_dget ?_)
  | (with_reducible refine Hd.i_lstRg ?_) | (with_reducible refine Hd.i_rg1 ?_) | (with_reducible refine Hd.i_rg2 ?_) | (with_reducible refine Hd.i_ex1 ?_) | (with_reducible refine Hd.i_ex2 ?_)
  | (with_reducible refine Rd.i_gtup (SqT.of (by first | assumption | exact upd_same)) (by with_unfolding_all exact rfl) ?_) | (with_reducible refine Rd.i_gcons ?_) | (with_reducible refine Rd.i_gnil ?_)
  | (with_reducible refine Rd.i_lenT (SqT.of (by first | assumption | exact upd_same)) ?_) | (with_reducible refine Rd.i_len (SqL.of (by first | assumption | exact upd_same)) ?_)
  | (with_reducible refine Nr.ite_eF (by first | decide +kernel | with_unfolding_all exact rfl) ?_) | (with_reducible refine Nr.ite_eT (by first | decide +kernel | with_unfolding_all exact rfl) ?_)
  | (with_reducible refine Nr.i_tyL (by first | assumption | exact upd_same) ?_)
  | (with_reducible refine Nr.i_tupT (SqT.of (by first | assumption | exact upd_same)) ?_)
  | (with_reducible refine Nr.i_sl ?_) | (with_reducible refine Nr.i_part ?_) | (with_reducible refine Nr.i_nop ?_) | (with_reducible refine Nr.i_star ?_)
  | fail "stop")
local macro_rules | `(tactic| walk_at "rd") => `(tactic| repeat walk_at "rd1")
section
variable {P : Program} {w : World} {K : PySem.W.Frag} {mg : Str → Option Value} {base : Heap}
open Evl Hd
theorem i_fld {σ : L2.St} {H : Hp} {Q : VK} {ta : TE} {f : Str} (q : ta σ H fun x H1 => ∃ a C dx fs v, x = .ref a ∧ H1 a = some (.ins C dx fs) ∧ Cls K C ∧ NoAttr K C f ∧ fs.lookup f = some v ∧ Q v H1) : tFld K ta f σ H Q := q
theorem i_sfld {σ : L2.St} {H : Hp} {D : Ends} {ta tv : TE} {f : Str} (q : tv σ H fun y H1 => ta σ H1 fun x H2 => ∃ a C dx fs, x = .ref a ∧ H2 a = some (.ins C dx fs) ∧ Cls K C ∧ NoAttr K C f ∧ fs.length < 1000 ∧ D.nx σ (upd H2 a (.ins C dx (putF f y fs)))) : sFld K ta tv f D σ H := q
theorem i_meth {σ : L2.St} {H : Hp} {Q : VK} {C : Addr} {m : Str} {sp : Sp} {dvs : List V} {E : XK} {ta : TE} {t : TA} (q : ta σ H fun x H1 => ∃ a dx fs, x = .ref a ∧ H1 a = some (.ins C dx fs) ∧ fs.lookup m = none ∧ t σ H1 fun vs H2 => sp (x :: (vs ++ dvs)) H2 Q E) : tMeth C m sp dvs E ta t σ H Q := q
theorem LtAt.mutL {H : Hp} {ns : List Str} {v : V} {D : Addr} {o : HO} (h : ∀ xs, H D ≠ some (.tup xs)) : ∀ {li : Li}, LtAt H ns v li → LtAt (upd H D o) ns v li := by
  have tp : ∀ {t xs}, H t = some (.tup xs) → upd H D o t = some (.tup xs) := fun {t xs} e => by
    rw [upd_ne fun (z : t = D) => h xs (by rw [← z]; exact e)]
    exact e
  intro li
  cases li with
  | case wy q => exact fun ⟨t, l, ts, h1, h2, h3, h4⟩ => ⟨t, l, ts, h1, tp h2, tp h3, paired_mono (fun _ _ ⟨a, b, c⟩ => ⟨a, b, tp c⟩) h4⟩
  | take q => exact fun ⟨t, h1, h2⟩ => ⟨t, h1, tp h2⟩
  | num w c q => exact fun ⟨t, h1, h2⟩ => ⟨t, h1, tp h2⟩
  | upto c a b => exact fun ⟨t, h1, h2⟩ => ⟨t, h1, tp h2⟩
  | fin w => exact fun ⟨t, h1, h2⟩ => ⟨t, h1, tp h2⟩
theorem prT_any {H : Hp} {ns : List Str} {v : V} {y : Nat × Li} {D : Addr} {o : HO} (h : PrT H ns v y) (hD : ∀ xs, H D ≠ some (.tup xs)) : PrT (upd H D o) ns v y := by
  obtain ⟨t, x, h1, h2, h3⟩ := h
  refine ⟨t, x, h1, ?_, h3.mutL hD⟩
  rw [upd_ne fun (z : t = D) => hD _ (by rw [← z]; exact h2)]
  exact h2
theorem prT_mut {H : Hp} {ns : List Str} {v : V} {y : Nat × Li} {D : Addr} {o : HO} {us : List V} (h : PrT H ns v y) (hD : H D = some (.lst us)) : PrT (upd H D o) ns v y := prT_any h fun xs e => by
  rw [hD] at e
  cases e
theorem prT_mutI {H : Hp} {ns : List Str} {v : V} {y : Nat × Li} {D C dx : Addr} {fs : List (Str × V)} {o : HO} (h : PrT H ns v y) (hD : H D = some (.ins C dx fs)) : PrT (upd H D o) ns v y := prT_any h fun xs e => by
  rw [hD] at e
  cases e
/-- a reader as it stands: its lines in a tuple -/
def Rdr (C : Addr) (H : Hp) (a tp : Addr) : Prop := ∃ dx, H a = some (.ins C dx [("lines", .ref tp)])
theorem Rdr.mono {C : Addr} {H H' : Hp} {a tp : Addr} (e : Ex H H') (h : Rdr C H a tp) : Rdr C H' a tp := ⟨h.choose, e _ _ h.choose_spec⟩
theorem at_lines (T : Ptx w K mg) {H : Hp} {a tp : Addr} (h : Rdr T.c_Reader H a tp) {R : V → Prop} (q : R (.ref tp)) : ∃ a' C dx fs v, V.ref a = .ref a' ∧ H a' = some (.ins C dx fs) ∧ Cls K C ∧ NoAttr K C "lines" ∧ fs.lookup ("lines" : Str) = some v ∧ R v := by
  obtain ⟨dx, h⟩ := h
  exact ⟨a, _, dx, _, _, rfl, h, T.cl_Reader, T.n_lines, rfl, q⟩
def spInit (K : PySem.W.Frag) (C : Addr) : Sp := fun vs H Q _ => ∃ (a dx l : Addr) (ts : List V) (ns ws : List Str) (ls : List Li), vs = [.ref a, .ref l] ∧ H a = some (.ins C dx []) ∧ H l = some (.lst ts) ∧ Paired (PrN K H ns) ts (numbered ls) ∧ Drawn ns ws ls ∧
  ∀ (tp : Addr) (ts' : List V) H', Ex (hid [a] H) (hid [a] H') → Rdr C H' a tp → Kept H' tp ts' ns ls → Q .non H'
theorem ok_Reader___init (T : Ptx w K mg) : FnOk P w K mg base CX0 8 T.f_Reader___init T.d_Reader___init ["self", "lines"] (spInit K T.c_Reader) := by
  refine T.F_Reader___init.ok sc_Reader___init (fun vs H Q E h => ?_) (fun cdv A outer s H vs Q E hr h => ?_)
  · obtain ⟨a, dx, l, ts, ns, ws, ls, rfl, _⟩ := h
    rfl
  · obtain ⟨a, dx, l, ts, ns, ws, ls, rfl, ha, hl, hts, hD, k⟩ := h
    refine ⟨_, (pss_cons (ps_if (pt_cmpR op_gt (pe_callB call_len_seq (by rfl) T.z_len (by decide +kernel) (pa_cons (pv 1) pa_nil)) (pe_glob (v := .int 8) rfl T.m_MOST_LINES ⟨_, rfl⟩) (nomark _))
        (pss_one ps_never)
        pss_nil)
      (pss_cons (ps_if (pt_cmpR op_eq (pe_callB call_len_seq (by rfl) T.z_len (by decide +kernel) (pa_cons (pv 1) pa_nil)) pe_int (nomark _))
        (pss_one ps_never)
        pss_nil)
      (pss_cons (ps_expr (pe_call (ok_check_forms T) (hr.mono (by decide)) rfl T.m_check_forms T.F_check_forms.kp T.b_check_forms .nil pass0 (pa_cons (pv 1) pa_nil)))
      (pss_cons (ps_fld (pv 0) (pe_callTy Nr.call_tupR (by rfl) T.z_tuple (by decide +kernel) (pa_cons (pe_lc (g := gTup K 2 (gCons (gName 2) (gCons (gName 3) gNil))) (te := tTup (tCons (tVar 2) (tCons (tCall (spFrozen K) [] E0 (tCons (tVar 3) tNil)) tNil))) rfl sc_Reader___init.nd (pi_list (pv 1)) (blkOk_by (own := [("name", 2), ("line", 3)]) (N := ["self", "lines", "name", "line"]) (sc := defScope s_Reader___init) (by decide +kernel)) (fun _ _ _ _ _ => (pg_tup (by rfl) (pgs_cons (pg_name (i := 2) sc_Reader___init.nd rfl (Or.inl rfl)) (pgs_cons (pg_name (i := 3) sc_Reader___init.nd rfl (Or.inl rfl)) pgs_nil)))) (fun _ _ _ _ _ => pts_nil) (fun _ _ _ _ _ => (pe_tup (pa_cons (pv 2) (pa_cons (pe_call (ok_frozen T) (hr.mono (by decide)) rfl T.m_frozen T.F_frozen.kp T.b_frozen .nil pass0 (pa_cons (pv 3) pa_nil)) pa_nil))))) pa_nil)) rfl)
      (pss_cons (ps_expr (pe_call (ok_check_goals T) (hr.mono (by decide)) rfl T.m_check_goals T.F_check_goals.kp T.b_check_goals .nil pass0 (pa_cons (pe_fld (pv 0) rfl) pa_nil)))
      (pss_cons (ps_expr (pe_call (ok_check_rings T) (hr.mono (by decide)) rfl T.m_check_rings T.F_check_rings.kp T.b_check_rings .nil pass0 (pa_cons (pe_fld (pv 0) rfl) pa_nil)))
      (pss_one (ps_expr (pe_call (ok_check_begin T) (hr.mono (by decide)) rfl T.m_check_begin T.F_check_begin.kp T.b_check_begin .nil pass0 (pa_cons (pe_fld (pv 0) rfl) pa_nil)))))))))), ?_⟩
    have hS : start ["self", "lines", "name", "line"] [V.ref a, .ref l] = [some (.ref a), some (.ref l), none, none] := rfl
    rw [hS]
    have htl : ts.length = ls.length := by rw [paired_len hts, num_len]
    have hF := hD.fms
    walk_at "rd"
    have hm := hF.most
    have hp := hF.pos
    refine Rd.ite_d (fun h => absurd h (by omega)) (fun _ => ?_)
    walk_at "rd"
    refine Rd.ite_d (fun h => absurd (V.int.inj h) (by omega)) (fun _ => ?_)
    walk_at "rd"
    refine ⟨l, ts, ns, ls, rfl, hl, hts, hF, fun H1 ex1 => ?_⟩
    have hl1 := ex1 _ _ hl
    walk_at "rd"
    refine i_sfld ?_
    walk_at "rd"
    refine Rd.i_lcL ?_
    walk_at "rd"
    refine Rd.lcL (xs := ts) (SqL.of hl1) (fun D hD0 => ⟨fun i H2 => ∃ us : List V, H2 D = some (.lst us) ∧ us.length = i ∧ Paired (PrT H2 ns) us ((numbered ls).take i) ∧ Ex H1 H2, ⟨[], upd_same, rfl, .nil, Ex.new hD0⟩, fun i H2 _ ⟨_, _, _, _, e⟩ => SqL.of (e _ _ hl1), ?_, ?_⟩)
    · rintro i x H2 hx ⟨us, hDl, hul, hus, ex2⟩
      obtain ⟨⟨j, li⟩, hj, t2, lx, rfl, ht2, hlx⟩ := paired_get hts hx
      obtain ⟨rfl, hj2⟩ := num_get hj
      have ht3 := ex2 _ _ (ex1 _ _ ht2)
      have hjl := (List.getElem?_eq_some_iff.mp hx).1
      walk_at "rd"
      refine ⟨rfl, ?_⟩
      walk_at "rd"
      refine ⟨lx, ns, li, rfl, hlx.mono (ex1.trans ex2), hF.fm _ (List.mem_of_getElem? hj2), fun v' H3 ex3 hv' => ?_⟩
      walk_at "rd"
      refine ⟨by show 2 ≤ sizeLine; decide, fun p hp => ?_⟩
      have hD3 := ex3 _ _ hDl
      have e4 : Ex H3 (upd H3 p (.tup [.str (wAt ns j), v'])) := Ex.new hp
      have pD : p ≠ D := fun e => by rw [e, hD3] at hp; cases hp
      have keepT : ∀ {v : V} {y : Nat × Li}, PrT H3 ns v y → PrT (upd (upd H3 p (.tup [.str (wAt ns j), v'])) D (.lst (us ++ [.ref p]))) ns v y := fun h => prT_mut (h.mono' e4) (e4 _ _ hD3)
      refine ⟨us, e4 _ _ hD3, small1000 (by omega), us ++ [.ref p], upd_same, by rw [List.length_append, hul]; rfl, ?_, ex_mut ((ex2.trans ex3).trans e4) hD0⟩
      rw [List.take_succ, hj]
      refine paired_app (paired_mono (fun v y h => keepT (h.mono' ex3)) hus) (.cons (prT_mut ⟨p, v', rfl, upd_same, hv'.mono e4⟩ (e4 _ _ hD3)) .nil)
    · rintro H2 ⟨us, hDl, hul, hus, ex2⟩
      have e12 := ex1.trans ex2
      walk_at "rd"
      refine Nr.i_tupL (SqL.of hDl) (fun tp htp => ?_)
      have e3 : Ex H2 (upd H2 tp (.tup us)) := Ex.new htp
      have ha3 := e3 _ _ (e12 _ _ ha)
      walk_at "rd"
      have hata : tp ≠ a := fun e => by rw [e, upd_same] at ha3; cases ha3
      rw [htl, ← num_len ls, List.take_length] at hus
      have hK : Kept (upd (upd H2 tp (.tup us)) a (.ins T.c_Reader dx [("lines", .ref tp)])) tp us ns ls := ⟨by rw [upd_ne hata]; exact upd_same, paired_mono (fun v y h => prT_mutI (h.mono' e3) ha3) hus, hF⟩
      refine ⟨a, T.c_Reader, dx, [], rfl, ha3, T.cl_Reader, T.n_lines, by decide, ?_⟩
      have hA : upd (upd H2 tp (.tup us)) a (.ins T.c_Reader dx (putF "lines" (.ref tp) [])) a = some (.ins T.c_Reader dx [("lines", .ref tp)]) := upd_same
      have exA : Ex (hid [a] H) (hid [a] (upd (upd H2 tp (.tup us)) a (.ins T.c_Reader dx (putF "lines" (.ref tp) [])))) := by
        rw [hid_upd List.mem_cons_self]
        exact hid_ex (e12.trans e3)
      have hK' : Kept (upd (upd H2 tp (.tup us)) a (.ins T.c_Reader dx (putF "lines" (.ref tp) []))) tp us ns ls := hK
      generalize upd (upd H2 tp (.tup us)) a (.ins T.c_Reader dx (putF "lines" (.ref tp) [])) = H5 at hA exA hK'
      have hR : Rdr T.c_Reader H5 a tp := ⟨dx, hA⟩
      walk_at "rd"
      refine i_fld ?_
      walk_at "rd"
      refine at_lines T hR ?_
      walk_at "rd"
      refine ⟨tp, us, ns, ls, rfl, hK', hD.rng, fun H6 ex6 => ?_⟩
      walk_at "rd"
      refine i_fld ?_
      walk_at "rd"
      refine at_lines T (hR.mono ex6) ?_
      walk_at "rd"
      refine ⟨tp, us, ns, ws, ls, rfl, hK'.mono ex6, hD, fun H7 ex7 => ?_⟩
      have ex57 := ex6.trans ex7
      walk_at "rd"
      refine i_fld ?_
      walk_at "rd"
      refine at_lines T (hR.mono ex57) ?_
      walk_at "rd"
      refine ⟨tp, us, ns, ws, ls, rfl, hK'.mono ex57, hD, fun H8 ex8 => ?_⟩
      have ex58 := ex57.trans ex8
      walk_at "rd"
      exact k tp us H8 (exA.trans (hid_ex ex58)) ⟨dx, ex58 _ _ hA⟩ (hK'.mono ex58)
end
end K02

namespace K02
open PySem L2
local macro_rules | `(tactic| walk_at "rd1") => `(tactic| first
  | (with_reducible refine Rd.i_seq ?_) | (with_reducible refine Rd.i_asg ?_) | (with_reducible refine Rd.i_name ?_) | (with_reducible refine Rd.i_nx ?_) | (with_reducible refine Rd.i_rt ?_) | (with_reducible refine Rd.i_next ?_) | (with_reducible refine Rd.i_ct ?_) | (with_reducible refine Rd.i_bk ?_)
  | (with_reducible refine Rd.i_ret ?_) | (with_reducible refine Rd.i_drop ?_) | (with_reducible refine Rd.i_ifS ?_) | (with_reducible refine Rd.i_sub ?_)
  | (with_reducible refine Rd.i_var (by with_unfolding_all exact rfl) ?_) | (with_reducible refine Rd.i_c ?_) | (with_reducible refine Rd.i_op ?_) | (with_reducible refine Rd.i_un ?_)
  | (with_reducible refine Rd.i_rI0 ?_) | (with_reducible refine Rd.i_rI (by with_unfolding_all first | omega | exact Rd.mulL (by omega) (by omega) | exact Rd.mulR (by omega) (by omega) | decide | (refine ⟨?_, ?_⟩ <;> omega) | (refine ⟨?_, ?_, ?_⟩ <;> omega)) ?_)
  | (with_reducible refine Rd.i_rEq (by with_unfolding_all exact rfl) ?_) | (with_reducible refine Rd.i_rNe (by with_unfolding_all exact rfl) ?_)
  | (with_reducible refine Rd.i_test ?_) | (with_reducible refine Rd.i_tB ?_) | (with_reducible refine Rd.i_bl ?_) | (with_reducible refine Rd.i_and ?_) | (with_reducible refine Rd.i_or ?_) | (with_reducible refine Rd.i_not ?_) | (with_reducible refine Rd.i_notV ?_) | (with_reducible refine Rd.i_andV ?_) | (with_reducible refine Rd.i_orV ?_) | (with_reducible refine Rd.i_if ?_) | (with_reducible refine Rd.i_chain ?_)
  | (with_reducible refine Rd.i_call ?_) | (with_reducible refine Rd.i_nil ?_) | (with_reducible refine Rd.i_cons ?_) | (with_reducible refine Rd.i_cb ?_) | (with_reducible refine Rd.i_bm ?_) | (with_reducible refine Rd.i_bm0 ?_) | (with_reducible refine Rd.i_tup ?_) | (with_reducible refine Rd.i_lst ?_)
  | (with_reducible refine Rd.i_int1 ?_) | (with_reducible refine Rd.i_intb ?_) | (with_reducible refine Rd.i_max ?_)
  | (with_reducible refine Rd.i_ixL (SqL.of (by first | assumption | exact upd_same)) (by with_unfolding_all first | exact rfl | exact atI_nat rfl) ?_) | (with_reducible refine Rd.i_ixT (SqT.of (by first | assumption | exact upd_same)) (by with_unfolding_all exact rfl) ?_)
  | (with_reducible refine Rd.i_setL (by first | assumption | exact upd_same) (by with_unfolding_all exact rfl) ?_)
  | (with_reducible refine Xv.i_mkV ?_) | (with_reducible refine Xv.i_xat ?_)
  | (with_reducible refine Rd.i_yes ?_) | (with_reducible refine Rd.i_m1 ?_) | (with_reducible refine Rd.i_m0 ?_) | (with_reducible refine Rd.ite_T ?_) | (with_reducible refine Rd.ite_F ?_) | (with_reducible refine Rd.i_forR ?_) | (with_reducible refine Rd.i_forL ?_) | (with_reducible refine Rd.i_forT ?_)
  | (with_reducible refine Hd.i_rU ?_) | (with_reducible refine Hd.i_pcons ?_) | (with_reducible refine Hd.i_pnil ?_) | (with_reducible refine Hd.i_disp ?_) | (with_reducible refine Hd.i_dget ?_)
  | (with_reducible refine Hd.i_lstRg ?_) | (with_reducible refine Hd.i_rg1 ?_) | (with_reducible refine Hd.i_rg2 ?_) | (with_reducible refine Hd.i_ex1 ?_) | (with_reducible refine Hd.i_ex2 ?_)
  | (with_reducible refine Rd.i_gtup (SqT.of (by first | assumption | exact upd_same)) (by with_unfolding_all exact rfl) ?_) | (with_reducible refine Rd.i_gcons ?_) | (with_reducible refine Rd.i_gnil ?_)
  | (with_reducible refine Rd.i_lenT (SqT.of (by first | assumption | exact upd_same)) ?_) | (with_reducible refine Rd.i_len (SqL.of (by first | assumption | exact upd_same)) ?_)
  | (with_reducible refine Nr.ite_eF (by first | decide +kernel | with_unfolding_all exact rfl) ?_) | (with_reducible refine Nr.ite_eT (by first | decide +kernel | with_unfolding_all exact rfl) ?_)
  | (with_reducible refine Nr.i_tyL (by first | assumption | exact upd_same) ?_)
  | (with_reducible refine Nr.i_tupT (SqT.of (by first | assumption | exact upd_same)) ?_)
  | (with_reducible refine Nr.i_sl ?_) | (with_reducible refine Nr.i_part ?_) | (with_reducible refine Nr.i_nop ?_) | (with_reducible refine Nr.i_star ?_)
  | fail "stop")
local macro_rules | `(tactic| walk_at "rd") => `(tactic| repeat walk_at "rd1")
section
variable {P : Program} {w : World} {K : PySem.W.Frag} {mg : Str → Option Value} {base : Heap}
open Evl Hd
theorem ok_NoLine___init (T : Ptx w K mg) : FnOk P w K mg base CX0 1 T.i_NoLine T.d_NoLine ["self", "name"] (Xv.spInitX T.c_NoLine "name") := by
  refine T.F_NoLine.ok sc_NoLine___init (fun vs H Q E h => ?_) (fun cdv A outer s H vs Q E hr h => ?_)
  · obtain ⟨a, v, rfl, _⟩ := h
    rfl
  · obtain ⟨a, v, rfl, ha, k⟩ := h
    refine ⟨_, pss_one (ps_ost (pv 0) (pv 1)), ?_⟩
    exact ⟨v, rfl, .ref a, rfl, a, T.c_NoLine, rfl, T.x_NoLine.oex, T.x_NoLine.no, .inl ⟨ha, k⟩⟩
theorem ps_nox {X : Cx} {st : Stmt} {t : TS} (h : PS X.nox st t) : PS X st t := ⟨fun pins s σ H D I hw => wpAny_mono (h.run pins s σ H D (I.wish _) hw) (fun _ _ q => q.unwish) fun _ _ (z : False) => z.elim⟩
theorem passE {X : Cx} {E : XK} (tk : Takes X (fun c d _ H => E c d H)) : Passes (L2.CX X.prog X.w) X E := fun _ σ _ _ e s' I c => passAt tk σ _ _ _ e s' I c
theorem i_mkO {C : Addr} {sp : Sp} {dvs : List V} {ta : TA} {σ : L2.St} {H : Hp} {Q : XK} (q : ta σ H fun vs H1 => vs.length ≤ 1000 ∧ ∀ a, H1 a = none → sp (.ref a :: (vs ++ dvs)) (upd H1 a (exo a C none))
  (fun v H2 => v = .non ∧ ∃ (d : Addr) (fs : List (Str × V)), H2 a = some (exo a C (some d)) ∧ H2 d = some (exd d fs) ∧ H1 d = none ∧ Q (.ref C) (some d) (upd (del H2 a) d (.xd fs))) (fun _ _ _ => False)) : tMkO C sp dvs ta σ H Q := q
/-- the error of a name that no line has: its class, its field -/
def NoL (C : Addr) (x : Str) (H : Hp) (E : XK) : Prop := ∀ (d : Addr) H', Ex H H' → H' d = some (.xd [("name", .str x)]) → E (.ref C) (some d) H'
def spNames2 (C : Addr) : Sp := fun vs H Q _ => ∃ (a tp : Addr) (ts : List V) (ns : List Str) (ls : List Li), vs = [.ref a] ∧ Rdr C H a tp ∧ Kept H tp ts ns ls ∧ ∀ l H', Ex H H' → H l = none → H' l = some (.lst (ns.map V.str)) → Q (.ref l) H'
theorem ok_Reader_names (T : Ptx w K mg) : FnOk P w K mg base CX0 1 T.f_Reader_names T.d_Reader_names ["self"] (spNames2 T.c_Reader) := by
  refine T.F_Reader_names.ok sc_Reader_names (fun vs H Q E h => ?_) (fun cdv A outer s H vs Q E hr h => ?_)
  · obtain ⟨a, tp, ts, ns, ls, rfl, _⟩ := h
    rfl
  · obtain ⟨a, tp, ts, ns, ls, rfl, hR, hk, k⟩ := h
    refine ⟨_, (pss_one (ps_ret (pe_lc (g := gTup K 2 (gCons (gName 1) (gCons (gName 2) gNil))) rfl sc_Reader_names.nd (pi_tup (pe_fld (pv 0) rfl)) (blkOk_by (own := [("name", 1), ("_", 2)]) (N := ["self", "name", "_"]) (sc := defScope s_Reader_names) (by decide +kernel)) (fun _ _ _ _ _ => (pg_tup (by rfl) (pgs_cons (pg_name (i := 1) sc_Reader_names.nd rfl (Or.inl rfl)) (pgs_cons (pg_name (i := 2) sc_Reader_names.nd rfl (Or.inl rfl)) pgs_nil)))) (fun _ _ _ _ _ => pts_nil) (fun _ _ _ _ _ => (pv 1))))), ?_⟩
    have hS : start ["self", "name", "_"] [V.ref a] = [some (.ref a), none, none] := rfl
    rw [hS]
    have htl := hk.len
    have hl := hk.at_
    walk_at "rd"
    refine Rd.i_lcT ?_
    refine i_fld ?_
    walk_at "rd"
    refine at_lines T hR ?_
    refine Rd.lcT (xs := ts) (SqT.of hl) (fun D hD => ⟨fun i H2 => H2 D = some (.lst ((ns.take i).map V.str)) ∧ Ex H H2, ⟨upd_same, Ex.new hD⟩, fun i H2 _ h => SqT.of (h.2 _ _ hl), ?_, ?_⟩)
    · rintro i x H2 hx ⟨hDl, ex2⟩
      obtain ⟨t, y, li, rfl, ht, hy, hli, hin, hfm⟩ := (hk.mono ex2).get hx
      walk_at "rd"
      refine ⟨rfl, ?_⟩
      walk_at "rd"
      refine ⟨_, hDl, small1000 (by rw [List.length_map, List.length_take]; have := hk.fms.most; have := hk.fms.len; omega), ?_, ex_mut ex2 hD⟩
      rw [upd_same, wAt_take hin, List.map_append]
      rfl
    · rintro H2 ⟨hDl, ex2⟩
      rw [take_all (by rw [htl, hk.fms.len])] at hDl
      exact k D H2 ex2 hD hDl
def spLineOf (C CN : Addr) : Sp := fun vs H Q E => ∃ (a tp : Addr) (ts : List V) (ns : List Str) (ls : List Li) (x : Str), vs = [.ref a, .str x] ∧ Rdr C H a tp ∧ Kept H tp ts ns ls ∧
  (∀ i li v H', ls[i]? = some li → i < ns.length → x = wAt ns i → LtAt H' ns v li → Ex H H' → Q v H') ∧ (x ∉ ns → NoL CN x H E)
theorem ok_Reader_line_of (T : Ptx w K mg) : FnOk P w K mg base (L2.CX P w) 3 T.f_Reader_line_of T.d_Reader_line_of ["self", "name"] (spLineOf T.c_Reader T.c_NoLine) := by
  refine T.F_Reader_line_of.okX sc_Reader_line_of (fun vs H Q E h => ?_) (fun cdv A outer s H vs Q E hr h => ?_)
  · obtain ⟨a, tp, ts, ns, ls, x, rfl, _⟩ := h
    rfl
  · obtain ⟨a, tp, ts, ns, ls, x, rfl, hR, hk, k, kE⟩ := h
    refine ⟨_, (pss_cons (ps_nox (ps_for PassesOwn.never rfl (pi_tup (pe_fld (pv 0) rfl)) (pg_tup (by rfl) (pgs_cons (pg_name (i := 2) sc_Reader_line_of.nd rfl (Or.inl rfl)) (pgs_cons (pg_name (i := 3) sc_Reader_line_of.nd rfl (Or.inl rfl)) pgs_nil)))
        (pss_one (ps_if (pt_cmpR op_eq (pv 2) (pv 1) (nomark _))
          (pss_one (ps_ret (pv 3)))
          pss_nil))))
      (pss_one (ps_raise rfl (takes_of rfl rfl rfl rfl) (pmk_oex T.x_NoLine.oex T.x_NoLine.iC T.x_NoLine.tI (ok_NoLine___init T) (hr.mono (by decide)) T.b_NoLine .nil pass0 rfl T.m_NoLine (pa_cons (pv 1) pa_nil))))), ?_⟩
    have hS : start ["self", "name", "own", "line"] [V.ref a, .str x] = [some (.ref a), some (.str x), none, none] := rfl
    rw [hS]
    have htl := hk.len
    have hl := hk.at_
    walk_at "rd"
    refine i_fld ?_
    walk_at "rd"
    refine at_lines T hR ?_
    refine Rd.forT (xs := ts) (SqT.of hl) (fun i σ H2 => ∃ u2 u3 : Option V, σ = [some (.ref a), some (.str x), u2, u3] ∧ x ∉ ns.take i ∧ Ex H H2) ⟨_, _, rfl, List.not_mem_nil, Ex.refl _⟩ (fun i σ H2 _ ⟨_, _, _, _, e⟩ => SqT.of (e _ _ hl)) ?_ ?_
    · rintro i v _ H2 hx ⟨u2, u3, rfl, hnot, ex2⟩
      obtain ⟨t, y, li, rfl, ht, hy, hli, hin, hfm⟩ := (hk.mono ex2).get hx
      walk_at "rd"
      refine Rd.ite_d (fun e => ?_) (fun e => ?_)
      · walk_at "rd"
        exact k i li y H2 hli hin (V.str.inj e).symm hy ex2
      · walk_at "rd"
        refine ⟨_, _, rfl, fun hm => ?_, ex2⟩
        rw [wAt_take hin] at hm
        rcases List.mem_append.mp hm with h | h
        · exact hnot h
        · exact e (by rw [List.mem_singleton.mp h])
    · rintro _ H2 ⟨u2, u3, rfl, hnot, ex2⟩
      rw [take_all (by rw [htl, hk.fms.len])] at hnot
      refine Rd.i_nx (i_mkO ?_)
      walk_at "rd"
      refine ⟨by show 1 ≤ 1000; decide, fun e he => ⟨e, .str x, rfl, upd_same, fun d hd hde => ⟨rfl, d, _, upd_same, by rw [upd_ne hde]; exact upd_same, ?_, kE hnot d _ (fun b o hb => ?_) upd_same⟩⟩⟩
      · rw [upd_ne hde] at hd
        exact hd
      · have b1 := ex2 _ _ hb
        have be : b ≠ e := ne_of_none b1 he
        have bd : b ≠ d := fun z => by
          rw [upd_ne hde] at hd
          rw [z, hd] at b1
          cases b1
        rw [upd_ne bd, del_ne be, upd_ne be, upd_ne bd, upd_ne be]
        exact b1
end
end K02

namespace K02
open PySem L2
local macro_rules | `(tactic| walk_at "rd1") => `(tactic| first
  | (with_reducible refine Rd.i_seq ?_) | (with_reducible refine Rd.i_asg ?_) | (with_reducible refine Rd.i_name ?_) | (with_reducible refine Rd.i_nx ?_) | (with_reducible refine Rd.i_rt ?_) | (with_reducible refine Rd.i_next ?_) | (with_reducible refine Rd.i_ct ?_) | (with_reducible refine Rd.i_bk ?_)
  | (with_reducible refine Rd.i_ret ?_) | (with_reducible refine Rd.i_drop ?_) | (with_reducible refine Rd.i_ifS ?_) | (with_reducible refine Rd.i_sub ?_)
  | (with_reducible refine Rd.i_var (by with_unfolding_all exact rfl) ?_) | (with_reducible refine Rd.i_c ?_) | (with_reducible refine Rd.i_op ?_) | (with_reducible refine Rd.i_un ?_)
  | (with_reducible refine Rd.i_rI0 ?_) | (with_reducible refine Rd.i_rI (by with_unfolding_all first | omega | exact Rd.mulL (by omega) (by omega) | exact Rd.mulR (by omega) (by omega) | decide | (refine ⟨?_, ?_⟩ <;> omega) | (refine ⟨?_, ?_, ?_⟩ <;> omega)) ?_)
  | (with_reducible refine Rd.i_rEq (by with_unfolding_all exact rfl) ?_) | (with_reducible refine Rd.i_rNe (by with_unfolding_all exact rfl) ?_)
  | (with_reducible refine Rd.i_test ?_) | (with_reducible refine Rd.i_tB ?_) | (with_reducible refine Rd.i_bl ?_) | (with_reducible refine Rd.i_and ?_) | (with_reducible refine Rd.i_or ?_) | (with_reducible refine Rd.i_not ?_) | (with_reducible refine Rd.i_notV ?_) | (with_reducible refine Rd.i_andV ?_) | (with_reducible refine Rd.i_orV ?_) | (with_reducible refine Rd.i_if ?_) | (with_reducible refine Rd.i_chain ?_)
  | (with_reducible refine Rd.i_call ?_) | (with_reducible refine Rd.i_nil ?_) | (with_reducible refine Rd.i_cons ?_) | (with_reducible refine Rd.i_cb ?_) | (with_reducible refine Rd.i_bm ?_) | (with_reducible refine Rd.i_bm0 ?_) | (with_reducible refine Rd.i_tup ?_) | (with_reducible refine Rd.i_lst ?_)
  | (with_reducible refine Rd.i_int1 ?_) | (with_reducible refine Rd.i_intb ?_) | (with_reducible refine Rd.i_max ?_)
  | (with_reducible refine Rd.i_ixL (SqL.of (by first | assumption | exact upd_same)) (by with_unfolding_all first | exact rfl | exact atI_nat rfl) ?_) | (with_reducible refine Rd.i_ixT (SqT.of (by first | assumption | exact upd_same)) (by with_unfolding_all exact rfl) ?_)
  | (with_reducible refine Rd.i_setL (by first | assumption | exact upd_same) (by with_unfolding_all exact rfl) ?_)
  | (with_reducible refine Xv.i_mkV ?_) | (with_reducible refine Xv.i_xat ?_)
  | (with_reducible refine Rd.i_yes ?_) | (with_reducible refine Rd.i_m1 ?_) | (with_reducible refine Rd.i_m0 ?_) | (with_reducible refine Rd.ite_T ?_) | (with_reducible refine Rd.ite_F ?_) | (with_reducible refine Rd.i_forR ?_) | (with_reducible refine Rd.i_forL ?_) | (with_reducible refine Rd.i_forT ?_)
  | (with_reducible refine Hd.i_rU ?_) | (with_reducible refine Hd.i_pcons ?_) | (with_reducible refine Hd.i_pnil ?_) | (with_reducible refine Hd.i_disp ?_) | (with_reducible refine Hd.i_dget ?_)
  | (with_reducible refine Hd.i_lstRg ?_) | (with_reducible refine Hd.i_rg1 ?_) | (with_reducible refine Hd.i_rg2 ?_) | (with_reducible refine Hd.i_ex1 ?_) | (with_reducible refine Hd.i_ex2 ?_)
  | (with_reducible refine Rd.i_gtup (SqT.of (by first | assumption | exact upd_same)) (by with_unfolding_all exact rfl) ?_) | (with_reducible refine Rd.i_gcons ?_) | (with_reducible refine Rd.i_gnil ?_)
  | (with_reducible refine Rd.i_lenT (SqT.of (by first | assumption | exact upd_same)) ?_) | (with_reducible refine Rd.i_len (SqL.of (by first | assumption | exact upd_same)) ?_)
  | (with_reducible refine Nr.ite_eF (by first | decide +kernel | with_unfolding_all exact rfl) ?_) | (with_reducible refine Nr.ite_eT (by first | decide +kernel | with_unfolding_all exact rfl) ?_)
  | (with_reducible refine Nr.i_tyL (by first | assumption | exact upd_same) ?_)
  | (with_reducible refine Nr.i_tupT (SqT.of (by first | assumption | exact upd_same)) ?_)
  | (with_reducible refine Nr.i_sl ?_) | (with_reducible refine Nr.i_part ?_) | (with_reducible refine Nr.i_nop ?_) | (with_reducible refine Nr.i_star ?_)
  | fail "stop")
local macro_rules | `(tactic| walk_at "rd") => `(tactic| repeat walk_at "rd1")
section
variable {P : Program} {w : World} {K : PySem.W.Frag} {mg : Str → Option Value} {base : Heap}
open Evl Hd
/-- each once, in the order of their first standing -/
def dd (l : List Str) : List Str := l.foldl (fun a g => if g ∈ a then a else a ++ [g]) []
theorem dd_snoc (l : List Str) (g : Str) : dd (l ++ [g]) = if g ∈ dd l then dd l else dd l ++ [g] := by
  unfold dd
  rw [List.foldl_append]
  rfl
theorem dd_len' (l : List Str) : ∀ a : List Str, (l.foldl (fun a g => if g ∈ a then a else a ++ [g]) a).length ≤ a.length + l.length := by
  induction l with
  | nil => exact fun a => Nat.le_refl _
  | cons g l ih =>
    intro a
    show (l.foldl (fun a g => if g ∈ a then a else a ++ [g]) (if g ∈ a then a else a ++ [g])).length ≤ a.length + (l.length + 1)
    refine Nat.le_trans (ih _) ?_
    split
    · omega
    · rw [List.length_append]
      show a.length + 1 + l.length ≤ _
      omega
theorem dd_len (l : List Str) : (dd l).length ≤ l.length := Nat.le_trans (dd_len' l []) (by show 0 + l.length ≤ _; omega)
def gS (ns : List Str) (li : Li) : List Str := (liG li).map fun o => wAt ns o
theorem gS_V (ns : List Str) (li : Li) : gV ns (liG li) = (gS ns li).map V.str := by
  unfold gV gS
  rw [List.map_map]
  rfl
def spExits (C CN : Addr) : Sp := fun vs H Q E => ∃ (a tp : Addr) (ts : List V) (ns : List Str) (ls : List Li) (x : Str), vs = [.ref a, .str x] ∧ Rdr C H a tp ∧ Kept H tp ts ns ls ∧
  (∀ i li l H', ls[i]? = some li → i < ns.length → x = wAt ns i → Ex H H' → H l = none → H' l = some (.lst ((dd (gS ns li)).map V.str)) → Q (.ref l) H') ∧ (x ∉ ns → NoL CN x H E)
theorem ok_Reader_exits (T : Ptx w K mg) : FnOk P w K mg base (L2.CX P w) 4 T.f_Reader_exits T.d_Reader_exits ["self", "name"] (spExits T.c_Reader T.c_NoLine) := by
  refine T.F_Reader_exits.okX sc_Reader_exits (fun vs H Q E h => ?_) (fun cdv A outer s H vs Q E hr h => ?_)
  · obtain ⟨a, tp, ts, ns, ls, x, rfl, _⟩ := h
    rfl
  · obtain ⟨a, tp, ts, ns, ls, x, rfl, hR, hk, k, kE⟩ := h
    refine ⟨_, (pss_cons (ps_set (i := 2) sc_Reader_exits.nd rfl (Or.inl rfl) (pe_lst pa_nil))
      (pss_cons (ps_for (passes_of rfl) rfl (pi_list (pe_call (ok_goals T) (hr.mono (by decide)) rfl T.m_goals T.F_goals.kp T.b_goals .nil pass0 (pa_cons (pe_meth (pv 0) T.cl_Reader T.h_Reader_line_of (ok_Reader_line_of T) (hr.mono (by decide)) T.b_Reader_line_of .nil (passE (takes_of rfl rfl rfl rfl)) (pa_cons (pv 1) pa_nil)) pa_nil))) (pg_name (i := 3) sc_Reader_exits.nd rfl (Or.inl rfl))
        (pss_one (ps_if (pt_cmpR op_notIn_seq (pv 3) (pv 2) (by rfl))
          (pss_one (ps_expr (pe_bm PySem.F.plainAttrs_list PySem.F.slot_list_append PySem.F.type_list_append mt_append (pv 2) (pa_cons (pv 3) pa_nil))))
          pss_nil)))
      (pss_one (ps_ret (pv 2))))), ?_⟩
    have hS : start ["self", "name", "found", "goal"] [V.ref a, .str x] = [some (.ref a), some (.str x), none, none] := rfl
    rw [hS]
    walk_at "rd"
    refine ⟨Nat.zero_le _, fun fl nfl => ?_⟩
    have e1 : Ex H (upd H fl (.lst [])) := Ex.new nfl
    walk_at "rd"
    refine i_meth ?_
    obtain ⟨dx, hdx⟩ := hR.mono e1
    walk_at "rd"
    refine ⟨a, dx, _, rfl, hdx, by with_unfolding_all rfl, ?_⟩
    walk_at "rd"
    refine ⟨a, tp, ts, ns, ls, x, rfl, hR.mono e1, hk.mono e1, fun i li v H1 hli hin hxw hv ex1 => ?_, fun hx d H' ex hd => kE hx d H' (e1.trans ex) hd⟩
    have hfm := hk.fms.fm li (List.mem_of_getElem? hli)
    walk_at "rd"
    refine ⟨v, ns, li, rfl, hv, hfm, fun gl H2 ex2 ngl hgl => ?_⟩
    rw [gS_V] at hgl
    have e02 := e1.trans (ex1.trans ex2)
    have hfl2 := (ex1.trans ex2) _ _ (upd_same (H := H) (a := fl) (o := .lst []))
    have fgl : fl ≠ gl := fun e => by
      have := ex1 _ _ (upd_same (H := H) (a := fl) (o := .lst []))
      rw [e, ngl] at this
      cases this
    refine Rd.forL (xs := (gS ns li).map V.str) (SqL.of hgl) (fun i σ H3 => ∃ u3 : Option V, σ = [some (.ref a), some (.str x), some (.ref fl), u3] ∧ H3 fl = some (.lst ((dd ((gS ns li).take i)).map V.str)) ∧ H3 gl = some (.lst ((gS ns li).map V.str)) ∧ Ex H H3) ⟨_, rfl, hfl2, hgl, e02⟩ (fun i σ H3 _ ⟨_, _, _, h, _⟩ => SqL.of h) ?_ ?_
    · rintro j z _ H3 hz ⟨u3, rfl, hfl3, hgl3, ex3⟩
      rw [List.getElem?_map] at hz
      obtain ⟨g, hg, rfl⟩ := Option.map_eq_some_iff.mp hz
      have hj := (List.getElem?_eq_some_iff.mp hg).1
      have htk : (gS ns li).take (j + 1) = (gS ns li).take j ++ [g] := by rw [List.take_succ, hg]; rfl
      walk_at "rd"
      refine i_ninS (.inl (SqL.of hfl3)) ?_
      walk_at "rd"
      refine Rd.ite_nd (fun hm => ?_) (fun hm => ?_)
      · walk_at "rd"
        refine ⟨_, rfl, ?_, hgl3, ex3⟩
        rw [htk, dd_snoc, if_pos hm]
        exact hfl3
      · walk_at "rd"
        refine Rd.i_append hfl3 (small1000 ?_) ?_
        · rw [List.length_map]
          have h1 := dd_len ((gS ns li).take j)
          rw [List.length_take] at h1
          have h2 := liG_len hfm
          have h3 : (gS ns li).length = (liG li).length := List.length_map _
          omega
        walk_at "rd"
        refine ⟨_, rfl, ?_, by rw [upd_ne (Ne.symm fgl)]; exact hgl3, ex_mut ex3 nfl⟩
        rw [htk, dd_snoc, if_neg hm, List.map_append]
        exact upd_same
    · rintro _ H3 ⟨u3, rfl, hfl3, hgl3, ex3⟩
      rw [List.length_map, List.take_length] at hfl3
      walk_at "rd"
      exact k i li fl H3 hli hin hxw ex3 nfl hfl3
theorem in_lk {x : Str} (h : x ∈ (["case", "take", "rest", "cap", "jump"] : List Str)) : Lk x := by
  unfold Lk
  simp only [List.mem_cons, List.not_mem_nil, or_false] at h ⊢
  rcases h with h | h | h | h | h
  · exact .inr (.inl h)
  · exact .inl h
  · exact .inr (.inr (.inl h))
  · exact .inr (.inr (.inr (.inl h)))
  · exact .inr (.inr (.inr (.inr h)))
def spReads (C CN : Addr) : Sp := fun vs H Q E => ∃ (a tp : Addr) (ts : List V) (ns : List Str) (ls : List Li) (x : Str), vs = [.ref a, .str x] ∧ Rdr C H a tp ∧ Kept H tp ts ns ls ∧
  (∀ i li H', ls[i]? = some li → i < ns.length → x = wAt ns i → Ex H H' → Q (.bl (decide (Lk (liW li)))) H') ∧ (x ∉ ns → NoL CN x H E)
theorem ok_Reader_reads (T : Ptx w K mg) : FnOk P w K mg base (L2.CX P w) 4 T.f_Reader_reads T.d_Reader_reads ["self", "name"] (spReads T.c_Reader T.c_NoLine) := by
  refine T.F_Reader_reads.okX sc_Reader_reads (fun vs H Q E h => ?_) (fun cdv A outer s H vs Q E hr h => ?_)
  · obtain ⟨a, tp, ts, ns, ls, x, rfl, _⟩ := h
    rfl
  · obtain ⟨a, tp, ts, ns, ls, x, rfl, hR, hk, k, kE⟩ := h
    refine ⟨_, (pss_one (ps_ret (pe_cmpR op_in_seq (pe_ix ix_tup (pe_meth (pv 0) T.cl_Reader T.h_Reader_line_of (ok_Reader_line_of T) (hr.mono (by decide)) T.b_Reader_line_of .nil (passE (takes_of rfl rfl rfl rfl)) (pa_cons (pv 1) pa_nil)) pe_int (fun _ _ => rfl)) (pe_glob (v := .ref T.a_READING) rfl T.m_READING rfl) (by rfl)))), ?_⟩
    have hS : start ["self", "name"] [V.ref a, .str x] = [some (.ref a), some (.str x)] := rfl
    rw [hS]
    obtain ⟨dx, hdx⟩ := id hR
    walk_at "rd"
    refine i_meth ?_
    walk_at "rd"
    refine ⟨a, dx, _, rfl, hdx, by with_unfolding_all rfl, ?_⟩
    walk_at "rd"
    refine ⟨a, tp, ts, ns, ls, x, rfl, hR, hk, fun i li v H1 hli hin hxw hv ex1 => ?_, kE⟩
    obtain ⟨t, xs, rfl, ht⟩ := hv.word
    walk_at "rd"
    refine Rd.i_ixT (SqT.of ht) (atI_nat (j := 0) rfl) ?_
    walk_at "rd"
    refine i_inS (ns := ["case", "take", "rest", "cap", "jump"]) (.inr (T.q_READING _)) ?_
    walk_at "rd"
    have := k i li H1 hli hin hxw ex1
    rwa [decide_eq_decide.mpr ⟨fun h => lk_in h, fun h => in_lk h⟩] at this
end
end K02

namespace K02
open PySem L2
local macro_rules | `(tactic| walk_at "rd1") => `(tactic| first
  | (with_reducible refine Rd.i_seq ?_) | (with_reducible refine Rd.i_asg ?_) | (with_reducible refine Rd.i_name ?_) | (with_reducible refine Rd.i_nx ?_) | (with_reducible refine Rd.i_rt ?_) | (with_reducible refine Rd.i_next ?_) | (with_reducible refine Rd.i_ct ?_) | (with_reducible refine Rd.i_bk ?_)
  | (with_reducible refine Rd.i_ret ?_) | (with_reducible refine Rd.i_drop ?_) | (with_reducible refine Rd.i_ifS ?_) | (with_reducible refine Rd.i_sub ?_)
  | (with_reducible refine Rd.i_var (by with_unfolding_all exact rfl) ?_) | (with_reducible refine Rd.i_c ?_) | (with_reducible refine Rd.i_op ?_) | (with_reducible refine Rd.i_un ?_)
  | (with_reducible refine Rd.i_rI0 ?_) | (with_reducible refine Rd.i_rI (by with_unfolding_all first | omega | exact Rd.mulL (by omega) (by omega) | exact Rd.mulR (by omega) (by omega) | decide | (refine ⟨?_, ?_⟩ <;> omega) | (refine ⟨?_, ?_, ?_⟩ <;> omega)) ?_)
  | (with_reducible refine Rd.i_rEq (by with_unfolding_all exact rfl) ?_) | (with_reducible refine Rd.i_rNe (by with_unfolding_all exact rfl) ?_)
  | (with_reducible refine Rd.i_test ?_) | (with_reducible refine Rd.i_tB ?_) | (with_reducible refine Rd.i_bl ?_) | (with_reducible refine Rd.i_and ?_) | (with_reducible refine Rd.i_or ?_) | (with_reducible refine Rd.i_not ?_) | (with_reducible refine Rd.i_notV ?_) | (with_reducible refine Rd.i_andV ?_) | (with_reducible refine Rd.i_orV ?_) | (with_reducible refine Rd.i_if ?_) | (with_reducible refine Rd.i_chain ?_)
  | (with_reducible refine Rd.i_call ?_) | (with_reducible refine Rd.i_nil ?_) | (with_reducible refine Rd.i_cons ?_) | (with_reducible refine Rd.i_cb ?_) | (with_reducible refine Rd.i_bm ?_) | (with_reducible refine Rd.i_bm0 ?_) | (with_reducible refine Rd.i_tup ?_) | (with_reducible refine Rd.i_lst ?_)
  | (with_reducible refine Rd.i_int1 ?_) | (with_reducible refine Rd.i_intb ?_) | (with_reducible refine Rd.i_max ?_)
  | (with_reducible refine Rd.i_ixL (SqL.of (by first | assumption | exact upd_same)) (by with_unfolding_all first | exact rfl | exact atI_nat rfl) ?_) | (with_reducible refine Rd.i_ixT (SqT.of (by first | assumption | exact upd_same)) (by with_unfolding_all exact rfl) ?_)
  | (with_reducible refine Rd.i_setL (by first | assumption | exact upd_same) (by with_unfolding_all exact rfl) ?_)
  | (with_reducible refine Xv.i_mkV ?_) | (with_reducible refine Xv.i_xat ?_)
  | (with_reducible refine Rd.i_yes ?_) | (with_reducible refine Rd.i_m1 ?_) | (with_reducible refine Rd.i_m0 ?_) | (with_reducible refine Rd.ite_T ?_) | (with_reducible refine Rd.ite_F ?_) | (with_reducible refine Rd.i_forR ?_) | (with_reducible refine Rd.i_forL ?_) | (with_reducible refine Rd.i_forT ?_)
  | (with_reducible refine Hd.i_rU ?_) | (with_reducible refine Hd.i_pcons ?_) | (with_reducible refine Hd.i_pnil ?_) | (with_reducible refine Hd.i_disp ?_) | (with_reducible refine Hd.i_dget ?_)
  | (with_reducible refine Hd.i_lstRg ?_) | (with_reducible refine Hd.i_rg1 ?_) | (with_reducible refine Hd.i_rg2 ?_) | (with_reducible refine Hd.i_ex1 ?_) | (with_reducible refine Hd.i_ex2 ?_)
  | (with_reducible refine Rd.i_gtup (SqT.of (by first | assumption | exact upd_same)) (by with_unfolding_all exact rfl) ?_) | (with_reducible refine Rd.i_gcons ?_) | (with_reducible refine Rd.i_gnil ?_)
  | (with_reducible refine Rd.i_lenT (SqT.of (by first | assumption | exact upd_same)) ?_) | (with_reducible refine Rd.i_len (SqL.of (by first | assumption | exact upd_same)) ?_)
  | (with_reducible refine Nr.ite_eF (by first | decide +kernel | with_unfolding_all exact rfl) ?_) | (with_reducible refine Nr.ite_eT (by first | decide +kernel | with_unfolding_all exact rfl) ?_)
  | (with_reducible refine Nr.i_tyL (by first | assumption | exact upd_same) ?_)
  | (with_reducible refine Nr.i_tupT (SqT.of (by first | assumption | exact upd_same)) ?_)
  | (with_reducible refine Nr.i_sl ?_) | (with_reducible refine Nr.i_part ?_) | (with_reducible refine Nr.i_nop ?_) | (with_reducible refine Nr.i_star ?_)
  | fail "stop")
local macro_rules | `(tactic| walk_at "rd") => `(tactic| repeat walk_at "rd1")
section
variable {P : Program} {w : World} {K : PySem.W.Frag} {mg : Str → Option Value} {base : Heap}
open Evl Hd
theorem i_make {σ : L2.St} {H : Hp} {Q : VK} {C : Addr} {sp : Sp} {dvs : List V} {E : XK} {t : TA} (q : t σ H fun vs H1 => ∀ x dx, H1 x = none → H1 dx = none → dx ≠ x → sp (.ref x :: (vs ++ dvs)) (upd (upd H1 dx (.own x)) x (.ins C dx [])) (fun v H2 => v = .non ∧ Q (.ref x) H2) E) : tMake C sp dvs E t σ H Q := q
theorem num_take {ls : List Li} {i : Nat} {li : Li} (h : ls[i]? = some li) : (numbered ls).take (i + 1) = (numbered ls).take i ++ [(i, li)] := by
  rw [List.take_succ]
  have hi := (List.getElem?_eq_some_iff.mp h).1
  have : (numbered ls)[i]? = some (i, li) := by
    unfold numbered
    rw [List.getElem?_zip_eq_some]
    exact ⟨List.getElem?_range hi, h⟩
  rw [this]
  rfl
theorem PrT.prN {H : Hp} {ns : List Str} {v : V} {y : Nat × Li} (h : PrT H ns v y) : PrN K H ns v y := by
  obtain ⟨t, x, h1, h2, h3⟩ := h
  exact ⟨t, x, h1, h2, h3.ln⟩
theorem i_raise {C e : Addr} {x : Str} {H H2 : Hp} {E : XK} (ex2 : Ex H H2) (kE : NoL C x H E) (he : H2 e = none) : Xv.spInitX C "name" [.ref e, .str x] (upd H2 e (exo e C none)) (fun v H3 => v = .non ∧ ∃ (d : Addr) (fs : List (Str × V)), H3 e = some (exo e C (some d)) ∧ H3 d = some (exd d fs) ∧ H2 d = none ∧ E (.ref C) (some d) (upd (del H3 e) d (.xd fs))) (fun _ _ _ => False) := by
  refine ⟨e, .str x, rfl, upd_same, fun d hd hde => ?_⟩
  rw [upd_ne hde] at hd
  refine ⟨rfl, d, _, upd_same, by rw [upd_ne hde]; exact upd_same, hd, kE d _ (fun b o hb => ?_) upd_same⟩
  have b1 := ex2 _ _ hb
  have be : b ≠ e := ne_of_none b1 he
  have bd : b ≠ d := fun z => by
    rw [z, hd] at b1
    cases b1
  rw [upd_ne bd, del_ne be, upd_ne be, upd_ne bd, upd_ne be]
  exact b1
def spRepl (K : PySem.W.Frag) (C CN : Addr) : Sp := fun vs H Q E => ∃ (a tp : Addr) (ts : List V) (ns : List Str) (ls : List Li) (x : Str) (v : V), vs = [.ref a, .str x, v] ∧ Rdr C H a tp ∧ Kept H tp ts ns ls ∧
  (x ∈ ns → ∃ i ws li, i < ns.length ∧ x = wAt ns i ∧ LtAt H ns v li ∧ Drawn ns ws (ls.set i li) ∧ ∀ b tp' ts' H', Ex H H' → Rdr C H' b tp' → Kept H' tp' ts' ns (ls.set i li) → Q (.ref b) H') ∧ (x ∉ ns → NoL CN x H E)
theorem ok_Reader_replaced (T : Ptx w K mg) : FnOk P w K mg base (L2.CX P w) 10 T.f_Reader_replaced T.d_Reader_replaced ["self", "name", "line"] (spRepl K T.c_Reader T.c_NoLine) := by
  refine T.F_Reader_replaced.okX sc_Reader_replaced (fun vs H Q E h => ?_) (fun cdv A outer s H vs Q E hr h => ?_)
  · obtain ⟨a, tp, ts, ns, ls, x, v, rfl, _⟩ := h
    rfl
  · obtain ⟨a, tp, ts, ns, ls, x, v, rfl, hR, hk, k, kE⟩ := h
    refine ⟨_, (pss_cons (ps_if (pt_cmpR op_notIn_seq (pv 1) (pe_meth0 (pv 0) T.cl_Reader T.h_Reader_names (ok_Reader_names T) (hr.mono (by decide)) T.b_Reader_names .nil pass0) (by rfl))
        (pss_one (ps_raise rfl (takes_of rfl rfl rfl rfl) (pmk_oex T.x_NoLine.oex T.x_NoLine.iC T.x_NoLine.tI (ok_NoLine___init T) (hr.mono (by decide)) T.b_NoLine .nil pass0 rfl T.m_NoLine (pa_cons (pv 1) pa_nil))))
        pss_nil)
      (pss_one (ps_ret (pe_make T.mk_Reader (ok_Reader___init T) (hr.mono (by decide)) rfl T.m_Reader T.b_Reader___init .nil pass0 (pa_cons (pe_lc (g := gTup K 2 (gCons (gName 3) (gCons (gName 4) gNil))) rfl sc_Reader_replaced.nd (pi_tup (pe_fld (pv 0) rfl)) (blkOk_by (own := [("own", 3), ("old", 4)]) (N := ["self", "name", "line", "own", "old"]) (sc := defScope s_Reader_replaced) (by decide +kernel)) (fun _ _ _ _ _ => (pg_tup (by rfl) (pgs_cons (pg_name (i := 3) sc_Reader_replaced.nd rfl (Or.inl rfl)) (pgs_cons (pg_name (i := 4) sc_Reader_replaced.nd rfl (Or.inl rfl)) pgs_nil)))) (fun _ _ _ _ _ => pts_nil) (fun _ _ _ _ _ => (pe_tup (pa_cons (pv 3) (pa_cons (pe_ifExp (pt_cmpR op_eq (pv 3) (pv 1) (nomark _)) (pv 2) (pv 4)) pa_nil))))) pa_nil))))), ?_⟩
    have hS : start ["self", "name", "line", "own", "old"] [V.ref a, .str x, v] = [some (.ref a), some (.str x), some v, none, none] := rfl
    rw [hS]
    obtain ⟨dx, hdx⟩ := id hR
    walk_at "rd"
    refine i_meth ?_
    walk_at "rd"
    refine ⟨a, dx, _, rfl, hdx, by with_unfolding_all rfl, ?_⟩
    refine ⟨a, tp, ts, ns, ls, rfl, hR, hk, fun l H1 ex1 nl hl => ?_⟩
    refine i_ninS (.inl (SqL.of hl)) ?_
    walk_at "rd"
    refine Rd.ite_nd (fun hm => ?_) (fun hm => ?_)
    · walk_at "rd"
      obtain ⟨m, ws, li, hmn, rfl, hv, hD, k⟩ := k hm
      have htl := hk.len
      have hk1 := hk.mono ex1
      refine i_make ?_
      walk_at "rd"
      refine Rd.i_lcT ?_
      refine i_fld ?_
      walk_at "rd"
      refine at_lines T (hR.mono ex1) ?_
      have hl1 := hk1.at_
      refine Rd.lcT (xs := ts) (SqT.of hl1) (fun D hD0 => ⟨fun i H2 => ∃ us : List V, H2 D = some (.lst us) ∧ us.length = i ∧ Paired (PrT H2 ns) us ((numbered (ls.set m li)).take i) ∧ Ex H1 H2, ⟨[], upd_same, rfl, .nil, Ex.new hD0⟩, fun i H2 _ ⟨_, _, _, _, e⟩ => SqT.of (e _ _ hl1), ?_, ?_⟩)
      · rintro j z H2 hz ⟨us, hDl, hul, hus, ex2⟩
        obtain ⟨t, y, lj, rfl, ht, hy, hlj, hjn, hfm⟩ := (hk1.mono ex2).get hz
        have hjl := (List.getElem?_eq_some_iff.mp hz).1
        have h8 := hk.fms.most
        walk_at "rd"
        refine ⟨rfl, ?_⟩
        walk_at "rd"
        have fin : ∀ (w' : V) (lw : Li), (ls.set m li)[j]? = some lw → LtAt H2 ns w' lw → ∀ p, H2 p = none → ∃ acc, upd H2 p (.tup [.str (wAt ns j), w']) D = some (.lst acc) ∧ acc.length < sizeLine ∧ ∃ us' : List V, upd (upd H2 p (.tup [.str (wAt ns j), w'])) D (.lst (acc ++ [.ref p])) D = some (.lst us') ∧ us'.length = j + 1 ∧ Paired (PrT (upd (upd H2 p (.tup [.str (wAt ns j), w'])) D (.lst (acc ++ [.ref p]))) ns) us' ((numbered (ls.set m li)).take (j + 1)) ∧ Ex H1 (upd (upd H2 p (.tup [.str (wAt ns j), w'])) D (.lst (acc ++ [.ref p]))) := fun w' lw hlw hw p hp => by
          have e4 : Ex H2 (upd H2 p (.tup [.str (wAt ns j), w'])) := Ex.new hp
          refine ⟨us, e4 _ _ hDl, small1000 (by omega), us ++ [.ref p], upd_same, by rw [List.length_append, hul]; rfl, ?_, ex_mut (ex2.trans e4) hD0⟩
          rw [num_take hlw]
          exact paired_app (paired_mono (fun v y h => prT_mut (h.mono' e4) (e4 _ _ hDl)) hus) (.cons (prT_mut ⟨p, w', rfl, upd_same, hw.mono e4⟩ (e4 _ _ hDl)) .nil)
        refine Rd.ite_d (fun e => ?_) (fun e => ?_)
        · obtain rfl := wAt_inj hk.fms.nd hjn hmn (V.str.inj e)
          walk_at "rd"
          refine ⟨by show 2 ≤ sizeLine; decide, fun p hp => ?_⟩
          exact fin v li (List.getElem?_set_self (List.getElem?_eq_some_iff.mp hlj).1) (hv.mono (ex1.trans ex2)) p hp
        · have hne : m ≠ j := fun z => e (by rw [z])
          walk_at "rd"
          refine ⟨by show 2 ≤ sizeLine; decide, fun p hp => ?_⟩
          exact fin y lj (by rw [List.getElem?_set_ne hne]; exact hlj) hy p hp
      · rintro H2 ⟨us, hDl, hul, hus, ex2⟩
        rw [show ts.length = (numbered (ls.set m li)).length by rw [num_len, List.length_set, htl], List.take_length] at hus
        walk_at "rd"
        intro b dxb hb hdxb hne
        have e3 : Ex H2 (upd (upd H2 dxb (.own b)) b (.ins T.c_Reader dxb [])) := (Ex.new (o := .own b) hdxb).trans (Ex.new (by rw [upd_ne (Ne.symm hne)]; exact hb))
        refine ⟨b, dxb, D, us, ns, ws, ls.set m li, rfl, upd_same, e3 _ _ hDl, paired_mono (fun v y h => (h.mono' e3).prN) hus, hD, fun tp' ts' H' ex hR' hk' => ⟨rfl, k b tp' ts' H' ?_ hR' hk'⟩⟩
        refine (ex1.trans ex2).trans fun c o hc => ?_
        have hcb : c ≠ b := ne_of_none hc hb
        exact hid_get (ex _ _ (hid_iff.mpr ⟨fun z => hcb (List.mem_singleton.mp z), e3 _ _ hc⟩))
    · refine i_mkO ?_
      walk_at "rd"
      exact ⟨by show 1 ≤ 1000; decide, fun e he => i_raise ex1 (kE hm) he⟩
end
end K02

namespace K02
open PySem L2
local macro_rules | `(tactic| walk_at "rd1") => `(tactic| first
  | (with_reducible refine Rd.i_seq ?_) | (with_reducible refine Rd.i_asg ?_) | (with_reducible refine Rd.i_name ?_) | (with_reducible refine Rd.i_nx ?_) | (with_reducible refine Rd.i_rt ?_) | (with_reducible refine Rd.i_next ?_) | (with_reducible refine Rd.i_ct ?_) | (with_reducible refine Rd.i_bk ?_)
  | (with_reducible refine Rd.i_ret ?_) | (with_reducible refine Rd.i_drop ?_) | (with_reducible refine Rd.i_ifS ?_) | (with_reducible refine Rd.i_sub ?_)
  | (with_reducible refine Rd.i_var (by with_unfolding_all exact rfl) ?_) | (with_reducible refine Rd.i_c ?_) | (with_reducible refine Rd.i_op ?_) | (with_reducible refine Rd.i_un ?_)
  | (with_reducible refine Rd.i_rI0 ?_) | (with_reducible refine Rd.i_rI (by with_unfolding_all first | omega | exact Rd.mulL (by omega) (by omega) | exact Rd.mulR (by omega) (by omega) | decide | (refine ⟨?_, ?_⟩ <;> omega) | (refine ⟨?_, ?_, ?_⟩ <;> omega)) ?_)
  | (with_reducible refine Rd.i_rEq (by with_unfolding_all exact rfl) ?_) | (with_reducible refine Rd.i_rNe (by with_unfolding_all exact rfl) ?_)
  | (with_reducible refine Rd.i_test ?_) | (with_reducible refine Rd.i_tB ?_) | (with_reducible refine Rd.i_bl ?_) | (with_reducible refine Rd.i_and ?_) | (with_reducible refine Rd.i_or ?_) | (with_reducible refine Rd.i_not ?_) | (with_reducible refine Rd.i_notV ?_) | (with_reducible refine Rd.i_andV ?_) | (with_reducible refine Rd.i_orV ?_) | (with_reducible refine Rd.i_if ?_) | (with_reducible refine Rd.i_chain ?_)
  | (with_reducible refine Rd.i_call ?_) | (with_reducible refine Rd.i_nil ?_) | (with_reducible refine Rd.i_cons ?_) | (with_reducible refine Rd.i_cb ?_) | (with_reducible refine Rd.i_bm ?_) | (with_reducible refine Rd.i_bm0 ?_) | (with_reducible refine Rd.i_tup ?_) | (with_reducible refine Rd.i_lst ?_)
  | (with_reducible refine Rd.i_int1 ?_) | (with_reducible refine Rd.i_intb ?_) | (with_reducible refine Rd.i_max ?_)
  | (with_reducible refine Rd.i_ixL (SqL.of (by first | assumption | exact upd_same)) (by with_unfolding_all first | exact rfl | exact atI_nat rfl) ?_) | (with_reducible refine Rd.i_ixT (SqT.of (by first | assumption | exact upd_same)) (by with_unfolding_all exact rfl) ?_)
  | (with_reducible refine Rd.i_setL (by first | assumption | exact upd_same) (by with_unfolding_all exact rfl) ?_)
  | (with_reducible refine Xv.i_mkV ?_) | (with_reducible refine Xv.i_xat ?_)
  | (with_reducible refine Rd.i_yes ?_) | (with_reducible refine Rd.i_m1 ?_) | (with_reducible refine Rd.i_m0 ?_) | (with_reducible refine Rd.ite_T ?_) | (with_reducible refine Rd.ite_F ?_) | (with_reducible refine Rd.i_forR ?_) | (with_reducible refine Rd.i_forL ?_) | (with_reducible refine Rd.i_forT ?_)
  | (with_reducible refine Hd.i_rU ?_) | (with_reducible refine Hd.i_pcons ?_) | (with_reducible refine Hd.i_pnil ?_) | (with_reducible refine Hd.i_disp ?_) | (with_reducible refine Hd.i_dget ?_)
  | (with_reducible refine Hd.i_lstRg ?_) | (with_reducible refine Hd.i_rg1 ?_) | (with_reducible refine Hd.i_rg2 ?_) | (with_reducible refine Hd.i_ex1 ?_) | (with_reducible refine Hd.i_ex2 ?_)
  | (with_reducible refine Rd.i_gtup (SqT.of (by first | assumption | exact upd_same)) (by with_unfolding_all exact rfl) ?_) | (with_reducible refine Rd.i_gcons ?_) | (with_reducible refine Rd.i_gnil ?_)
  | (with_reducible refine Rd.i_lenT (SqT.of (by first | assumption | exact upd_same)) ?_) | (with_reducible refine Rd.i_len (SqL.of (by first | assumption | exact upd_same)) ?_)
  | (with_reducible refine Nr.ite_eF (by first | decide +kernel | with_unfolding_all exact rfl) ?_) | (with_reducible refine Nr.ite_eT (by first | decide +kernel | with_unfolding_all exact rfl) ?_)
  | (with_reducible refine Nr.i_tyL (by first | assumption | exact upd_same) ?_)
  | (with_reducible refine Nr.i_tupT (SqT.of (by first | assumption | exact upd_same)) ?_)
  | (with_reducible refine Nr.i_sl ?_) | (with_reducible refine Nr.i_part ?_) | (with_reducible refine Nr.i_nop ?_) | (with_reducible refine Nr.i_star ?_)
  | fail "stop")
local macro_rules | `(tactic| walk_at "rd") => `(tactic| repeat walk_at "rd1")
section
variable {P : Program} {w : World} {K : PySem.W.Frag} {mg : Str → Option Value} {base : Heap}
open Evl Hd
/-! ### lines as data -/
def wyD (ns : List Str) (y : Int × Nat) : PyData := .tuple [.int y.1, .str (wAt ns y.2)]
def liD (ns : List Str) : Li → PyData
  | .case wy o => .tuple [.str "case", .tuple (wy.map (wyD ns)), .str (wAt ns o)]
  | .take o => .tuple [.str "take", .str (wAt ns o)]
  | .num w c o => .tuple [.str w, .int c, .str (wAt ns o)]
  | .upto c a b => .tuple [.str "upto", .int c, .str (wAt ns a), .str (wAt ns b)]
  | .fin w => .tuple [.str w]
def prD (ns : List Str) (y : Nat × Li) : PyData := .tuple [.str (wAt ns y.1), liD ns y.2]
def lsD (ns : List Str) (ls : List Li) : PyData := .tuple ((numbered ls).map (prD ns))
theorem dp_all {α : Type} {F : V → α → Prop} {D : α → PyData} {H : Hp} (h : ∀ v y, F v y → Dp K H v (D y)) : ∀ {xs : List V} {ys : List α}, Paired F xs ys → DpAll K H xs (ys.map D)
  | _, _, .nil => .nil
  | _, _, .cons r t => .cons (h _ _ r) (dp_all h t)
theorem LtAt.dp {H : Hp} {ns : List Str} {v : V} : ∀ {li : Li}, LtAt H ns v li → Dp K H v (liD ns li)
  | .case wy o, ⟨t, l, ts, h1, h2, h3, h4⟩ => by
    subst h1
    exact .tup (SqT.of h2) (.cons (.str _) (.cons (.tup (SqT.of h3) (dp_all (fun v y ⟨a, ea, ha⟩ => by subst ea; exact .tup (SqT.of ha) (.cons (.int _) (.cons (.str _) .nil))) h4)) (.cons (.str _) .nil)))
  | .take o, ⟨t, h1, h2⟩ => by subst h1; exact .tup (SqT.of h2) (.cons (.str _) (.cons (.str _) .nil))
  | .num w c o, ⟨t, h1, h2⟩ => by subst h1; exact .tup (SqT.of h2) (.cons (.str _) (.cons (.int _) (.cons (.str _) .nil)))
  | .upto c a b, ⟨t, h1, h2⟩ => by subst h1; exact .tup (SqT.of h2) (.cons (.str _) (.cons (.int _) (.cons (.str _) (.cons (.str _) .nil))))
  | .fin w, ⟨t, h1, h2⟩ => by subst h1; exact .tup (SqT.of h2) (.cons (.str _) .nil)
theorem PrAt.dp {H : Hp} {ns : List Str} {v : V} {y : Nat × Li} (h : PrT H ns v y) : Dp K H v (prD ns y) := by
  obtain ⟨t, x, h1, h2, h3⟩ := h
  subst h1
  exact .tup (SqT.of h2) (.cons (.str _) (.cons h3.dp .nil))
theorem Kept.dp {H : Hp} {l : Addr} {ts : List V} {ns : List Str} {ls : List Li} (h : Kept H l ts ns ls) : Dp K H (.ref l) (lsD ns ls) := .tup (SqT.of h.at_) (dp_all (fun _ _ q => PrAt.dp q) h.prs)
theorem lay_all : ∀ {ds : List PyData}, (∀ d ∈ ds, d.canLay0 = true) → PyData.canLayAll0 ds = true
  | [], _ => rfl
  | d :: r, h => by
    show (d.canLay0 && PyData.canLayAll0 r) = true
    rw [h d List.mem_cons_self, lay_all fun e he => h e (List.mem_cons_of_mem _ he)]
    rfl
theorem dep_all {n : Nat} : ∀ {ds : List PyData}, (∀ d ∈ ds, d.depth ≤ n) → PyData.depthAll ds ≤ n
  | [], _ => Nat.zero_le _
  | d :: r, h => by
    show max d.depth (PyData.depthAll r) ≤ n
    exact Nat.max_le.mpr ⟨h d List.mem_cons_self, dep_all fun e he => h e (List.mem_cons_of_mem _ he)⟩
theorem lay_map {α : Type} {D : α → PyData} {ys : List α} (h : ∀ y ∈ ys, (D y).canLay0 = true) : PyData.canLayAll0 (ys.map D) = true := lay_all fun d hd => by
  obtain ⟨y, hy, rfl⟩ := List.mem_map.mp hd
  exact h y hy
theorem az_lay {x : Str} (h : AZ x) : PyData.canLay0 (.str x) = true := by
  show x.cps.all (fun c => decide (c < 0x110000)) = true
  rw [Array.all_eq_true_iff_forall_mem]
  intro c hc
  have := h c (Array.mem_toList_iff.mpr hc)
  exact decide_eq_true (by omega)
theorem wAt_lay {ns : List Str} (h : ∀ x ∈ ns, Nm x) (o : Nat) : PyData.canLay0 (.str (wAt ns o)) = true := by
  by_cases ho : o < ns.length
  · exact az_lay (h _ (wAt_mem ho)).az
  · unfold wAt
    rw [List.getD_eq_getElem?_getD, List.getElem?_eq_none (by omega)]
    show PyData.canLay0 (.str (Str.ofString "")) = true
    decide +kernel
theorem wd_lay : ∀ x ∈ (["case", "take", "upto", "rest", "cap", "jump", "set", "skip", "cut", "refuse"] : List Str), PyData.canLay0 (.str x) = true := by decide +kernel
theorem num_lay {x : Str} {c : Int} (h : NumOk x c) : PyData.canLay0 (.str x) = true := by
  rcases h with ⟨rfl, _⟩ | ⟨rfl, _⟩ | ⟨rfl, _⟩ | ⟨rfl, _⟩ | ⟨rfl, _⟩ <;> exact wd_lay _ (by decide +kernel)
theorem dep_map {α : Type} {D : α → PyData} {ys : List α} {n : Nat} (h : ∀ y, (D y).depth ≤ n) : PyData.depthAll (ys.map D) ≤ n := dep_all fun d hd => by
  obtain ⟨y, _, rfl⟩ := List.mem_map.mp hd
  exact h y
theorem lay_cons {d : PyData} {ds : List PyData} (h : d.canLay0 = true) (h2 : PyData.canLayAll0 ds = true) : PyData.canLayAll0 (d :: ds) = true := by
  show (d.canLay0 && PyData.canLayAll0 ds) = true
  rw [h, h2]
  rfl
theorem liD_lay {ns : List Str} (hn : ∀ x ∈ ns, Nm x) : ∀ {li : Li}, LiFm li → (liD ns li).canLay0 = true
  | .case wy o, _ => lay_cons (wd_lay "case" (by decide +kernel)) (lay_cons (lay_map fun y _ => lay_cons rfl (lay_cons (wAt_lay hn _) rfl)) (lay_cons (wAt_lay hn _) rfl))
  | .take o, _ => lay_cons (wd_lay "take" (by decide +kernel)) (lay_cons (wAt_lay hn _) rfl)
  | .num w c o, h => lay_cons (num_lay h) (lay_cons rfl (lay_cons (wAt_lay hn _) rfl))
  | .upto c a b, _ => lay_cons (wd_lay "upto" (by decide +kernel)) (lay_cons rfl (lay_cons (wAt_lay hn _) (lay_cons (wAt_lay hn _) rfl)))
  | .fin w, h => lay_cons (by rcases h with rfl | rfl <;> exact wd_lay _ (by decide +kernel)) rfl
theorem liD_dep (ns : List Str) : ∀ li : Li, (liD ns li).depth ≤ 3
  | .case wy o => by
    have h : PyData.depthAll (wy.map (wyD ns)) ≤ 1 := dep_map fun y => by show max 0 (max 0 0) + 1 ≤ 1; decide
    show max 0 (max (PyData.depthAll (wy.map (wyD ns)) + 1) (max 0 0)) + 1 ≤ 3
    omega
  | .take o => by show max 0 (max 0 0) + 1 ≤ 3; decide
  | .num w c o => by show max 0 (max 0 (max 0 0)) + 1 ≤ 3; decide
  | .upto c a b => by show max 0 (max 0 (max 0 (max 0 0))) + 1 ≤ 3; decide
  | .fin w => by show max 0 0 + 1 ≤ 3; decide
theorem liD_sh {ns : List Str} (hn : ∀ x ∈ ns, Nm x) {li : Li} (h : LiFm li) : SeqAt.shaped (liD ns li) = true := by
  unfold SeqAt.shaped
  rw [liD_lay hn h, decide_eq_true (Nat.le_trans (liD_dep ns li) (by decide))]
  rfl
theorem lsD_sh {ns : List Str} {ls : List Li} (hF : Fms ns ls) : SeqAt.shaped (lsD ns ls) = true := by
  have h1 : (lsD ns ls).canLay0 = true := lay_map fun y hy => by
    obtain ⟨i, hi⟩ := List.getElem?_of_mem hy
    exact lay_cons (wAt_lay hF.nm _) (lay_cons (liD_lay hF.nm (hF.fm _ (List.mem_of_getElem? (num_get hi).2))) rfl)
  have h2 : (lsD ns ls).depth ≤ 5 := by
    show PyData.depthAll ((numbered ls).map (prD ns)) + 1 ≤ 5
    have : PyData.depthAll ((numbered ls).map (prD ns)) ≤ 4 := dep_map fun y => by
      have := liD_dep ns y.2
      show max 0 (max (liD ns y.2).depth 0) + 1 ≤ 4
      omega
    omega
  unfold SeqAt.shaped
  rw [h1, decide_eq_true (Nat.le_trans h2 (by decide))]
  rfl
/-- what == of a reader is asked of: another reader, or a tuple -/
def EqAsk (C : Addr) (H : Hp) (ns : List Str) (ls : List Li) (b : Addr) (r : Bool) : Prop := (∃ tp ts ns2 ls2, Rdr C H b tp ∧ Kept H tp ts ns2 ls2 ∧ r = PyData.eqv (lsD ns ls) (lsD ns2 ls2)) ∨ ((∃ xs, H b = some (.tup xs)) ∧ r = false)
def spEqR (C : Addr) : Sp := fun vs H Q _ => ∃ (a b tp : Addr) (ts : List V) (ns : List Str) (ls : List Li) (r : Bool), vs = [.ref a, .ref b] ∧ Rdr C H a tp ∧ Kept H tp ts ns ls ∧ EqAsk C H ns ls b r ∧ Q (.bl r) H
structure Etx (K : PySem.W.Frag) (C : Addr) : Prop where
  kS : PySem.W.kitOne K (.ref C) (.ref C) = some true
  kT : PySem.W.kitOne K (.type "tuple") (.ref C) = some false
  ty : ∀ {H : Hp} {a dx : Addr} {fs : List (Str × V)}, H a = some (.ins C dx fs) → TyX K H (.ref a) (.ref C)
theorem ok_Reader___eq (T : Ptx w K mg) (Z : Etx K T.c_Reader) : FnOk P w K mg base CX0 1 T.f_Reader___eq T.d_Reader___eq ["self", "other"] (spEqR T.c_Reader) := by
  refine T.F_Reader___eq.ok sc_Reader___eq (fun vs H Q E h => ?_) (fun cdv A outer s H vs Q E hr h => ?_)
  · obtain ⟨a, b, tp, ts, ns, ls, r, rfl, _⟩ := h
    rfl
  · obtain ⟨a, b, tp, ts, ns, ls, r, rfl, hR, hk, hE, k⟩ := h
    refine ⟨_, (pss_one (ps_ret (pe_and (pe_callB call_isi (by rfl) T.z_isinstance (by decide +kernel) (pa_cons (pv 1) (pa_cons (pe_glob (v := .ref T.c_Reader) rfl T.m_Reader rfl) pa_nil))) (pe_one (pe_cmpR (op_eqD hr.units) (pe_fld (pv 0) rfl) (pe_fld (pv 1) rfl) (nomark _)))))), ?_⟩
    have hS : start ["self", "other"] [V.ref a, .ref b] = [some (.ref a), some (.ref b)] := rfl
    rw [hS]
    walk_at "rd"
    rcases hE with ⟨tp2, ts2, ns2, ls2, hR2, hk2, rfl⟩ | ⟨⟨xs, hb⟩, rfl⟩
    · obtain ⟨dy, hdy⟩ := id hR2
      refine ⟨.ref b, .ref T.c_Reader, .ref T.c_Reader, .ref T.c_Reader, true, rfl, .own _, Z.ty hdy, Z.kS, ?_⟩
      walk_at "rd"
      refine i_fld ?_
      walk_at "rd"
      refine at_lines T hR ?_
      refine i_fld ?_
      walk_at "rd"
      refine at_lines T hR2 ?_
      exact ⟨_, _, hk.dp, hk2.dp, lsD_sh hk.fms, lsD_sh hk2.fms, k⟩
    · refine ⟨.ref b, .ref T.c_Reader, .type "tuple", .ref T.c_Reader, false, rfl, .own _, .base (.tup hb), Z.kT, ?_⟩
      walk_at "rd"
      exact k
end
end K02

namespace K02
open PySem L2
local macro_rules | `(tactic| walk_at "rd1") => `(tactic| first
  | (with_reducible refine Rd.i_seq ?_) | (with_reducible refine Rd.i_asg ?_) | (with_reducible refine Rd.i_name ?_) | (with_reducible refine Rd.i_nx ?_) | (with_reducible refine Rd.i_rt ?_) | (with_reducible refine Rd.i_next ?_) | (with_reducible refine Rd.i_ct ?_) | (with_reducible refine Rd.i_bk ?_)
  | (with_reducible refine Rd.i_ret ?_) | (with_reducible refine Rd.i_drop ?_) | (with_reducible refine Rd.i_ifS ?_) | (with_reducible refine Rd.i_sub ?_)
  | (with_reducible refine Rd.i_var (by with_unfolding_all exact rfl) ?_) | (with_reducible refine Rd.i_c ?_) | (with_reducible refine Rd.i_op ?_) | (with_reducible refine Rd.i_un ?_)
  | (with_reducible refine Rd.i_rI0 ?_) | (with_reducible refine Rd.i_rI (by with_unfolding_all first | omega | exact Rd.mulL (by omega) (by omega) | exact Rd.mulR (by omega) (by omega) | decide | (refine ⟨?_, ?_⟩ <;> omega) | (refine ⟨?_, ?_, ?_⟩ <;> omega)) ?_)
  | (with_reducible refine Rd.i_rEq (by with_unfolding_all exact rfl) ?_) | (with_reducible refine Rd.i_rNe (by with_unfolding_all exact rfl) ?_)
  | (with_reducible refine Rd.i_test ?_) | (with_reducible refine Rd.i_tB ?_) | (with_reducible refine Rd.i_bl ?_) | (with_reducible refine Rd.i_and ?_) | (with_reducible refine Rd.i_or ?_) | (with_reducible refine Rd.i_not ?_) | (with_reducible refine Rd.i_notV ?_) | (with_reducible refine Rd.i_andV ?_) | (with_reducible refine Rd.i_orV ?_) | (with_reducible refine Rd.i_if ?_) | (with_reducible refine Rd.i_chain ?_)
  | (with_reducible refine Rd.i_call ?_) | (with_reducible refine Rd.i_nil ?_) | (with_reducible refine Rd.i_cons ?_) | (with_reducible refine Rd.i_cb ?_) | (with_reducible refine Rd.i_bm ?_) | (with_reducible refine Rd.i_bm0 ?_) | (with_reducible refine Rd.i_tup ?_) | (with_reducible refine Rd.i_lst ?_)
  | (with_reducible refine Rd.i_int1 ?_) | (with_reducible refine Rd.i_intb ?_) | (with_reducible refine Rd.i_max ?_)
  | (with_reducible refine Rd.i_ixL (SqL.of (by first | assumption | exact upd_same)) (by with_unfolding_all first | exact rfl | exact atI_nat rfl) ?_) | (with_reducible refine Rd.i_ixT (SqT.of (by first | assumption | exact upd_same)) (by with_unfolding_all exact rfl) ?_)
  | (with_reducible refine Rd.i_setL (by first | assumption | exact upd_same) (by with_unfolding_all exact rfl) ?_)
  | (with_reducible refine Xv.i_mkV ?_) | (with_reducible refine Xv.i_xat ?_)
  | (with_reducible refine Rd.i_yes ?_) | (with_reducible refine Rd.i_m1 ?_) | (with_reducible refine Rd.i_m0 ?_) | (with_reducible refine Rd.ite_T ?_) | (with_reducible refine Rd.ite_F ?_) | (with_reducible refine Rd.i_forR ?_) | (with_reducible refine Rd.i_forL ?_) | (with_reducible refine Rd.i_forT ?_)
  | (with_reducible refine Hd.i_rU ?_) | (with_reducible refine Hd.i_pcons ?_) | (with_reducible refine Hd.i_pnil ?_) | (with_reducible refine Hd.i_disp ?_) | (with_reducible refine Hd.i_dget ?_)
  | (with_reducible refine Hd.i_lstRg ?_) | (with_reducible refine Hd.i_rg1 ?_) | (with_reducible refine Hd.i_rg2 ?_) | (with_reducible refine Hd.i_ex1 ?_) | (with_reducible refine Hd.i_ex2 ?_)
  | (with_reducible refine Rd.i_gtup (SqT.of (by first | assumption | exact upd_same)) (by with_unfolding_all exact rfl) ?_) | (with_reducible refine Rd.i_gcons ?_) | (with_reducible refine Rd.i_gnil ?_)
  | (with_reducible refine Rd.i_lenT (SqT.of (by first | assumption | exact upd_same)) ?_) | (with_reducible refine Rd.i_len (SqL.of (by first | assumption | exact upd_same)) ?_)
  | (with_reducible refine Nr.ite_eF (by first | decide +kernel | with_unfolding_all exact rfl) ?_) | (with_reducible refine Nr.ite_eT (by first | decide +kernel | with_unfolding_all exact rfl) ?_)
  | (with_reducible refine Nr.i_tyL (by first | assumption | exact upd_same) ?_)
  | (with_reducible refine Nr.i_tupT (SqT.of (by first | assumption | exact upd_same)) ?_)
  | (with_reducible refine Nr.i_sl ?_) | (with_reducible refine Nr.i_part ?_) | (with_reducible refine Nr.i_nop ?_) | (with_reducible refine Nr.i_star ?_)
  | fail "stop")
local macro_rules | `(tactic| walk_at "rd") => `(tactic| repeat walk_at "rd1")
abbrev s_law_tidy : Stmt := topS 39
theorem sc_law_tidy : FnScope ["_law_lines_here", "_law_found", "_law_name", "_law_line_here"] ["_law_lines_here"] (defScope s_law_tidy) := ⟨rfl, rfl, rfl, by decide +kernel, rfl, by decide +kernel, by decide +kernel⟩

abbrev s_law_exits : Stmt := topS 40
theorem sc_law_exits : FnScope ["_law_line_here", "_law_goals", "_law_value", "_law_name", "_law_found"] ["_law_line_here"] (defScope s_law_exits) := ⟨rfl, rfl, rfl, by decide +kernel, rfl, by decide +kernel, by decide +kernel⟩

abbrev s_law_asked : Stmt := topS 41
theorem sc_law_asked : FnScope ["_law_reader", "_law_way", "_law_name", "_law_told", "e"] ["_law_reader", "_law_way", "_law_name"] (defScope s_law_asked) := ⟨rfl, rfl, rfl, by decide +kernel, rfl, by decide +kernel, by decide +kernel⟩

abbrev s_law_keeps : Stmt := topS 42
theorem sc_law_keeps : FnScope ["_law_reader", "_law_due", "_law_names_here", "_law_name", "_law_line_here", "_law_told"] ["_law_reader", "_law_due"] (defScope s_law_keeps) := ⟨rfl, rfl, rfl, by decide +kernel, rfl, by decide +kernel, by decide +kernel⟩

abbrev s_law : Stmt := topS 43
theorem sc_law : FnScope ["_law_script", "_law_pen", "_law_turn", "_law_lines_here", "_law_due", "_law_reader", "_law_told", "_law_at", "_law_name", "_law_fresh", "_law_other", "_law_changed", "_law_names_here", "_law_line_here", "_law_strange", "_law_word_here", "_law_sign", "_law_way"] ["_law_script"] (defScope s_law) := ⟨rfl, rfl, rfl, by decide +kernel, rfl, by decide +kernel, by decide +kernel⟩

structure Ltx (w : World) (K : PySem.W.Frag) (mg : Str → Option Value) where
  g : Gtx K mg
  p : Ptx w K mg
  z : Etx K p.c_Reader
  z_bool : mg "bool" = none
  c_SplitError : Addr
  m_SplitError : mg "SplitError" = some (.ref c_SplitError)
  z_ValueError : mg "ValueError" = none
  kS : PySem.W.kitOne K (.ref p.c_NoLine) (.ref c_SplitError) = some true
  kV : PySem.W.kitOne K (.ref p.c_NoLine) (.type "ValueError") = some true
  te : PySem.W.exmOne K (.ref p.c_NoLine) (.ref p.c_NoLine) = some true
  hs : PySem.W.findIn K (.ref p.c_Reader) "__eq__" = some (some (.ref p.f_Reader___eq))
  hf : PySem.W.isFn K (.ref p.f_Reader___eq) = true
  kTT : PySem.W.kitOne K (.type "tuple") (.type "tuple") = some true
  kLL : PySem.W.kitOne K (.type "list") (.type "list") = some true
  kBB : PySem.W.kitOne K (.type "bool") (.type "bool") = some true
  nt : PySem.W.notFirst K p.c_Reader (.type "tuple") = true
  f_law_tidy : Addr
  d_law_tidy : FuncData
  F_law_tidy : Fun K "_law_tidy" "_law_tidy" s_law_tidy f_law_tidy d_law_tidy
  b_law_tidy : Binds K d_law_tidy ["_law_lines_here"] []
  m_law_tidy : mg "_law_tidy" = some (.ref f_law_tidy)
  f_law_exits : Addr
  d_law_exits : FuncData
  F_law_exits : Fun K "_law_exits" "_law_exits" s_law_exits f_law_exits d_law_exits
  b_law_exits : Binds K d_law_exits ["_law_line_here"] []
  m_law_exits : mg "_law_exits" = some (.ref f_law_exits)
  f_law_asked : Addr
  d_law_asked : FuncData
  F_law_asked : Fun K "_law_asked" "_law_asked" s_law_asked f_law_asked d_law_asked
  b_law_asked : Binds K d_law_asked ["_law_reader", "_law_way", "_law_name"] []
  m_law_asked : mg "_law_asked" = some (.ref f_law_asked)
  f_law_keeps : Addr
  d_law_keeps : FuncData
  F_law_keeps : Fun K "_law_keeps" "_law_keeps" s_law_keeps f_law_keeps d_law_keeps
  b_law_keeps : Binds K d_law_keeps ["_law_reader", "_law_due"] []
  m_law_keeps : mg "_law_keeps" = some (.ref f_law_keeps)
section
variable {P : Program} {w : World} {K : PySem.W.Frag} {mg : Str → Option Value} {base : Heap}
open Evl Hd
def spTidy (K : PySem.W.Frag) : Sp := fun vs H Q _ => ∃ (l : Addr) (ts : List V) (ns : List Str) (ls : List Li), vs = [.ref l] ∧ H l = some (.lst ts) ∧ Paired (PairAt H ns) ts (numbered ls) ∧ Fms ns ls ∧ ∀ tp ts' H', Ex H H' → Kept H' tp ts' ns ls → Q (.ref tp) H'
theorem fin_case {x : Str} (h : x = "cut" ∨ x = "refuse") : x ≠ "case" ∧ x ≠ "upto" ∧ x ∈ (["cut", "refuse"] : List Str) := by
  rcases h with rfl | rfl
  · exact ⟨by decide +kernel, by decide +kernel, by decide +kernel⟩
  · exact ⟨by decide +kernel, by decide +kernel, by decide +kernel⟩
theorem ok_law_tidy (T : Ltx w K mg) : FnOk P w K mg base CX0 1 T.f_law_tidy T.d_law_tidy ["_law_lines_here"] (spTidy K) := by
  refine T.F_law_tidy.ok sc_law_tidy (fun vs H Q E h => ?_) (fun cdv A outer s H vs Q E hr h => ?_)
  · obtain ⟨l, ts, ns, ls, rfl, _⟩ := h
    rfl
  · obtain ⟨l, ts, ns, ls, rfl, hl, hts, hF, k⟩ := h
    refine ⟨_, (pss_cons (ps_set (i := 1) sc_law_tidy.nd rfl (Or.inl rfl) (pe_lst pa_nil))
      (pss_cons (ps_for PassesOwn.never rfl (pi_list (pv 0)) (pg_tup (by rfl) (pgs_cons (pg_name (i := 2) sc_law_tidy.nd rfl (Or.inl rfl)) (pgs_cons (pg_name (i := 3) sc_law_tidy.nd rfl (Or.inl rfl)) pgs_nil)))
        (pss_one (ps_expr (pe_bm PySem.F.plainAttrs_list PySem.F.slot_list_append PySem.F.type_list_append mt_append (pv 1) (pa_cons (pe_tup (pa_cons (pv 2) (pa_cons (pe_ifExp (pt_cmpR op_eq (pe_ix ix_tup (pv 3) pe_int (fun _ _ => rfl)) pe_str (nomark _)) (pe_tup (pa_cons pe_str (pa_cons (pe_callTy Nr.call_tupR (by rfl) T.p.z_tuple (by decide +kernel) (pa_cons (pe_ix ix_tup (pv 3) pe_int (fun _ _ => rfl)) pa_nil)) (pa_cons (pe_ix ix_tup (pv 3) pe_int (fun _ _ => rfl)) pa_nil)))) (pv 3)) pa_nil))) pa_nil)))))
      (pss_one (ps_ret (pe_callTy Nr.call_tupR (by rfl) T.p.z_tuple (by decide +kernel) (pa_cons (pv 1) pa_nil)))))), ?_⟩
    have hS : start ["_law_lines_here", "_law_found", "_law_name", "_law_line_here"] [V.ref l] = [some (.ref l), none, none, none] := rfl
    rw [hS]
    have htl : ts.length = ls.length := by rw [paired_len hts, num_len]
    have h8 := hF.most
    walk_at "rd"
    refine ⟨Nat.zero_le _, fun D hD0 => ?_⟩
    have e1 : Ex H (upd H D (.lst [])) := Ex.new hD0
    walk_at "rd"
    refine Rd.forL (xs := ts) (SqL.of (e1 _ _ hl)) (fun i σ H2 => ∃ (us : List V) (u2 u3 : Option V), σ = [some (.ref l), some (.ref D), u2, u3] ∧ H2 D = some (.lst us) ∧ us.length = i ∧ Paired (PrT H2 ns) us ((numbered ls).take i) ∧ Ex H H2) ⟨[], _, _, rfl, upd_same, rfl, .nil, e1⟩ (fun i σ H2 _ ⟨_, _, _, _, _, _, _, e⟩ => SqL.of (e _ _ hl)) ?_ ?_
    · rintro i x _ H2 hx ⟨us, u2, u3, rfl, hDl, hul, hus, ex2⟩
      obtain ⟨⟨j, li⟩, hj, t2, lx, rfl, ht2, hlx⟩ := paired_get hts hx
      obtain ⟨rfl, hj2⟩ := num_get hj
      have hjl := (List.getElem?_eq_some_iff.mp hx).1
      have ht3 := ex2 _ _ ht2
      have fin : ∀ (H3 : Hp) (v' : V) (u2 u3 : Option V), Ex H2 H3 → LtAt H3 ns v' li → ∀ p, H3 p = none → rAppend (.ref D) [.ref p] (upd H3 p (.tup [.str (wAt ns j), v'])) fun _ H4 => ∃ (us : List V) (w2 w3 : Option V), [some (V.ref l), some (.ref D), u2, u3] = [some (.ref l), some (.ref D), w2, w3] ∧ H4 D = some (.lst us) ∧ us.length = j + 1 ∧ Paired (PrT H4 ns) us ((numbered ls).take (j + 1)) ∧ Ex H H4 := fun H3 v' u2 u3 ex3 hv p hp => by
        have e4 : Ex H3 (upd H3 p (.tup [.str (wAt ns j), v'])) := Ex.new hp
        have hD4 := e4 _ _ (ex3 _ _ hDl)
        refine Rd.i_append hD4 (small1000 (by omega)) ⟨us ++ [.ref p], _, _, rfl, upd_same, by rw [List.length_append, hul]; rfl, ?_, ex_mut ((ex2.trans ex3).trans e4) hD0⟩
        rw [num_take hj2]
        exact paired_app (paired_mono (fun v y h => prT_mut (h.mono' (ex3.trans e4)) hD4) hus) (.cons (prT_mut ⟨p, v', rfl, upd_same, hv.mono e4⟩ hD4) .nil)
      have hfm := hF.fm _ (List.mem_of_getElem? hj2)
      have hlx2 := hlx.mono ex2
      cases li with
      | case wy o =>
        obtain ⟨t, w1, wts, rfl, ht, hw, hwt⟩ := hlx2
        walk_at "rd"
        refine Nr.i_tupL (SqL.of hw) (fun b hb => ?_)
        have e3 : Ex H2 (upd H2 b (.tup wts)) := Ex.new hb
        have ht4 := e3 _ _ ht
        walk_at "rd"
        refine ⟨by show 3 ≤ sizeLine; decide, fun p hp => ?_⟩
        have e4 : Ex (upd H2 b (.tup wts)) (upd (upd H2 b (.tup wts)) p (.tup [.str "case", .ref b, .str (wAt ns o)])) := Ex.new hp
        walk_at "rd"
        refine ⟨by show 2 ≤ sizeLine; decide, fun p2 hp2 => ?_⟩
        walk_at "rd"
        exact fin _ (.ref p) _ _ (e3.trans e4) ⟨p, b, wts, rfl, upd_same, e4 _ _ upd_same, paired_mono (fun _ _ h => h.mono (e3.trans e4)) hwt⟩ p2 hp2
      | take o =>
        obtain ⟨t, rfl, ht⟩ := hlx2
        walk_at "rd"
        refine ⟨by show 2 ≤ sizeLine; decide, fun p2 hp2 => ?_⟩
        walk_at "rd"
        exact fin _ (.ref t) _ _ (Ex.refl _) ⟨t, rfl, ht⟩ p2 hp2
      | num x c o =>
        obtain ⟨t, rfl, ht⟩ := hlx2
        walk_at "rd"
        refine Rd.ite_d (fun h => absurd (V.str.inj h) (num_bnd hfm).2.2) (fun _ => ?_)
        walk_at "rd"
        refine ⟨by show 2 ≤ sizeLine; decide, fun p2 hp2 => ?_⟩
        walk_at "rd"
        exact fin _ (.ref t) _ _ (Ex.refl _) ⟨t, rfl, ht⟩ p2 hp2
      | upto c a b =>
        obtain ⟨t, rfl, ht⟩ := hlx2
        walk_at "rd"
        refine ⟨by show 2 ≤ sizeLine; decide, fun p2 hp2 => ?_⟩
        walk_at "rd"
        exact fin _ (.ref t) _ _ (Ex.refl _) ⟨t, rfl, ht⟩ p2 hp2
      | fin x =>
        obtain ⟨t, rfl, ht⟩ := hlx2
        walk_at "rd"
        refine Rd.ite_d (fun h => absurd (V.str.inj h) (fin_case hfm).1) (fun _ => ?_)
        walk_at "rd"
        refine ⟨by show 2 ≤ sizeLine; decide, fun p2 hp2 => ?_⟩
        walk_at "rd"
        exact fin _ (.ref t) _ _ (Ex.refl _) ⟨t, rfl, ht⟩ p2 hp2
    · rintro _ H2 ⟨us, u2, u3, rfl, hDl, hul, hus, ex2⟩
      rw [htl, ← num_len ls, List.take_length] at hus
      walk_at "rd"
      refine Nr.i_tupL (SqL.of hDl) (fun tp htp => ?_)
      have e3 : Ex H2 (upd H2 tp (.tup us)) := Ex.new htp
      walk_at "rd"
      exact k tp us _ (ex2.trans e3) ⟨upd_same, paired_mono (fun v y h => h.mono' e3) hus, hF⟩
theorem num_ne {x : Str} {c : Int} (h : NumOk x c) : x ≠ "case" ∧ x ≠ "upto" ∧ x ∉ (["cut", "refuse"] : List Str) := by
  rcases h with ⟨rfl, _⟩ | ⟨rfl, _⟩ | ⟨rfl, _⟩ | ⟨rfl, _⟩ | ⟨rfl, _⟩ <;> exact ⟨by decide +kernel, by decide +kernel, by decide +kernel⟩
def spLExits : Sp := fun vs H Q _ => ∃ (v : V) (ns : List Str) (li : Li), vs = [v] ∧ LtAt H ns v li ∧ LiFm li ∧ ∀ l H', Ex H H' → H l = none → H' l = some (.lst ((dd (gS ns li)).map V.str)) → Q (.ref l) H'
theorem ok_law_exits (T : Ltx w K mg) : FnOk P w K mg base CX0 1 T.f_law_exits T.d_law_exits ["_law_line_here"] spLExits := by
  refine T.F_law_exits.ok sc_law_exits (fun vs H Q E h => ?_) (fun cdv A outer s H vs Q E hr h => ?_)
  · obtain ⟨v, ns, li, rfl, _⟩ := h
    rfl
  · obtain ⟨v, ns, li, rfl, hv, hf, k⟩ := h
    refine ⟨_, (pss_cons (ps_set (i := 1) sc_law_exits.nd rfl (Or.inl rfl) (pe_lst pa_nil))
      (Evl.pss_cut (ps_if (pt_cmpR op_eq (pe_ix ix_tup (pv 0) pe_int (fun _ _ => rfl)) pe_str (nomark _))
        (pss_one (ps_set (i := 1) sc_law_exits.nd rfl (Or.inl rfl) (pe_op op_cat (pe_lc (g := gTup K 2 (gCons (gName 2) (gCons (gName 3) gNil))) rfl sc_law_exits.nd (pi_tup (pe_ix ix_tup (pv 0) pe_int (fun _ _ => rfl))) (blkOk_by (own := [("_law_value", 2), ("_law_name", 3)]) (N := ["_law_line_here", "_law_goals", "_law_value", "_law_name", "_law_found"]) (sc := defScope s_law_exits) (by decide +kernel)) (fun _ _ _ _ _ => (pg_tup (by rfl) (pgs_cons (pg_name (i := 2) sc_law_exits.nd rfl (Or.inl rfl)) (pgs_cons (pg_name (i := 3) sc_law_exits.nd rfl (Or.inl rfl)) pgs_nil)))) (fun _ _ _ _ _ => pts_nil) (fun _ _ _ _ _ => (pv 3))) (pe_lst (pa_cons (pe_ix ix_tup (pv 0) pe_int (fun _ _ => rfl)) pa_nil)))))
        (pss_one (ps_if (pt_cmpR op_eq (pe_ix ix_tup (pv 0) pe_int (fun _ _ => rfl)) pe_str (nomark _))
          (pss_one (ps_set (i := 1) sc_law_exits.nd rfl (Or.inl rfl) (pe_lst (pa_cons (pe_ix ix_tup (pv 0) pe_int (fun _ _ => rfl)) (pa_cons (pe_ix ix_tup (pv 0) pe_int (fun _ _ => rfl)) pa_nil)))))
          (pss_one (ps_if (pt_cmpR op_notIn_seq (pe_ix ix_tup (pv 0) pe_int (fun _ _ => rfl)) (pe_tup (pa_cons pe_str (pa_cons pe_str pa_nil))) (by rfl))
            (pss_one (ps_set (i := 1) sc_law_exits.nd rfl (Or.inl rfl) (pe_lst (pa_cons (pe_ix ix_tup (pv 0) (pe_un un_neg pe_int) (fun _ _ => rfl)) pa_nil))))
            pss_nil)))))
      (pss_cons (ps_set (i := 4) sc_law_exits.nd rfl (Or.inl rfl) (pe_lst pa_nil))
      (pss_cons (ps_for PassesOwn.never rfl (pi_list (pv 1)) (pg_name (i := 3) sc_law_exits.nd rfl (Or.inl rfl))
        (pss_one (ps_if (pt_cmpR op_notIn_seq (pv 3) (pv 4) (by rfl))
          (pss_one (ps_expr (pe_bm PySem.F.plainAttrs_list PySem.F.slot_list_append PySem.F.type_list_append mt_append (pv 4) (pa_cons (pv 3) pa_nil))))
          pss_nil)))
      (pss_one (ps_ret (pv 4))))))), ?_⟩
    have hS : start ["_law_line_here", "_law_goals", "_law_value", "_law_name", "_law_found"] [v] = [some v, none, none, none, none] := rfl
    rw [hS]
    walk_at "rd"
    refine ⟨Nat.zero_le _, fun g0 ng0 => ?_⟩
    have e1 : Ex H (upd H g0 (.lst [])) := Ex.new ng0
    walk_at "rd"
    refine Evl.q_cut (M := fun σ H' => ∃ (gl : Addr) (u2 u3 u4 : Option V), σ = [some v, some (.ref gl), u2, u3, u4] ∧ H' gl = some (.lst (gV ns (liG li))) ∧ Ex H H') ?_ (fun σ H1 hM => ?_)
    · cases li with
      | case wy o =>
        obtain ⟨t, l, ts, rfl, ht, hl, hts⟩ := hv
        have hlt := hf.2.2
        have hlen := paired_len hts
        have ht1 := e1 _ _ ht
        have hl1 := e1 _ _ hl
        walk_at "rd"
        refine Rd.i_lcT ?_
        walk_at "rd"
        refine Rd.lcT (xs := ts) (SqT.of hl1) (fun D hD => ⟨fun i H2 => H2 D = some (.lst (gV ns ((wy.take i).map (·.2)))) ∧ Ex (upd H g0 (.lst [])) H2, ⟨upd_same, Ex.new hD⟩, fun i H2 _ h => SqT.of (h.2 _ _ hl1), ?_, ?_⟩)
        · rintro i x H2 hx ⟨hDl, ex2⟩
          obtain ⟨y, hy, a, rfl, ha⟩ := paired_get hts hx
          have ha2 : H2 a = some (.tup [.int y.1, .str (wAt ns y.2)]) := ex2 _ _ (e1 _ _ ha)
          walk_at "rd"
          refine ⟨rfl, ?_⟩
          walk_at "rd"
          refine ⟨_, hDl, small1000 (by unfold gV; rw [List.length_map, List.length_map, List.length_take]; omega), ?_, ex_mut ex2 hD⟩
          rw [upd_same, List.take_succ, hy]
          unfold gV
          rw [List.map_append, List.map_append]
          rfl
        · rintro H2 ⟨hDl, ex2⟩
          rw [hlen, List.take_length] at hDl
          have ht3 := ex2 _ _ ht1
          walk_at "rd"
          refine ⟨by show 1 ≤ sizeLine; decide, fun p hp => ?_⟩
          have e3 : Ex H2 (upd H2 p (.lst [.str (wAt ns o)])) := Ex.new hp
          walk_at "rd"
          refine Rd.i_catL (e3 _ _ hDl) upd_same (by unfold gV; rw [List.length_map, List.length_map]; exact Nat.le_trans (by show wy.length + 1 ≤ 6; omega) (by decide)) (fun c hc => ?_)
          walk_at "rd"
          refine ⟨c, _, _, _, rfl, ?_, (e1.trans ex2).trans (e3.trans (Ex.new hc))⟩
          rw [upd_same]
          unfold gV liG
          rw [List.map_append]
          rfl
      | take o =>
        obtain ⟨t, rfl, ht⟩ := hv
        have ht1 := e1 _ _ ht
        walk_at "rd"
        refine ⟨by show 2 ≤ sizeLine; decide, fun q hq => ?_⟩
        have e2 : Ex (upd H g0 (.lst [])) (upd (upd H g0 (.lst [])) q (.tup [.str "cut", .str "refuse"])) := Ex.new hq
        have ht2 := e2 _ _ ht1
        refine i_ninS (ns := ["cut", "refuse"]) (.inr (SqT.of upd_same)) ?_
        walk_at "rd"
        refine ⟨by show 1 ≤ sizeLine; decide, fun c hc => ?_⟩
        walk_at "rd"
        exact ⟨c, _, _, _, rfl, upd_same, (e1.trans e2).trans (Ex.new hc)⟩
      | num x c o =>
        obtain ⟨t, rfl, ht⟩ := hv
        have ht1 := e1 _ _ ht
        obtain ⟨n1, n2, n3⟩ := num_ne hf
        walk_at "rd"
        refine Rd.ite_d (fun h => absurd (V.str.inj h) n1) (fun _ => ?_)
        walk_at "rd"
        refine Rd.ite_d (fun h => absurd (V.str.inj h) n2) (fun _ => ?_)
        walk_at "rd"
        refine ⟨by show 2 ≤ sizeLine; decide, fun q hq => ?_⟩
        have e2 : Ex (upd H g0 (.lst [])) (upd (upd H g0 (.lst [])) q (.tup [.str "cut", .str "refuse"])) := Ex.new hq
        have ht2 := e2 _ _ ht1
        refine i_ninS (ns := ["cut", "refuse"]) (.inr (SqT.of upd_same)) ?_
        rw [decide_eq_false n3]
        walk_at "rd"
        refine ⟨by show 1 ≤ sizeLine; decide, fun c hc => ?_⟩
        walk_at "rd"
        exact ⟨c, _, _, _, rfl, upd_same, (e1.trans e2).trans (Ex.new hc)⟩
      | upto c a b =>
        obtain ⟨t, rfl, ht⟩ := hv
        have ht1 := e1 _ _ ht
        walk_at "rd"
        refine ⟨by show 2 ≤ sizeLine; decide, fun c hc => ?_⟩
        walk_at "rd"
        exact ⟨c, _, _, _, rfl, upd_same, e1.trans (Ex.new hc)⟩
      | fin x =>
        obtain ⟨t, rfl, ht⟩ := hv
        have ht1 := e1 _ _ ht
        obtain ⟨n1, n2, n3⟩ := fin_case hf
        walk_at "rd"
        refine Rd.ite_d (fun h => absurd (V.str.inj h) n1) (fun _ => ?_)
        walk_at "rd"
        refine Rd.ite_d (fun h => absurd (V.str.inj h) n2) (fun _ => ?_)
        walk_at "rd"
        refine ⟨by show 2 ≤ sizeLine; decide, fun q hq => ?_⟩
        have e2 : Ex (upd H g0 (.lst [])) (upd (upd H g0 (.lst [])) q (.tup [.str "cut", .str "refuse"])) := Ex.new hq
        refine i_ninS (ns := ["cut", "refuse"]) (.inr (SqT.of upd_same)) ?_
        rw [decide_eq_true n3]
        walk_at "rd"
        exact ⟨g0, _, _, _, rfl, e2 _ _ upd_same, e1.trans e2⟩
    obtain ⟨gl, u2, u3, u4, rfl, hgl, ex1⟩ := hM
    rw [gS_V] at hgl
    walk_at "rd"
    refine ⟨Nat.zero_le _, fun fl nfl => ?_⟩
    have e2 : Ex H1 (upd H1 fl (.lst [])) := Ex.new nfl
    have nfl0 : H fl = none := fresh_back ex1 nfl
    have fgl : fl ≠ gl := fun e => by rw [e, hgl] at nfl; cases nfl
    walk_at "rd"
    refine Rd.forL (xs := (gS ns li).map V.str) (SqL.of (e2 _ _ hgl)) (fun i σ H3 => ∃ u2 u3 : Option V, σ = [some v, some (.ref gl), u2, u3, some (.ref fl)] ∧ H3 fl = some (.lst ((dd ((gS ns li).take i)).map V.str)) ∧ H3 gl = some (.lst ((gS ns li).map V.str)) ∧ Ex H H3) ⟨_, _, rfl, upd_same, e2 _ _ hgl, ex1.trans e2⟩ (fun i σ H3 _ ⟨_, _, _, _, h, _⟩ => SqL.of h) ?_ ?_
    · rintro j z _ H3 hz ⟨u2, u3, rfl, hfl3, hgl3, ex3⟩
      rw [List.getElem?_map] at hz
      obtain ⟨g, hg, rfl⟩ := Option.map_eq_some_iff.mp hz
      have hj := (List.getElem?_eq_some_iff.mp hg).1
      have htk : (gS ns li).take (j + 1) = (gS ns li).take j ++ [g] := by rw [List.take_succ, hg]; rfl
      walk_at "rd"
      refine i_ninS (.inl (SqL.of hfl3)) ?_
      walk_at "rd"
      refine Rd.ite_nd (fun hm => ?_) (fun hm => ?_)
      · walk_at "rd"
        refine ⟨_, _, rfl, ?_, hgl3, ex3⟩
        rw [htk, dd_snoc, if_pos hm]
        exact hfl3
      · walk_at "rd"
        refine Rd.i_append hfl3 (small1000 ?_) ?_
        · rw [List.length_map]
          have h1 := dd_len ((gS ns li).take j)
          rw [List.length_take] at h1
          have h2 := liG_len hf
          have h3 : (gS ns li).length = (liG li).length := List.length_map _
          omega
        walk_at "rd"
        refine ⟨_, _, rfl, ?_, by rw [upd_ne (Ne.symm fgl)]; exact hgl3, ex_mut ex3 nfl0⟩
        rw [htk, dd_snoc, if_neg hm, List.map_append]
        exact upd_same
    · rintro _ H3 ⟨u2, u3, rfl, hfl3, hgl3, ex3⟩
      rw [List.length_map, List.take_length] at hfl3
      walk_at "rd"
      exact k fl H3 ex3 nfl0 hfl3
end
end K02

namespace K02
open PySem L2
local macro_rules | `(tactic| walk_at "rd1") => `(tactic| first
  | (with_reducible refine Rd.i_seq ?_) | (with_reducible refine Rd.i_asg ?_) | (with_reducible refine Rd.i_name ?_) | (with_reducible refine Rd.i_nx ?_) | (with_reducible refine Rd.i_rt ?_) | (with_reducible refine Rd.i_next ?_) | (with_reducible refine Rd.i_ct ?_) | (with_reducible refine Rd.i_bk ?_)
  | (with_reducible refine Rd.i_ret ?_) | (with_reducible refine Rd.i_drop ?_) | (with_reducible refine Rd.i_ifS ?_) | (with_reducible refine Rd.i_sub ?_)
  | (with_reducible refine Rd.i_var (by with_unfolding_all exact rfl) ?_) | (with_reducible refine Rd.i_c ?_) | (with_reducible refine Rd.i_op ?_) | (with_reducible refine Rd.i_un ?_)
  | (with_reducible refine Rd.i_rI0 ?_) | (with_reducible refine Rd.i_rI (by with_unfolding_all first | omega | exact Rd.mulL (by omega) (by omega) | exact Rd.mulR (by omega) (by omega) | decide | (refine ⟨?_, ?_⟩ <;> omega) | (refine ⟨?_, ?_, ?_⟩ <;> omega)) ?_)
  | (with_reducible refine Rd.i_rEq (by with_unfolding_all exact rfl) ?_) | (with_reducible refine Rd.i_rNe (by with_unfolding_all exact rfl) ?_)
  | (with_reducible refine Rd.i_test ?_) | (with_reducible refine Rd.i_tB ?_) | (with_reducible refine Rd.i_bl ?_) | (with_reducible refine Rd.i_and ?_) | (with_reducible refine Rd.i_or ?_) | (with_reducible refine Rd.i_not ?_) | (with_reducible refine Rd.i_notV ?_) | (with_reducible refine Rd.i_andV ?_) | (with_reducible refine Rd.i_orV ?_) | (with_reducible refine Rd.i_if ?_) | (with_reducible refine Rd.i_chain ?_)
  | (with_reducible refine Rd.i_call ?_) | (with_reducible refine Rd.i_nil ?_) | (with_reducible refine Rd.i_cons ?_) | (with_reducible refine Rd.i_cb ?_) | (with_reducible refine Rd.i_bm ?_) | (with_reducible refine Rd.i_bm0 ?_) | (with_reducible refine Rd.i_tup ?_) | (with_reducible refine Rd.i_lst ?_)
  | (with_reducible refine Rd.i_int1 ?_) | (with_reducible refine Rd.i_intb ?_) | (with_reducible refine Rd.i_max ?_)
  | (with_reducible refine Rd.i_ixL (SqL.of (by first | assumption | exact upd_same)) (by with_unfolding_all first | exact rfl | exact atI_nat rfl) ?_) | (with_reducible refine Rd.i_ixT (SqT.of (by first | assumption | exact upd_same)) (by with_unfolding_all exact rfl) ?_)
  | (with_reducible refine Rd.i_setL (by first | assumption | exact upd_same) (by with_unfolding_all exact rfl) ?_)
  | (with_reducible refine Xv.i_mkV ?_) | (with_reducible refine Xv.i_xat ?_)
  | (with_reducible refine Rd.i_yes ?_) | (with_reducible refine Rd.i_m1 ?_) | (with_reducible refine Rd.i_m0 ?_) | (with_reducible refine Rd.ite_T ?_) | (with_reducible refine Rd.ite_F ?_) | (with_reducible refine Rd.i_forR ?_) | (with_reducible refine Rd.i_forL ?_) | (with_reducible refine Rd.i_forT ?_)
  | (with_reducible refine Hd.i_rU ?_) | (with_reducible refine Hd.i_pcons ?_) | (with_reducible refine Hd.i_pnil ?_) | (with_reducible refine Hd.i_disp ?_) | (with_reducible refine Hd.i_dget ?_)
  | (with_reducible refine Hd.i_lstRg ?_) | (with_reducible refine Hd.i_rg1 ?_) | (with_reducible refine Hd.i_rg2 ?_) | (with_reducible refine Hd.i_ex1 ?_) | (with_reducible refine Hd.i_ex2 ?_)
  | (with_reducible refine Rd.i_gtup (SqT.of (by first | assumption | exact upd_same)) (by with_unfolding_all exact rfl) ?_) | (with_reducible refine Rd.i_gcons ?_) | (with_reducible refine Rd.i_gnil ?_)
  | (with_reducible refine Rd.i_lenT (SqT.of (by first | assumption | exact upd_same)) ?_) | (with_reducible refine Rd.i_len (SqL.of (by first | assumption | exact upd_same)) ?_)
  | (with_reducible refine Nr.ite_eF (by first | decide +kernel | with_unfolding_all exact rfl) ?_) | (with_reducible refine Nr.ite_eT (by first | decide +kernel | with_unfolding_all exact rfl) ?_)
  | (with_reducible refine Nr.i_tyL (by first | assumption | exact upd_same) ?_)
  | (with_reducible refine Nr.i_tupT (SqT.of (by first | assumption | exact upd_same)) ?_)
  | (with_reducible refine Nr.i_sl ?_) | (with_reducible refine Nr.i_part ?_) | (with_reducible refine Nr.i_nop ?_) | (with_reducible refine Nr.i_star ?_)
  | fail "stop")
local macro_rules | `(tactic| walk_at "rd") => `(tactic| repeat walk_at "rd1")
section
variable {P : Program} {w : World} {K : PySem.W.Frag} {mg : Str → Option Value} {base : Heap}
open Evl Hd
theorem strs_dp {H : Hp} {l : Addr} {xs : List Str} (h : H l = some (.lst (xs.map V.str))) : Dp K H (.ref l) (.list (xs.map PyData.str)) := .lst (SqL.of h) (by
  clear h
  induction xs with
  | nil => exact .nil
  | cons x r ih => exact .cons (.str _) ih)
theorem strs_sh {xs : List Str} (h : ∀ x ∈ xs, PyData.canLay0 (.str x) = true) : SeqAt.shaped (.list (xs.map PyData.str)) = true := by
  have h1 : PyData.canLay0 (.list (xs.map PyData.str)) = true := lay_map (D := PyData.str) h
  have h2 : PyData.depth (.list (xs.map PyData.str)) ≤ 1 := by
    have := dep_map (D := PyData.str) (ys := xs) (n := 0) fun y => Nat.le_refl _
    show PyData.depthAll (xs.map PyData.str) + 1 ≤ 1
    omega
  unfold SeqAt.shaped
  rw [h1, decide_eq_true (Nat.le_trans h2 (by decide))]
  rfl
theorem dd_sub (l : List Str) : ∀ x ∈ dd l, x ∈ l := by
  have gen : ∀ (l a : List Str), ∀ x ∈ l.foldl (fun a g => if g ∈ a then a else a ++ [g]) a, x ∈ a ∨ x ∈ l := by
    intro l
    induction l with
    | nil => exact fun a x hx => .inl hx
    | cons g l ih =>
      intro a x hx
      rcases ih _ x hx with h | h
      · have h : x ∈ (if g ∈ a then a else a ++ [g]) := h
        split at h
        · exact .inl h
        · rcases List.mem_append.mp h with h | h
          · exact .inl h
          · exact .inr (List.mem_cons.mpr (.inl (List.mem_singleton.mp h)))
      · exact .inr (List.mem_cons_of_mem _ h)
  intro x hx
  exact (gen l [] x hx).elim (fun h => (List.not_mem_nil h).elim) id
theorem dd_lay {ns : List Str} (hn : ∀ x ∈ ns, Nm x) (li : Li) : ∀ x ∈ dd (gS ns li), PyData.canLay0 (.str x) = true := fun x hx => by
  obtain ⟨o, _, rfl⟩ := List.mem_map.mp (dd_sub _ x hx)
  exact wAt_lay hn o
def spKeeps (C : Addr) : Sp := fun vs H Q _ => ∃ (a tp du : Addr) (ts us : List V) (ns : List Str) (ls : List Li), vs = [.ref a, .ref du] ∧ Rdr C H a tp ∧ Kept H tp ts ns ls ∧ Kept H du us ns ls ∧ ∀ H', Ex H H' → Q (.bl true) H'
theorem ok_law_keeps (T : Ltx w K mg) : FnOk P w K mg base CX0 5 T.f_law_keeps T.d_law_keeps ["_law_reader", "_law_due"] (spKeeps T.p.c_Reader) := by
  refine T.F_law_keeps.ok sc_law_keeps (fun vs H Q E h => ?_) (fun cdv A outer s H vs Q E hr h => ?_)
  · obtain ⟨a, tp, du, ts, us, ns, ls, rfl, _⟩ := h
    rfl
  · obtain ⟨a, tp, du, ts, us, ns, ls, rfl, hR, hk, hu, k⟩ := h
    refine ⟨_, (pss_cons (ps_setLc (g := gTup K 2 (gCons (gName 3) (gCons (gName 4) gNil))) (i := 2) rfl sc_law_keeps.nd rfl rfl (sw_true rfl rfl rfl (by decide +kernel)) (pi_tup (pv 1)) (blkOk_by (own := [("_law_name", 3), ("_law_line_here", 4)]) (N := ["_law_reader", "_law_due", "_law_names_here", "_law_name", "_law_line_here", "_law_told"]) (sc := defScope s_law_keeps) (by decide +kernel)) (fun _ _ _ _ _ => (pg_tup (by rfl) (pgs_cons (pg_name (i := 3) sc_law_keeps.nd rfl (Or.inl rfl)) (pgs_cons (pg_name (i := 4) sc_law_keeps.nd rfl (Or.inl rfl)) pgs_nil)))) (fun _ _ _ _ _ => pts_nil) (fun _ _ _ _ _ => (pv 3)))
      (pss_cons (ps_if (PW.pt (pw_or (pt_not (pt_val (pe_callB call_isi (by rfl) T.p.z_isinstance (by decide +kernel) (pa_cons (pe_fld (pv 0) rfl) (pa_cons (pe_bltn (v := .ty "tuple") (by rfl) T.p.z_tuple (by decide +kernel) rfl) pa_nil))))) (pw_or (pt_cmpR (op_neD hr.units) (pe_fld (pv 0) rfl) (pv 1) (nomark _)) (pw_or1 (pt_cmpR (op_neD hr.units) (pe_meth0 (pv 0) T.p.cl_Reader T.p.h_Reader_names (ok_Reader_names T.p) (hr.mono (by decide)) T.p.b_Reader_names .nil pass0) (pv 2) (nomark _))))))
        (pss_one (ps_ret pe_bl))
        pss_nil)
      (pss_cons (ps_if (pt_not (pt_val (pe_callB call_isi (by rfl) T.p.z_isinstance (by decide +kernel) (pa_cons (pe_meth0 (pv 0) T.p.cl_Reader T.p.h_Reader_names (ok_Reader_names T.p) (hr.mono (by decide)) T.p.b_Reader_names .nil pass0) (pa_cons (pe_bltn (v := .ty "list") (by rfl) T.p.z_list (by decide +kernel) rfl) pa_nil)))))
        (pss_one (ps_ret pe_bl))
        pss_nil)
      (pss_cons (ps_for PassesOwn.never rfl (pi_tup (pv 1)) (pg_tup (by rfl) (pgs_cons (pg_name (i := 3) sc_law_keeps.nd rfl (Or.inl rfl)) (pgs_cons (pg_name (i := 4) sc_law_keeps.nd rfl (Or.inl rfl)) pgs_nil)))
        (pss_cons (ps_if (PW.pt (pw_or (pt_cmpR (op_neD hr.units) (pe_meth (pv 0) T.p.cl_Reader T.p.h_Reader_line_of (ok_Reader_line_of T.p) (hr.mono (by decide)) T.p.b_Reader_line_of .nil passL (pa_cons (pv 3) pa_nil)) (pv 4) (nomark _)) (pw_or1 (pt_cmpR (op_neD hr.units) (pe_meth (pv 0) T.p.cl_Reader T.p.h_Reader_exits (ok_Reader_exits T.p) (hr.mono (by decide)) T.p.b_Reader_exits .nil passL (pa_cons (pv 3) pa_nil)) (pe_call (ok_law_exits T) (hr.mono (by decide)) rfl T.m_law_exits T.F_law_exits.kp T.b_law_exits .nil pass0 (pa_cons (pv 4) pa_nil)) (nomark _)))))
          (pss_one (ps_ret pe_bl))
          pss_nil)
        (pss_cons (ps_if (PW.pt (pw_or (pt_not (pt_val (pe_callB call_isi (by rfl) T.p.z_isinstance (by decide +kernel) (pa_cons (pe_meth (pv 0) T.p.cl_Reader T.p.h_Reader_line_of (ok_Reader_line_of T.p) (hr.mono (by decide)) T.p.b_Reader_line_of .nil passL (pa_cons (pv 3) pa_nil)) (pa_cons (pe_bltn (v := .ty "tuple") (by rfl) T.p.z_tuple (by decide +kernel) rfl) pa_nil))))) (pw_or1 (pt_not (pt_val (pe_callB call_isi (by rfl) T.p.z_isinstance (by decide +kernel) (pa_cons (pe_meth (pv 0) T.p.cl_Reader T.p.h_Reader_exits (ok_Reader_exits T.p) (hr.mono (by decide)) T.p.b_Reader_exits .nil passL (pa_cons (pv 3) pa_nil)) (pa_cons (pe_bltn (v := .ty "list") (by rfl) T.p.z_list (by decide +kernel) rfl) pa_nil))))))))
          (pss_one (ps_ret pe_bl))
          pss_nil)
        (pss_cons (ps_set (i := 5) sc_law_keeps.nd rfl (Or.inl rfl) (pe_meth (pv 0) T.p.cl_Reader T.p.h_Reader_reads (ok_Reader_reads T.p) (hr.mono (by decide)) T.p.b_Reader_reads .nil passL (pa_cons (pv 3) pa_nil)))
        (pss_one (ps_if (PW.pt (pw_or (pt_not (pt_val (pe_callB call_isi (by rfl) T.p.z_isinstance (by decide +kernel) (pa_cons (pv 5) (pa_cons (pe_bltn (v := .ty "bool") (by rfl) T.z_bool (by decide +kernel) rfl) pa_nil))))) (pw_or1 (pt_cmpR op_ne (pv 5) (pe_cmpR op_in_seq (pe_ix ix_tup (pv 4) pe_int (fun _ _ => rfl)) (pe_tup (pa_cons pe_str (pa_cons pe_str (pa_cons pe_str (pa_cons pe_str (pa_cons pe_str pa_nil)))))) (by rfl)) (nomark _)))))
          (pss_one (ps_ret pe_bl))
          pss_nil))))))
      (pss_one (ps_ret pe_bl)))))), ?_⟩
    have hS : start ["_law_reader", "_law_due", "_law_names_here", "_law_name", "_law_line_here", "_law_told"] [V.ref a, .ref du] = [some (.ref a), some (.ref du), none, none, none, none] := rfl
    rw [hS]
    have hul := hu.len
    have hm8 := hk.fms.most
    have hnl := hk.fms.len
    have hR' := hR
    walk_at "rd"
    refine Rd.i_lcT ?_
    walk_at "rd"
    refine Rd.lcT (xs := us) (SqT.of hu.at_) (fun D hD => ⟨fun i H2 => H2 D = some (.lst ((ns.take i).map V.str)) ∧ Ex H H2, ⟨upd_same, Ex.new hD⟩, fun i H2 _ h => SqT.of (h.2 _ _ hu.at_), ?_, ?_⟩)
    · rintro i x H2 hx ⟨hDl, ex2⟩
      obtain ⟨t, y, li, rfl, ht, hy, hli, hin, hfm⟩ := (hu.mono ex2).get hx
      walk_at "rd"
      refine ⟨rfl, ?_⟩
      walk_at "rd"
      refine ⟨_, hDl, small1000 (by rw [List.length_map, List.length_take]; omega), ?_, ex_mut ex2 hD⟩
      rw [upd_same, wAt_take hin, List.map_append]
      rfl
    rintro H2 ⟨hDl, ex2⟩
    rw [take_all (by rw [hul, hnl])] at hDl
    have hstrs := @strs_sh ns fun x hx => az_lay (hk.fms.nm x hx).az
    walk_at "rd"
    refine i_fld ?_
    walk_at "rd"
    refine at_lines T.p (hR.mono ex2) ?_
    walk_at "rd"
    refine ⟨.ref tp, .ty "tuple", .type "tuple", .type "tuple", true, rfl, .ty _, .base (.tup (ex2 _ _ hk.at_)), T.kTT, ?_⟩
    walk_at "rd"
    refine i_fld ?_
    walk_at "rd"
    refine at_lines T.p (hR.mono ex2) ?_
    walk_at "rd"
    refine Xv.i_neSame (hk.mono ex2).dp (hu.mono ex2).dp (lsD_sh hk.fms) ?_
    walk_at "rd"
    refine i_meth ?_
    obtain ⟨dx, hdx⟩ := hR.mono ex2
    walk_at "rd"
    refine ⟨a, dx, _, rfl, hdx, by with_unfolding_all rfl, ?_⟩
    refine ⟨a, tp, ts, ns, ls, rfl, hR.mono ex2, hk.mono ex2, fun l3 H3 ex3 nl3 hl3 => ?_⟩
    walk_at "rd"
    refine Xv.i_neSame (strs_dp hl3) (strs_dp (ex3 _ _ hDl)) hstrs ?_
    walk_at "rd"
    refine i_meth ?_
    have e23 := ex2.trans ex3
    walk_at "rd"
    refine ⟨a, dx, _, rfl, ex3 _ _ hdx, by with_unfolding_all rfl, ?_⟩
    refine ⟨a, tp, ts, ns, ls, rfl, hR.mono e23, hk.mono e23, fun l4 H4 ex4 nl4 hl4 => ?_⟩
    walk_at "rd"
    refine ⟨.ref l4, .ty "list", .type "list", .type "list", true, rfl, .ty _, .base (.lst hl4), T.kLL, ?_⟩
    have e24 := e23.trans ex4
    walk_at "rd"
    have hu4 := e24 _ _ hu.at_
    refine Rd.forT (xs := us) (SqT.of hu4) (fun i σ H5 => ∃ u3 u4 u5 : Option V, σ = [some (.ref a), some (.ref du), some (.ref D), u3, u4, u5] ∧ Ex H H5) ⟨_, _, _, rfl, e24⟩ (fun i σ H5 _ ⟨_, _, _, _, e⟩ => SqT.of (e _ _ hu.at_)) ?_ ?_
    · rintro i x _ H5 hx ⟨u3, u4, u5, rfl, ex5⟩
      obtain ⟨t, y, li, rfl, ht, hy, hli, hin, hfm⟩ := (hu.mono ex5).get hx
      have askE : ∀ {H6 : Hp}, Ex H H6 → ∃ dx, H6 a = some (.ins T.p.c_Reader dx [("lines", .ref tp)]) := fun e => hR.mono e
      have nx : wAt ns i ∉ ns → ∀ E : XK, NoL T.p.c_NoLine (wAt ns i) H5 E := fun h => absurd (wAt_mem hin) h
      have same : ∀ {j : Nat} {lj : Li}, ls[j]? = some lj → j < ns.length → wAt ns i = wAt ns j → lj = li := fun {j lj} h1 h2 h3 => by
        obtain rfl := wAt_inj hk.fms.nd hin h2 h3
        exact Option.some.inj (h1.symm.trans hli)
      have e1b : (decide (Lk (liW li)) : Bool) = decide (liW li ∈ (["case", "take", "rest", "cap", "jump"] : List Str)) := decide_eq_decide.mpr ⟨lk_in, in_lk⟩
      walk_at "rd"
      refine i_meth ?_
      walk_at "rd"
      obtain ⟨dx5, hdx5⟩ := askE ex5
      refine ⟨a, dx5, _, rfl, hdx5, by with_unfolding_all rfl, ?_⟩
      walk_at "rd"
      refine ⟨a, tp, ts, ns, ls, wAt ns i, rfl, hR.mono ex5, hk.mono ex5, fun j lj v H6 hlj hj e hv ex6 => ?_, fun h => nx h _⟩
      obtain rfl := same hlj hj e
      have e06 := ex5.trans ex6
      have y6 := hy.mono ex6
      walk_at "rd"
      refine Xv.i_neSame hv.dp y6.dp (liD_sh hk.fms.nm hfm) ?_
      walk_at "rd"
      refine i_meth ?_
      walk_at "rd"
      refine ⟨a, dx5, _, rfl, ex6 _ _ hdx5, by with_unfolding_all rfl, ?_⟩
      walk_at "rd"
      refine ⟨a, tp, ts, ns, ls, wAt ns i, rfl, hR.mono e06, hk.mono e06, fun j lj l7 H7 hlj hj e ex7 nl7 hl7 => ?_, fun h => absurd (wAt_mem hin) h⟩
      obtain rfl := same hlj hj e
      have e07 := e06.trans ex7
      walk_at "rd"
      refine ⟨y, ns, _, rfl, y6.mono ex7, hfm, fun l8 H8 ex8 nl8 hl8 => ?_⟩
      have e08 := e07.trans ex8
      refine Xv.i_neSame (strs_dp (ex8 _ _ hl7)) (strs_dp hl8) (strs_sh (dd_lay hk.fms.nm _)) ?_
      walk_at "rd"
      refine i_meth ?_
      walk_at "rd"
      obtain ⟨dx8, hdx8⟩ := askE e08
      refine ⟨a, dx8, _, rfl, hdx8, by with_unfolding_all rfl, ?_⟩
      walk_at "rd"
      refine ⟨a, tp, ts, ns, ls, wAt ns i, rfl, hR.mono e08, hk.mono e08, fun j lj v2 H9 hlj hj e hv2 ex9 => ?_, fun h => absurd (wAt_mem hin) h⟩
      obtain rfl := same hlj hj e
      have e09 := e08.trans ex9
      obtain ⟨t9, xs9, rfl, ht9⟩ := hv2.word
      walk_at "rd"
      refine ⟨.ref t9, .ty "tuple", .type "tuple", .type "tuple", true, rfl, .ty _, .base (.tup ht9), T.kTT, ?_⟩
      walk_at "rd"
      refine i_meth ?_
      walk_at "rd"
      obtain ⟨dx9, hdx9⟩ := askE e09
      refine ⟨a, dx9, _, rfl, hdx9, by with_unfolding_all rfl, ?_⟩
      walk_at "rd"
      refine ⟨a, tp, ts, ns, ls, wAt ns i, rfl, hR.mono e09, hk.mono e09, fun j lj l10 H10 hlj hj e ex10 nl10 hl10 => ?_, fun h => absurd (wAt_mem hin) h⟩
      have e010 := e09.trans ex10
      walk_at "rd"
      refine ⟨.ref l10, .ty "list", .type "list", .type "list", true, rfl, .ty _, .base (.lst hl10), T.kLL, ?_⟩
      walk_at "rd"
      refine i_meth ?_
      walk_at "rd"
      obtain ⟨dx10, hdx10⟩ := askE e010
      refine ⟨a, dx10, _, rfl, hdx10, by with_unfolding_all rfl, ?_⟩
      walk_at "rd"
      refine ⟨a, tp, ts, ns, ls, wAt ns i, rfl, hR.mono e010, hk.mono e010, fun j lj H11 hlj hj e ex11 => ?_, fun h => absurd (wAt_mem hin) h⟩
      obtain rfl := same hlj hj e
      have e011 := e010.trans ex11
      rw [e1b]
      walk_at "rd"
      refine ⟨.bl _, .ty "bool", .type "bool", .type "bool", true, rfl, .ty _, .base (.bl _), T.kBB, ?_⟩
      obtain ⟨t12, xs12, rfl, ht12⟩ := (y6.mono (((ex7.trans ex8).trans (ex9.trans ex10)).trans ex11)).word
      walk_at "rd"
      refine Rd.i_ixT (SqT.of ht12) (atI_nat (j := 0) rfl) ?_
      walk_at "rd"
      refine ⟨by show 5 ≤ sizeLine; decide, fun p hp => ?_⟩
      refine i_inS (ns := ["case", "take", "rest", "cap", "jump"]) (.inr (SqT.of upd_same)) ?_
      walk_at "rd"
      refine Rd.ite_nd (fun _ => ?_) (fun h => absurd rfl h)
      walk_at "rd"
      exact ⟨_, _, _, rfl, e011.trans (Ex.new hp)⟩
    · rintro _ H5 ⟨u3, u4, u5, rfl, ex5⟩
      walk_at "rd"
      exact k _ ex5
end
end K02

namespace K02
open PySem L2
local macro_rules | `(tactic| walk_at "rd1") => `(tactic| first
  | (with_reducible refine Rd.i_seq ?_) | (with_reducible refine Rd.i_asg ?_) | (with_reducible refine Rd.i_name ?_) | (with_reducible refine Rd.i_nx ?_) | (with_reducible refine Rd.i_rt ?_) | (with_reducible refine Rd.i_next ?_) | (with_reducible refine Rd.i_ct ?_) | (with_reducible refine Rd.i_bk ?_)
  | (with_reducible refine Rd.i_ret ?_) | (with_reducible refine Rd.i_drop ?_) | (with_reducible refine Rd.i_ifS ?_) | (with_reducible refine Rd.i_sub ?_)
  | (with_reducible refine Rd.i_var (by with_unfolding_all exact rfl) ?_) | (with_reducible refine Rd.i_c ?_) | (with_reducible refine Rd.i_op ?_) | (with_reducible refine Rd.i_un ?_)
  | (with_reducible refine Rd.i_rI0 ?_) | (with_reducible refine Rd.i_rI (by with_unfolding_all first | omega | exact Rd.mulL (by omega) (by omega) | exact Rd.mulR (by omega) (by omega) | decide | (refine ⟨?_, ?_⟩ <;> omega) | (refine ⟨?_, ?_, ?_⟩ <;> omega)) ?_)
  | (with_reducible refine Rd.i_rEq (by with_unfolding_all exact rfl) ?_) | (with_reducible refine Rd.i_rNe (by with_unfolding_all exact rfl) ?_)
  | (with_reducible refine Rd.i_test ?_) | (with_reducible refine Rd.i_tB ?_) | (with_reducible refine Rd.i_bl ?_) | (with_reducible refine Rd.i_and ?_) | (with_reducible refine Rd.i_or ?_) | (with_reducible refine Rd.i_not ?_) | (with_reducible refine Rd.i_notV ?_) | (with_reducible refine Rd.i_andV ?_) | (with_reducible refine Rd.i_orV ?_) | (with_reducible refine Rd.i_if ?_) | (with_reducible refine Rd.i_chain ?_)
  | (with_reducible refine Rd.i_call ?_) | (with_reducible refine Rd.i_nil ?_) | (with_reducible refine Rd.i_cons ?_) | (with_reducible refine Rd.i_cb ?_) | (with_reducible refine Rd.i_bm ?_) | (with_reducible refine Rd.i_bm0 ?_) | (with_reducible refine Rd.i_tup ?_) | (with_reducible refine Rd.i_lst ?_)
  | (with_reducible refine Rd.i_int1 ?_) | (with_reducible refine Rd.i_intb ?_) | (with_reducible refine Rd.i_max ?_)
  | (with_reducible refine Rd.i_ixL (SqL.of (by first | assumption | exact upd_same)) (by with_unfolding_all first | exact rfl | exact atI_nat rfl) ?_) | (with_reducible refine Rd.i_ixT (SqT.of (by first | assumption | exact upd_same)) (by with_unfolding_all exact rfl) ?_)
  | (with_reducible refine Rd.i_setL (by first | assumption | exact upd_same) (by with_unfolding_all exact rfl) ?_)
  | (with_reducible refine Xv.i_mkV ?_) | (with_reducible refine Xv.i_xat ?_)
  | (with_reducible refine Rd.i_yes ?_) | (with_reducible refine Rd.i_m1 ?_) | (with_reducible refine Rd.i_m0 ?_) | (with_reducible refine Rd.ite_T ?_) | (with_reducible refine Rd.ite_F ?_) | (with_reducible refine Rd.i_forR ?_) | (with_reducible refine Rd.i_forL ?_) | (with_reducible refine Rd.i_forT ?_)
  | (with_reducible refine Hd.i_rU ?_) | (with_reducible refine Hd.i_pcons ?_) | (with_reducible refine Hd.i_pnil ?_) | (with_reducible refine Hd.i_disp ?_) | (with_reducible refine Hd.i_dget ?_)
  | (with_reducible refine Hd.i_lstRg ?_) | (with_reducible refine Hd.i_rg1 ?_) | (with_reducible refine Hd.i_rg2 ?_) | (with_reducible refine Hd.i_ex1 ?_) | (with_reducible refine Hd.i_ex2 ?_)
  | (with_reducible refine Rd.i_gtup (SqT.of (by first | assumption | exact upd_same)) (by with_unfolding_all exact rfl) ?_) | (with_reducible refine Rd.i_gcons ?_) | (with_reducible refine Rd.i_gnil ?_)
  | (with_reducible refine Rd.i_lenT (SqT.of (by first | assumption | exact upd_same)) ?_) | (with_reducible refine Rd.i_len (SqL.of (by first | assumption | exact upd_same)) ?_)
  | (with_reducible refine Nr.ite_eF (by first | decide +kernel | with_unfolding_all exact rfl) ?_) | (with_reducible refine Nr.ite_eT (by first | decide +kernel | with_unfolding_all exact rfl) ?_)
  | (with_reducible refine Nr.i_tyL (by first | assumption | exact upd_same) ?_)
  | (with_reducible refine Nr.i_tupT (SqT.of (by first | assumption | exact upd_same)) ?_)
  | (with_reducible refine Nr.i_sl ?_) | (with_reducible refine Nr.i_part ?_) | (with_reducible refine Nr.i_nop ?_) | (with_reducible refine Nr.i_star ?_)
  | fail "stop")
local macro_rules | `(tactic| walk_at "rd") => `(tactic| repeat walk_at "rd1")
section
variable {P : Program} {w : World} {K : PySem.W.Frag} {mg : Str → Option Value} {base : Heap}
open Evl Hd
theorem i_xf {a C : Addr} {cls : Value} {d : Option Addr} {f : Str} {te : TE} {σ : L2.St} {H : Hp} {Q : VK} (q : te σ H fun x H1 => x = .ref a ∧ cls = .ref C ∧ ∃ (dd : Addr) (fs : List (Str × V)) (v : V), d = some dd ∧ H1 dd = some (.xd fs) ∧ fs.lookup f = some v ∧ Q v H1) : tXf a cls d C f te σ H Q := q
def spAsked (C : Addr) : Sp := fun vs H Q _ => ∃ (a tp : Addr) (ts : List V) (ns : List Str) (ls : List Li) (x : Str) (wy : Int), vs = [.ref a, .int wy, .str x] ∧ Rdr C H a tp ∧ Kept H tp ts ns ls ∧ x ∉ ns ∧ ∀ t H', Ex H H' → H' t = some (.tup [.str "none", .str x, .bl true, .bl true]) → Q (.ref t) H'
theorem ok_law_asked (T : Ltx w K mg) : FnOk P w K mg base CX0 11 T.f_law_asked T.d_law_asked ["_law_reader", "_law_way", "_law_name"] (spAsked T.p.c_Reader) := by
  refine T.F_law_asked.ok sc_law_asked (fun vs H Q E h => ?_) (fun cdv A outer s H vs Q E hr h => ?_)
  · obtain ⟨a, tp, ts, ns, ls, x, wy, rfl, _⟩ := h
    rfl
  · obtain ⟨a, tp, ts, ns, ls, x, wy, rfl, hR, hk, hx, k⟩ := h
    refine ⟨_, (pss_cons (ps_try_as (i := 4) rfl rfl sc_law_asked.nd rfl rfl ⟨rfl, by decide, .inl T.p.m_NoLine⟩ takes0 (fun W pn xe tk _ =>
        (pss_one (ps_if (pt_cmpR op_eq (pv 1) pe_int (nomark _))
          (pss_one (ps_set (i := 3) sc_law_asked.nd rfl (Or.inl rfl) (Ty.pe_methT (pv 0) T.p.cl_Reader T.p.h_Reader_line_of (ok_Reader_line_of T.p) (hr.mono (by decide)) T.p.b_Reader_line_of (fun σ => passAt tk σ) (pa_cons (pv 2) pa_nil))))
          (pss_one (ps_if (pt_cmpR op_eq (pv 1) pe_int (nomark _))
            (pss_one (ps_set (i := 3) sc_law_asked.nd rfl (Or.inl rfl) (Ty.pe_methT (pv 0) T.p.cl_Reader T.p.h_Reader_exits (ok_Reader_exits T.p) (hr.mono (by decide)) T.p.b_Reader_exits (fun σ => passAt tk σ) (pa_cons (pv 2) pa_nil))))
            (pss_one (ps_if (pt_cmpR op_eq (pv 1) pe_int (nomark _))
              (pss_one (ps_set (i := 3) sc_law_asked.nd rfl (Or.inl rfl) (Ty.pe_methT (pv 0) T.p.cl_Reader T.p.h_Reader_reads (ok_Reader_reads T.p) (hr.mono (by decide)) T.p.b_Reader_reads (fun σ => passAt tk σ) (pa_cons (pv 2) pa_nil))))
              (pss_one (ps_set (i := 3) sc_law_asked.nd rfl (Or.inl rfl) (Ty.pe_methT (pv 0) T.p.cl_Reader T.p.h_Reader_replaced (ok_Reader_replaced T.p) (hr.mono (by decide)) T.p.b_Reader_replaced (fun σ => passAt tk σ) (pa_cons (pv 2) (pa_cons (pe_tup (pa_cons pe_str pa_nil)) pa_nil))))))))))))
        (fun a0 oe cls d pn hz hf =>
        (pss_one (ps_set (i := 3) sc_law_asked.nd rfl (Or.inl rfl) (pe_tup (pa_cons pe_str (pa_cons (pe_xf T.p.x_NoLine.xf T.p.x_NoLine.no hz hf (pv 4)) (pa_cons (pe_callB (Ty.call_isD hz hf) (by rfl) T.p.z_isinstance (by decide +kernel) (pa_cons (pv 4) (pa_cons (pe_glob (v := .ref T.c_SplitError) rfl T.m_SplitError rfl) pa_nil))) (pa_cons (pe_callB (Ty.call_isD hz hf) (by rfl) T.p.z_isinstance (by decide +kernel) (pa_cons (pv 4) (pa_cons (pe_bltn (v := .ty "ValueError") (by rfl) T.z_ValueError (by decide +kernel) rfl) pa_nil))) pa_nil)))))))))
      (pss_one (ps_ret (pv 3)))), ?_⟩
    have hS : start ["_law_reader", "_law_way", "_law_name", "_law_told", "e"] [V.ref a, .int wy, .str x] = [some (.ref a), some (.int wy), some (.str x), none, none] := rfl
    rw [hS]
    walk_at "rd"
    obtain ⟨dx, hdx⟩ := id hR
    have never : ∀ {i : Nat}, i < ns.length → x = wAt ns i → False := fun h1 h2 => hx (by rw [h2]; exact wAt_mem h1)
    refine Rd.ite_d (fun _ => ?_) (fun _ => ?_)
    · walk_at "rd"
      refine Ty.i_methT ?_
      walk_at "rd"
      refine ⟨a, dx, _, rfl, hdx, by with_unfolding_all rfl, ?_⟩
      walk_at "rd"
      refine ⟨a, tp, ts, ns, ls, x, rfl, hR, hk, fun i li v H' _ h2 h3 _ _ => (never h2 h3).elim, fun _ d H' ex hd => ?_⟩
      refine ⟨true, T.te, fun _ a0 ha0 => ?_, fun q => nomatch q⟩
      walk_at "rd"
      refine i_xf ?_
      walk_at "rd"
      refine ⟨rfl, rfl, d, _, _, rfl, hd, rfl, ?_⟩
      walk_at "rd"
      refine ⟨.ref T.c_SplitError, .ref T.c_SplitError, true, T.p.c_NoLine, d, _, rfl, .own _, rfl, rfl, hd, T.p.e_NoLine, T.kS, ?_⟩
      walk_at "rd"
      refine ⟨.ty "ValueError", .type "ValueError", true, T.p.c_NoLine, d, _, rfl, .ty _, rfl, rfl, hd, T.p.e_NoLine, T.kV, ?_⟩
      walk_at "rd"
      refine ⟨by show 4 ≤ sizeLine; decide, fun t ht => ?_⟩
      walk_at "rd"
      exact k t _ (((Ex.refl H)).trans (ex.trans (Ex.new ht))) upd_same
    walk_at "rd"
    refine Rd.ite_d (fun _ => ?_) (fun _ => ?_)
    · walk_at "rd"
      refine Ty.i_methT ?_
      walk_at "rd"
      refine ⟨a, dx, _, rfl, hdx, by with_unfolding_all rfl, ?_⟩
      walk_at "rd"
      refine ⟨a, tp, ts, ns, ls, x, rfl, hR, hk, fun i li l H' _ h2 h3 _ _ _ => (never h2 h3).elim, fun _ d H' ex hd => ?_⟩
      refine ⟨true, T.te, fun _ a0 ha0 => ?_, fun q => nomatch q⟩
      walk_at "rd"
      refine i_xf ?_
      walk_at "rd"
      refine ⟨rfl, rfl, d, _, _, rfl, hd, rfl, ?_⟩
      walk_at "rd"
      refine ⟨.ref T.c_SplitError, .ref T.c_SplitError, true, T.p.c_NoLine, d, _, rfl, .own _, rfl, rfl, hd, T.p.e_NoLine, T.kS, ?_⟩
      walk_at "rd"
      refine ⟨.ty "ValueError", .type "ValueError", true, T.p.c_NoLine, d, _, rfl, .ty _, rfl, rfl, hd, T.p.e_NoLine, T.kV, ?_⟩
      walk_at "rd"
      refine ⟨by show 4 ≤ sizeLine; decide, fun t ht => ?_⟩
      walk_at "rd"
      exact k t _ (((Ex.refl H)).trans (ex.trans (Ex.new ht))) upd_same
    walk_at "rd"
    refine Rd.ite_d (fun _ => ?_) (fun _ => ?_)
    · walk_at "rd"
      refine Ty.i_methT ?_
      walk_at "rd"
      refine ⟨a, dx, _, rfl, hdx, by with_unfolding_all rfl, ?_⟩
      walk_at "rd"
      refine ⟨a, tp, ts, ns, ls, x, rfl, hR, hk, fun i li H' _ h2 h3 _ => (never h2 h3).elim, fun _ d H' ex hd => ?_⟩
      refine ⟨true, T.te, fun _ a0 ha0 => ?_, fun q => nomatch q⟩
      walk_at "rd"
      refine i_xf ?_
      walk_at "rd"
      refine ⟨rfl, rfl, d, _, _, rfl, hd, rfl, ?_⟩
      walk_at "rd"
      refine ⟨.ref T.c_SplitError, .ref T.c_SplitError, true, T.p.c_NoLine, d, _, rfl, .own _, rfl, rfl, hd, T.p.e_NoLine, T.kS, ?_⟩
      walk_at "rd"
      refine ⟨.ty "ValueError", .type "ValueError", true, T.p.c_NoLine, d, _, rfl, .ty _, rfl, rfl, hd, T.p.e_NoLine, T.kV, ?_⟩
      walk_at "rd"
      refine ⟨by show 4 ≤ sizeLine; decide, fun t ht => ?_⟩
      walk_at "rd"
      exact k t _ (((Ex.refl H)).trans (ex.trans (Ex.new ht))) upd_same
    · walk_at "rd"
      refine Ty.i_methT ?_
      walk_at "rd"
      refine ⟨a, dx, _, rfl, hdx, by with_unfolding_all rfl, ?_⟩
      walk_at "rd"
      refine ⟨by show 1 ≤ sizeLine; decide, fun p hp => ?_⟩
      walk_at "rd"
      have e1 : Ex H (upd H p (.tup [.str "keep"])) := Ex.new hp
      refine ⟨a, tp, ts, ns, ls, x, .ref p, rfl, hR.mono e1, hk.mono e1, fun h => absurd h hx, fun _ d H' ex hd => ?_⟩
      refine ⟨true, T.te, fun _ a0 ha0 => ?_, fun q => nomatch q⟩
      walk_at "rd"
      refine i_xf ?_
      walk_at "rd"
      refine ⟨rfl, rfl, d, _, _, rfl, hd, rfl, ?_⟩
      walk_at "rd"
      refine ⟨.ref T.c_SplitError, .ref T.c_SplitError, true, T.p.c_NoLine, d, _, rfl, .own _, rfl, rfl, hd, T.p.e_NoLine, T.kS, ?_⟩
      walk_at "rd"
      refine ⟨.ty "ValueError", .type "ValueError", true, T.p.c_NoLine, d, _, rfl, .ty _, rfl, rfl, hd, T.p.e_NoLine, T.kV, ?_⟩
      walk_at "rd"
      refine ⟨by show 4 ≤ sizeLine; decide, fun t ht => ?_⟩
      walk_at "rd"
      exact k t _ ((e1).trans (ex.trans (Ex.new ht))) upd_same
end
end K02

namespace K02
open PySem L2
local macro_rules | `(tactic| walk_at "rd1") => `(tactic| first
  | (with_reducible refine Rd.i_seq ?_) | (with_reducible refine Rd.i_asg ?_) | (with_reducible refine Rd.i_name ?_) | (with_reducible refine Rd.i_nx ?_) | (with_reducible refine Rd.i_rt ?_) | (with_reducible refine Rd.i_next ?_) | (with_reducible refine Rd.i_ct ?_) | (with_reducible refine Rd.i_bk ?_)
  | (with_reducible refine Rd.i_ret ?_) | (with_reducible refine Rd.i_drop ?_) | (with_reducible refine Rd.i_ifS ?_) | (with_reducible refine Rd.i_sub ?_)
  | (with_reducible refine Rd.i_var (by with_unfolding_all exact rfl) ?_) | (with_reducible refine Rd.i_c ?_) | (with_reducible refine Rd.i_op ?_) | (with_reducible refine Rd.i_un ?_)
  | (with_reducible refine Rd.i_rI0 ?_) | (with_reducible refine Rd.i_rI (by with_unfolding_all first | omega | exact Rd.mulL (by omega) (by omega) | exact Rd.mulR (by omega) (by omega) | decide | (refine ⟨?_, ?_⟩ <;> omega) | (refine ⟨?_, ?_, ?_⟩ <;> omega)) ?_)
  | (with_reducible refine Rd.i_rEq (by with_unfolding_all exact rfl) ?_) | (with_reducible refine Rd.i_rNe (by with_unfolding_all exact rfl) ?_)
  | (with_reducible refine Rd.i_test ?_) | (with_reducible refine Rd.i_tB ?_) | (with_reducible refine Rd.i_bl ?_) | (with_reducible refine Rd.i_and ?_) | (with_reducible refine Rd.i_or ?_) | (with_reducible refine Rd.i_not ?_) | (with_reducible refine Rd.i_notV ?_) | (with_reducible refine Rd.i_andV ?_) | (with_reducible refine Rd.i_orV ?_) | (with_reducible refine Rd.i_if ?_) | (with_reducible refine Rd.i_chain ?_)
  | (with_reducible refine Rd.i_call ?_) | (with_reducible refine Rd.i_nil ?_) | (with_reducible refine Rd.i_cons ?_) | (with_reducible refine Rd.i_cb ?_) | (with_reducible refine Rd.i_bm ?_) | (with_reducible refine Rd.i_bm0 ?_) | (with_reducible refine Rd.i_tup ?_) | (with_reducible refine Rd.i_lst ?_)
  | (with_reducible refine Rd.i_int1 ?_) | (with_reducible refine Rd.i_intb ?_) | (with_reducible refine Rd.i_max ?_)
  | (with_reducible refine Rd.i_ixL (SqL.of (by first | assumption | exact upd_same)) (by with_unfolding_all first | exact rfl | exact atI_nat rfl) ?_) | (with_reducible refine Rd.i_ixT (SqT.of (by first | assumption | exact upd_same)) (by with_unfolding_all exact rfl) ?_)
  | (with_reducible refine Rd.i_setL (by first | assumption | exact upd_same) (by with_unfolding_all exact rfl) ?_)
  | (with_reducible refine Xv.i_mkV ?_) | (with_reducible refine Xv.i_xat ?_)
  | (with_reducible refine Rd.i_yes ?_) | (with_reducible refine Rd.i_m1 ?_) | (with_reducible refine Rd.i_m0 ?_) | (with_reducible refine Rd.ite_T ?_) | (with_reducible refine Rd.ite_F ?_) | (with_reducible refine Rd.i_forR ?_) | (with_reducible refine Rd.i_forL ?_) | (with_reducible refine Rd.i_forT ?_)
  | (with_reducible refine Hd.i_rU ?_) | (with_reducible refine Hd.i_pcons ?_) | (with_reducible refine Hd.i_pnil ?_) | (with_reducible refine Hd.i_disp ?_) | (with_reducible refine Hd.i_dget ?_)
  | (with_reducible refine Hd.i_lstRg ?_) | (with_reducible refine Hd.i_rg1 ?_) | (with_reducible refine Hd.i_rg2 ?_) | (with_reducible refine Hd.i_ex1 ?_) | (with_reducible refine Hd.i_ex2 ?_)
  | (with_reducible refine Rd.i_gtup (SqT.of (by first | assumption | exact upd_same)) (by with_unfolding_all exact rfl) ?_) | (with_reducible refine Rd.i_gcons ?_) | (with_reducible refine Rd.i_gnil ?_)
  | (with_reducible refine Rd.i_lenT (SqT.of (by first | assumption | exact upd_same)) ?_) | (with_reducible refine Rd.i_len (SqL.of (by first | assumption | exact upd_same)) ?_)
  | (with_reducible refine Nr.ite_eF (by first | decide +kernel | with_unfolding_all exact rfl) ?_) | (with_reducible refine Nr.ite_eT (by first | decide +kernel | with_unfolding_all exact rfl) ?_)
  | (with_reducible refine Nr.i_tyL (by first | assumption | exact upd_same) ?_)
  | (with_reducible refine Nr.i_tupT (SqT.of (by first | assumption | exact upd_same)) ?_)
  | (with_reducible refine Nr.i_sl ?_) | (with_reducible refine Nr.i_part ?_) | (with_reducible refine Nr.i_nop ?_) | (with_reducible refine Nr.i_star ?_)
  | fail "stop")
local macro_rules | `(tactic| walk_at "rd") => `(tactic| repeat walk_at "rd1")
section
variable {P : Program} {w : World} {K : PySem.W.Frag} {mg : Str → Option Value} {base : Heap}
open Evl Hd
theorem lk_jump : Lk "jump" := by decide +kernel
theorem wAt_set {ws : List Str} {i j : Nat} {x : Str} (hi : i < ws.length) : wAt (ws.set i x) j = if j = i then x else wAt ws j := by
  unfold wAt
  rw [List.getD_eq_getElem?_getD, List.getD_eq_getElem?_getD]
  by_cases e : j = i
  · subst e
    rw [if_pos rfl, List.getElem?_set_self hi]
    rfl
  · rw [if_neg e, List.getElem?_set_ne (Ne.symm e)]
theorem Gok.set {ws : List Str} {i k g : Nat} (hi : i < ws.length) (h : Gok ws k g) : Gok (ws.set i "jump") k g := by
  obtain ⟨h1, h2⟩ := h
  refine ⟨by rw [List.length_set]; exact h1, fun hk => ?_⟩
  rw [wAt_set hi] at hk ⊢
  by_cases e : k = i
  · rw [if_pos e] at hk
    exact absurd lk_jump hk
  · rw [if_neg e] at hk
    by_cases eg : g = i
    · rw [if_pos eg]
      exact .inl lk_jump
    · rw [if_neg eg]
      exact h2 hk
theorem LiOk.set {ws : List Str} {i k : Nat} (hi : i < ws.length) (hk : k ≠ i) : ∀ {li : Li}, LiOk ws k li → LiOk (ws.set i "jump") k li
  | .case wy o, ⟨h1, h2, h3, h4, h5⟩ => ⟨by rw [wAt_set hi, if_neg hk]; exact h1, h2, fun y hy => ⟨(h3 y hy).1, (h3 y hy).2.1, (h3 y hy).2.2.set hi⟩, h4, h5.set hi⟩
  | .take o, ⟨h1, h2⟩ => ⟨by rw [wAt_set hi, if_neg hk]; exact h1, h2.set hi⟩
  | .num _ _ _, ⟨h1, h2, h3⟩ => ⟨by rw [wAt_set hi, if_neg hk]; exact h1, h2, h3.set hi⟩
  | .upto _ _ _, ⟨h1, h2, h3, h4, h5⟩ => ⟨by rw [wAt_set hi, if_neg hk]; exact h1, h2, h3, h4.set hi, h5.set hi⟩
  | .fin _, ⟨h1, h2⟩ => ⟨by rw [wAt_set hi, if_neg hk]; exact h1, h2⟩
theorem Wds.set {ws : List Str} {i : Nat} (hi : i < ws.length) (h : Wds ws) : Wds (ws.set i "jump") := by
  refine ⟨fun x hx => ?_, ?_⟩
  · rcases List.mem_or_eq_of_mem_set hx with hx | hx
    · exact h.all x hx
    · rw [hx]
      exact .inl lk_jump
  · rcases h.beg with ⟨x, hx, hk⟩ | ⟨h2, ⟨x, hx, hk⟩, y, hy, hky⟩
    · refine .inl ?_
      by_cases e : i = 0
      · subst e
        exact ⟨_, List.getElem?_set_self hi, lk_jump⟩
      · exact ⟨x, by rw [List.getElem?_set_ne e]; exact hx, hk⟩
    · by_cases e : i = 0
      · subst e
        exact .inl ⟨_, List.getElem?_set_self hi, lk_jump⟩
      · refine .inr ⟨by rw [List.length_set]; exact h2, ⟨x, by rw [List.getElem?_set_ne e]; exact hx, hk⟩, ?_⟩
        by_cases e1 : i = 1
        · subst e1
          exact ⟨_, List.getElem?_set_self hi, lk_jump⟩
        · exact ⟨y, by rw [List.getElem?_set_ne e1]; exact hy, hky⟩
/-- a line made to jump: the lines stay a reader -/
theorem Drawn.jump {ns ws : List Str} {ls : List Li} (h : Drawn ns ws ls) {i g : Nat} {c : Int} (hi : i < ls.length) (hg : g < ls.length) (h1 : 1 ≤ c) (h4 : c ≤ 4) : Drawn ns (ws.set i "jump") (ls.set i (.num "jump" c g)) := by
  have hw : i < ws.length := by rw [← h.lenL]; exact hi
  refine ⟨by rw [List.length_set]; exact h.len, by rw [List.length_set, List.length_set]; exact h.lenL, by rw [List.length_set]; exact h.pos, by rw [List.length_set]; exact h.most, h.nd, h.nm, h.wds.set hw, fun k li hk => ?_⟩
  by_cases e : k = i
  · subst e
    rw [List.getElem?_set_self hi] at hk
    cases hk
    have hj : wAt (ws.set k "jump") k = "jump" := by rw [wAt_set hw, if_pos rfl]
    exact ⟨hj, .inr (.inr (.inl ⟨rfl, h1, h4⟩)), by rw [List.length_set, ← h.lenL]; exact hg, fun hn => absurd (by rw [hj]; exact lk_jump) hn⟩
  · rw [List.getElem?_set_ne (Ne.symm e)] at hk
    exact (h.ok k li hk).set hw e
end
end K02

namespace K02
open PySem L2
local macro_rules | `(tactic| walk_at "rd1") => `(tactic| first
  | (with_reducible refine Rd.i_seq ?_) | (with_reducible refine Rd.i_asg ?_) | (with_reducible refine Rd.i_name ?_) | (with_reducible refine Rd.i_nx ?_) | (with_reducible refine Rd.i_rt ?_) | (with_reducible refine Rd.i_next ?_) | (with_reducible refine Rd.i_ct ?_) | (with_reducible refine Rd.i_bk ?_)
  | (with_reducible refine Rd.i_ret ?_) | (with_reducible refine Rd.i_drop ?_) | (with_reducible refine Rd.i_ifS ?_) | (with_reducible refine Rd.i_sub ?_)
  | (with_reducible refine Rd.i_var (by with_unfolding_all exact rfl) ?_) | (with_reducible refine Rd.i_c ?_) | (with_reducible refine Rd.i_op ?_) | (with_reducible refine Rd.i_un ?_)
  | (with_reducible refine Rd.i_rI0 ?_) | (with_reducible refine Rd.i_rI (by with_unfolding_all first | omega | exact Rd.mulL (by omega) (by omega) | exact Rd.mulR (by omega) (by omega) | decide | (refine ⟨?_, ?_⟩ <;> omega) | (refine ⟨?_, ?_, ?_⟩ <;> omega)) ?_)
  | (with_reducible refine Rd.i_rEq (by with_unfolding_all exact rfl) ?_) | (with_reducible refine Rd.i_rNe (by with_unfolding_all exact rfl) ?_)
  | (with_reducible refine Rd.i_test ?_) | (with_reducible refine Rd.i_tB ?_) | (with_reducible refine Rd.i_bl ?_) | (with_reducible refine Rd.i_and ?_) | (with_reducible refine Rd.i_or ?_) | (with_reducible refine Rd.i_not ?_) | (with_reducible refine Rd.i_notV ?_) | (with_reducible refine Rd.i_andV ?_) | (with_reducible refine Rd.i_orV ?_) | (with_reducible refine Rd.i_if ?_) | (with_reducible refine Rd.i_chain ?_)
  | (with_reducible refine Rd.i_call ?_) | (with_reducible refine Rd.i_nil ?_) | (with_reducible refine Rd.i_cons ?_) | (with_reducible refine Rd.i_cb ?_) | (with_reducible refine Rd.i_bm ?_) | (with_reducible refine Rd.i_bm0 ?_) | (with_reducible refine Rd.i_tup ?_) | (with_reducible refine Rd.i_lst ?_)
  | (with_reducible refine Rd.i_int1 ?_) | (with_reducible refine Rd.i_intb ?_) | (with_reducible refine Rd.i_max ?_)
  | (with_reducible refine Rd.i_ixL (SqL.of (by first | assumption | exact upd_same)) (by with_unfolding_all first | exact rfl | exact atI_nat rfl) ?_) | (with_reducible refine Rd.i_ixT (SqT.of (by first | assumption | exact upd_same)) (by with_unfolding_all exact rfl) ?_)
  | (with_reducible refine Rd.i_setL (by first | assumption | exact upd_same) (by with_unfolding_all exact rfl) ?_)
  | (with_reducible refine Xv.i_mkV ?_) | (with_reducible refine Xv.i_xat ?_)
  | (with_reducible refine Rd.i_yes ?_) | (with_reducible refine Rd.i_m1 ?_) | (with_reducible refine Rd.i_m0 ?_) | (with_reducible refine Rd.ite_T ?_) | (with_reducible refine Rd.ite_F ?_) | (with_reducible refine Rd.i_forR ?_) | (with_reducible refine Rd.i_forL ?_) | (with_reducible refine Rd.i_forT ?_)
  | (with_reducible refine Hd.i_rU ?_) | (with_reducible refine Hd.i_pcons ?_) | (with_reducible refine Hd.i_pnil ?_) | (with_reducible refine Hd.i_disp ?_) | (with_reducible refine Hd.i_dget ?_)
  | (with_reducible refine Hd.i_lstRg ?_) | (with_reducible refine Hd.i_rg1 ?_) | (with_reducible refine Hd.i_rg2 ?_) | (with_reducible refine Hd.i_ex1 ?_) | (with_reducible refine Hd.i_ex2 ?_)
  | (with_reducible refine Rd.i_gtup (SqT.of (by first | assumption | exact upd_same)) (by with_unfolding_all exact rfl) ?_) | (with_reducible refine Rd.i_gcons ?_) | (with_reducible refine Rd.i_gnil ?_)
  | (with_reducible refine Rd.i_lenT (SqT.of (by first | assumption | exact upd_same)) ?_) | (with_reducible refine Rd.i_len (SqL.of (by first | assumption | exact upd_same)) ?_)
  | (with_reducible refine Nr.ite_eF (by first | decide +kernel | with_unfolding_all exact rfl) ?_) | (with_reducible refine Nr.ite_eT (by first | decide +kernel | with_unfolding_all exact rfl) ?_)
  | (with_reducible refine Nr.i_tyL (by first | assumption | exact upd_same) ?_)
  | (with_reducible refine Nr.i_tupT (SqT.of (by first | assumption | exact upd_same)) ?_)
  | (with_reducible refine Nr.i_sl ?_) | (with_reducible refine Nr.i_part ?_) | (with_reducible refine Nr.i_nop ?_) | (with_reducible refine Nr.i_star ?_)
  | fail "stop")
local macro_rules | `(tactic| walk_at "rd") => `(tactic| repeat walk_at "rd1")
section
variable {P : Program} {w : World} {K : PySem.W.Frag} {mg : Str → Option Value} {base : Heap}
open Evl Hd
theorem Kept.upd {H : Hp} {l D : Addr} {ts us : List V} {ns : List Str} {ls : List Li} {o : HO} (h : Kept H l ts ns ls) (hD : H D = some (.lst us)) : Kept (upd H D o) l ts ns ls := by
  refine ⟨?_, paired_mono (fun v y q => prT_mut q hD) h.prs, h.fms⟩
  rw [upd_ne fun (z : l = D) => by have := h.at_; rw [z, hD] at this; cases this]
  exact h.at_
theorem LtAt.hid {H : Hp} {ns : List Str} {v : V} {S : List Addr} (hS : ∀ a ∈ S, ∃ us, H a = some (.lst us)) : ∀ {li : Li}, LtAt H ns v li → LtAt (hid S H) ns v li := by
  have tp : ∀ {t xs}, H t = some (.tup xs) → Hd.hid S H t = some (.tup xs) := fun {t xs} e => hid_iff.mpr ⟨(fun z => by
    obtain ⟨us, hu⟩ := hS t z
    rw [e] at hu
    cases hu), e⟩
  intro li
  cases li with
  | case wy q => exact fun ⟨t, l, ts, h1, h2, h3, h4⟩ => ⟨t, l, ts, h1, tp h2, tp h3, paired_mono (fun _ _ ⟨a, b, c⟩ => ⟨a, b, tp c⟩) h4⟩
  | take q => exact fun ⟨t, h1, h2⟩ => ⟨t, h1, tp h2⟩
  | num w c q => exact fun ⟨t, h1, h2⟩ => ⟨t, h1, tp h2⟩
  | upto c a b => exact fun ⟨t, h1, h2⟩ => ⟨t, h1, tp h2⟩
  | fin w => exact fun ⟨t, h1, h2⟩ => ⟨t, h1, tp h2⟩
theorem pen_lst {H : Hp} {p q : Addr} {s : Int} (h : Pen H p q s) : ∀ a ∈ [p, q], ∃ us, H a = some (.lst us) := fun a ha => by
  obtain ⟨_, ns, h1, h2, _⟩ := h
  rcases List.mem_cons.mp ha with rfl | ha
  · exact ⟨_, h1⟩
  · rw [List.mem_singleton.mp ha]
    exact ⟨_, h2⟩
theorem Kept.pen {H : Hp} {p q l : Addr} {s : Int} {ts : List V} {ns : List Str} {ls : List Li} (h : Kept H l ts ns ls) (hp : Pen H p q s) : Kept (hid [p, q] H) l ts ns ls := by
  have hS := pen_lst hp
  have tp : ∀ {t xs}, H t = some (.tup xs) → Hd.hid [p, q] H t = some (.tup xs) := fun {t xs} e => hid_iff.mpr ⟨(fun z => by
    obtain ⟨us, hu⟩ := hS t z
    rw [e] at hu
    cases hu), e⟩
  exact ⟨tp h.at_, paired_mono (fun v y ⟨t, x, h1, h2, h3⟩ => ⟨t, x, h1, tp h2, h3.hid hS⟩) h.prs, h.fms⟩
theorem Rdr.pen {C : Addr} {H : Hp} {p q a tp : Addr} {s : Int} (h : Rdr C H a tp) (hp : Pen H p q s) : Rdr C (hid [p, q] H) a tp := by
  obtain ⟨dx, h⟩ := h
  refine ⟨dx, hid_iff.mpr ⟨fun z => ?_, h⟩⟩
  obtain ⟨us, hu⟩ := pen_lst hp a z
  rw [h] at hu
  cases hu
theorem Rdr.upd {C : Addr} {H : Hp} {a tp D : Addr} {us : List V} {o : HO} (h : Rdr C H a tp) (hD : H D = some (.lst us)) : Rdr C (upd H D o) a tp := by
  obtain ⟨dx, h⟩ := h
  refine ⟨dx, ?_⟩
  rw [upd_ne fun (z : a = D) => by rw [z, hD] at h; cases h]
  exact h
/-- a list that is not the pen changes -/
theorem Pen.lst {H : Hp} {p q D : Addr} {s : Int} {o : HO} (h : Pen H p q s) (hD : D ∉ [p, q]) : Pen (upd H D o) p q s := h.mut hD
theorem i_orT {ta tb : TE} {σ : L2.St} {H : Hp} {Q : VK} (q : ta σ H fun x H1 => ∃ k, TruV K x H1 k ∧ if k = true then Q x H1 else tb σ H1 Q) : tOrT K ta tb σ H Q := q
theorem ex_hid {S : List Addr} {H H' : Hp} (e : Ex H H') (n : ∀ b ∈ S, H b = none) : Ex H (hid S H') := fun b o h => hid_iff.mpr ⟨(fun z => by
  rw [n b z] at h
  cases h), e b o h⟩
theorem Kept.draw {H H' : Hp} {p q l : Addr} {s : Int} {ts : List V} {ns : List Str} {ls : List Li} (h : Kept H l ts ns ls) (hp : Pen H p q s) (b : But2 p q H H') : Kept H' l ts ns ls := ((h.pen hp).mono b.ex).mono hid_sub
theorem Rdr.draw {C : Addr} {H H' : Hp} {p q a tp : Addr} {s : Int} (h : Rdr C H a tp) (hp : Pen H p q s) (b : But2 p q H H') : Rdr C H' a tp := ((h.pen hp).mono b.ex).mono hid_sub
theorem i_catA {a b : Addr} {xs ys : List V} {H : Hp} {Q : VK} (ha : H a = some (.tup xs)) (hb : H b = some (.tup ys)) (hz : xs.length + ys.length ≤ 1000) (q : ∀ c H', Ex H H' → H' c = some (.tup (xs ++ ys)) → Q (.ref c) H') : rCatA K (.ref a) (.ref b) H Q :=
  ⟨a, b, xs, ys, rfl, rfl, SqT.of ha, SqT.of hb, Nat.le_trans hz (by decide), fun h => q b H (Ex.refl _) (by rw [h]; exact hb), fun _ h => q a H (Ex.refl _) (by rw [h, List.append_nil]; exact ha), fun _ _ c hc => q c _ (Ex.new hc) upd_same⟩
theorem i_slA {a : Addr} {xs : List V} {lo hi : Option Int} {H : Hp} {Q : VK} (h : H a = some (.tup xs)) (c : ¬ (HT.sIx xs.length 0 lo = 0 ∧ HT.sIx xs.length xs.length hi = xs.length)) (q : ∀ p, H p = none → Q (.ref p) (upd H p (.tup (cutV xs lo hi)))) : rSlA K (.ref a) lo hi H Q := ⟨a, xs, rfl, SqT.of h, fun z => absurd z c, fun _ => q⟩
theorem paired_set {α β : Type} {F : α → β → Prop} {l : List α} {m : List β} (h : Paired F l m) {x : α} {y : β} (r : F x y) : ∀ i : Nat, Paired F (l.set i x) (m.set i y) := by
  induction h with
  | nil => intro i; exact .nil
  | cons r' t ih =>
    intro i
    cases i with
    | zero => exact .cons r t
    | succ i => exact .cons r' (ih i)
theorem num_set (ls : List Li) (m : Nat) (li : Li) : numbered (ls.set m li) = (numbered ls).set m (m, li) := by
  apply List.ext_getElem?
  intro j
  by_cases hj : j < ls.length
  · have h1 : ∀ (l2 : List Li) (x : Li), l2[j]? = some x → (numbered l2)[j]? = some (j, x) := fun l2 x hx => by
      unfold numbered
      rw [List.getElem?_zip_eq_some]
      exact ⟨List.getElem?_range (List.getElem?_eq_some_iff.mp hx).1, hx⟩
    by_cases e : j = m
    · subst e
      rw [h1 _ li (List.getElem?_set_self hj), List.getElem?_set_self (by rw [num_len]; exact hj)]
    · rw [List.getElem?_set_ne (Ne.symm e), h1 ls _ (List.getElem?_eq_getElem hj)]
      exact h1 _ _ (by rw [List.getElem?_set_ne (Ne.symm e)]; exact List.getElem?_eq_getElem hj)
  · rw [List.getElem?_eq_none (by rw [num_len, List.length_set]; omega), List.getElem?_eq_none (by rw [List.length_set, num_len]; omega)]
def sgL : List Str := (Str.ofString "stuvwxyz").cps.toList.map fun c => strRep ⟨#[c]⟩ 12
theorem sgL_take {i c : Nat} (h : (Str.ofString "stuvwxyz").cps[i]? = some c) : sgL.take (i + 1) = sgL.take i ++ [strRep ⟨#[c]⟩ 12] := by
  have h2 : sgL[i]? = some (strRep ⟨#[c]⟩ 12) := by
    unfold sgL
    rw [List.getElem?_map, Array.getElem?_toList, h]
    rfl
  rw [List.take_succ, h2]
  rfl
theorem sgL_len : sgL.length = 8 := by decide +kernel
theorem sgL_lay : ∀ x ∈ sgL, PyData.canLay0 (.str x) = true := by decide +kernel
theorem odd_ok {ns : List Str} {n0 : Str} (h : ∀ x ∈ ns, Nm x) (h0 : Nm n0) : ∀ x ∈ (["", "A", n0 ++ strRep (Str.ofString "b") 12] : List Str), x ∉ ns ∧ PyData.canLay0 (.str x) = true := by
  intro x hx
  rcases List.mem_cons.mp hx with rfl | hx
  · exact ⟨fun hm => absurd (h _ hm).lo (by decide +kernel), by decide +kernel⟩
  rcases List.mem_cons.mp hx with rfl | hx
  · exact ⟨fun hm => absurd ((h _ hm).az 65 (by decide +kernel)) (by omega), by decide +kernel⟩
  · rw [List.mem_singleton.mp hx]
    have hb : (strRep (Str.ofString "b") 12).cps.toList = List.replicate 12 98 := by decide +kernel
    have hc : (n0 ++ strRep (Str.ofString "b") 12).cps.toList = n0.cps.toList ++ List.replicate 12 98 := by
      rw [← hb]
      exact Array.toList_append
    refine ⟨fun hm => ?_, az_lay fun c hcm => ?_⟩
    · have h1 := (h _ hm).hi
      have h2 : (n0 ++ strRep (Str.ofString "b") 12).length = n0.length + 12 := by
        show (n0 ++ strRep (Str.ofString "b") 12).cps.size = n0.cps.size + 12
        rw [← Array.length_toList, hc, List.length_append, List.length_replicate, Array.length_toList]
      have h3 := h0.lo
      omega
    · rw [hc] at hcm
      rcases List.mem_append.mp hcm with h | h
      · exact h0.az c h
      · rw [(List.mem_replicate.mp h).2]
        omega
theorem four_dp {K : PySem.W.Frag} {H : Hp} (x : Str) : DpAll K H [.str "none", .str x, .bl true, .bl true] [.str "none", .str x, .bool true, .bool true] := .cons (.str _) (.cons (.str _) (.cons (.bl _) (.cons (.bl _) .nil)))
theorem four_sh {x : Str} (h : PyData.canLay0 (.str x) = true) : SeqAt.shaped (.tuple [.str "none", .str x, .bool true, .bool true]) = true := by
  have h1 : PyData.canLay0 (.tuple [.str "none", .str x, .bool true, .bool true]) = true := lay_cons (by decide +kernel) (lay_cons h (lay_cons rfl (lay_cons rfl rfl)))
  unfold SeqAt.shaped
  rw [h1]
  rfl
def spLaw (K : PySem.W.Frag) : Sp := fun vs H Q _ => ∃ (a : Addr) (ns : List Int), vs = [.ref a] ∧ SqL K H a (ns.map V.int) ∧ ns.length ≤ 63 ∧ ∀ H', Q (.bl true) H'
theorem ok_law (T : Ltx w K mg) {f : Addr} {fd : FuncData} (F : Fun K "law" "law" s_law f fd) : FnOk P w K mg base CX0 12 f fd ["_law_script"] (spLaw K) := by
  refine F.ok sc_law (fun vs H Q E h => ?_) (fun cdv A outer s H vs Q E hr h => ?_)
  · obtain ⟨a, ns, rfl, _⟩ := h
    rfl
  · obtain ⟨a, ns, rfl, ha, hn, k⟩ := h
    refine ⟨_, (Evl.pss_cut (ps_set (i := 1) sc_law.nd rfl (Or.inl rfl) (pe_lst (pa_cons (pe_orT (pe_callTy call_list_of (by rfl) T.p.z_list (by decide +kernel) (pa_cons (pv 0) pa_nil)) (pe_one (pe_lst (pa_cons pe_int pa_nil)))) (pa_cons pe_int pa_nil))))
      (pss_cons (ps_for PassesOwn.never rfl (pi_range1 (by rfl) T.g.z_range (pa_cons (pe_callB (call_max2 rfl) (by rfl) T.g.z_max (by decide +kernel) (pa_cons pe_int (pa_cons (pe_callB (call_min2 rfl) (by rfl) T.g.z_min (by decide +kernel) (pa_cons pe_int (pa_cons (pe_callB call_len_seq (by rfl) T.p.z_len (by decide +kernel) (pa_cons (pv 0) pa_nil)) pa_nil))) pa_nil))) pa_nil)) (pg_name (i := 2) sc_law.nd rfl (Or.inl rfl))
        (pss_cons (ps_set (i := 3) sc_law.nd rfl (Or.inl rfl) (pe_call (ok_law_lines T.g) (hr.mono (by decide)) rfl T.g.m_law_lines T.g.F_law_lines.kp T.g.b_law_lines .nil pass0 (pa_cons (pv 1) (pa_cons pe_int pa_nil))))
        (pss_cons (ps_set (i := 4) sc_law.nd rfl (Or.inl rfl) (pe_call (ok_law_tidy T) (hr.mono (by decide)) rfl T.m_law_tidy T.F_law_tidy.kp T.b_law_tidy .nil pass0 (pa_cons (pv 3) pa_nil)))
        (pss_cons (ps_set (i := 5) sc_law.nd rfl (Or.inl rfl) (pe_make T.p.mk_Reader (ok_Reader___init T.p) (hr.mono (by decide)) rfl T.p.m_Reader T.p.b_Reader___init .nil pass0 (pa_cons (pv 3) pa_nil)))
        (Evl.pss_cut (ps_if (pt_cmpR op_eq (pe_ix ix_tup (pe_ix ix_tup (pe_ix ix_list (pv 3) pe_int (fun _ _ => rfl)) pe_int (fun _ _ => rfl)) pe_int (fun _ _ => rfl)) pe_str (nomark _))
          (pss_one (ps_expr (pe_bm PySem.F.plainAttrs_list PySem.F.slot_list_append PySem.F.type_list_append mt_append (pe_ix ix_tup (pe_ix ix_tup (pe_ix ix_list (pv 3) pe_int (fun _ _ => rfl)) pe_int (fun _ _ => rfl)) pe_int (fun _ _ => rfl)) (pa_cons (pe_tup (pa_cons pe_int (pa_cons pe_str pa_nil))) pa_nil))))
          pss_nil)
        (pss_cons (ps_expr (pe_bm PySem.F.plainAttrs_list PySem.F.slot_list_append PySem.F.type_list_append mt_append (pv 3) (pa_cons (pe_tup (pa_cons pe_str (pa_cons (pe_tup (pa_cons pe_str pa_nil)) pa_nil))) pa_nil)))
        (pss_cons (ps_set (i := 6) sc_law.nd rfl (Or.inl rfl) (pe_meth0 (pv 5) T.p.cl_Reader T.p.h_Reader_names (ok_Reader_names T.p) (hr.mono (by decide)) T.p.b_Reader_names .nil pass0))
        (pss_cons (ps_expr (pe_bm PySem.F.plainAttrs_list PySem.F.slot_list_append PySem.F.type_list_append mt_append (pv 6) (pa_cons pe_str pa_nil)))
        (pss_cons (ps_set (i := 6) sc_law.nd rfl (Or.inl rfl) (pe_meth (pv 5) T.p.cl_Reader T.p.h_Reader_exits (ok_Reader_exits T.p) (hr.mono (by decide)) T.p.b_Reader_exits .nil passL (pa_cons (pe_ix ix_tup (pe_ix ix_tup (pv 4) pe_int (fun _ _ => rfl)) pe_int (fun _ _ => rfl)) pa_nil)))
        (pss_cons (ps_expr (pe_bm PySem.F.plainAttrs_list PySem.F.slot_list_append PySem.F.type_list_append mt_append (pv 6) (pa_cons pe_str pa_nil)))
        (pss_cons (ps_if (pt_not (pt_val (pe_call (ok_law_keeps T) (hr.mono (by decide)) rfl T.m_law_keeps T.F_law_keeps.kp T.b_law_keeps .nil pass0 (pa_cons (pv 5) (pa_cons (pv 4) pa_nil)))))
          (pss_one (ps_ret pe_bl))
          pss_nil)
        (pss_cons (ps_set (i := 7) sc_law.nd rfl (Or.inl rfl) (pe_call (ok_law_draw T.g) (hr.mono (by decide)) rfl T.g.m_law_draw T.g.F_law_draw.kp T.g.b_law_draw .nil pass0 (pa_cons (pv 1) (pa_cons (pe_callB call_len_seq (by rfl) T.p.z_len (by decide +kernel) (pa_cons (pv 4) pa_nil)) pa_nil))))
        (pss_cons (ps_set (i := 8) sc_law.nd rfl (Or.inl rfl) (pe_ix ix_tup (pe_ix ix_tup (pv 4) (pv 7) (fun _ _ => rfl)) pe_int (fun _ _ => rfl)))
        (pss_cons (ps_set (i := 9) sc_law.nd rfl (Or.inl rfl) (pe_tup (pa_cons pe_str (pa_cons (pe_op op_add pe_int (pe_call (ok_law_draw T.g) (hr.mono (by decide)) rfl T.g.m_law_draw T.g.F_law_draw.kp T.g.b_law_draw .nil pass0 (pa_cons (pv 1) (pa_cons pe_int pa_nil)))) (pa_cons (pe_ix ix_tup (pe_ix ix_tup (pv 4) (pe_call (ok_law_draw T.g) (hr.mono (by decide)) rfl T.g.m_law_draw T.g.F_law_draw.kp T.g.b_law_draw .nil pass0 (pa_cons (pv 1) (pa_cons (pe_callB call_len_seq (by rfl) T.p.z_len (by decide +kernel) (pa_cons (pv 4) pa_nil)) pa_nil))) (fun _ _ => rfl)) pe_int (fun _ _ => rfl)) pa_nil)))))
        (pss_cons (ps_set (i := 10) sc_law.nd rfl (Or.inl rfl) (pe_meth (pv 5) T.p.cl_Reader T.p.h_Reader_replaced (ok_Reader_replaced T.p) (hr.mono (by decide)) T.p.b_Reader_replaced .nil passL (pa_cons (pv 8) (pa_cons (pv 9) pa_nil))))
        (pss_cons (ps_set (i := 11) sc_law.nd rfl (Or.inl rfl) (pe_op op_catA (pe_op op_catA (pe_slice sl_tupA (pv 4) po_none (po_some (pv 7))) (pe_tup (pa_cons (pe_tup (pa_cons (pv 8) (pa_cons (pv 9) pa_nil))) pa_nil))) (pe_slice sl_tupA (pv 4) (po_some (pe_op op_add (pv 7) pe_int)) po_none)))
        (pss_cons (ps_if (PW.pt (pw_or (pt_not (pt_val (pe_call (ok_law_keeps T) (hr.mono (by decide)) rfl T.m_law_keeps T.F_law_keeps.kp T.b_law_keeps .nil pass0 (pa_cons (pv 10) (pa_cons (pv 11) pa_nil))))) (pw_or1 (pt_not (pt_val (pe_call (ok_law_keeps T) (hr.mono (by decide)) rfl T.m_law_keeps T.F_law_keeps.kp T.b_law_keeps .nil pass0 (pa_cons (pv 5) (pa_cons (pv 4) pa_nil))))))))
          (pss_one (ps_ret pe_bl))
          pss_nil)
        (Evl.pss_cut (ps_if (PW.pt (pw_or (pt_cmpR op_ne (pe_cmpR (Oq.op_eqOwn (ok_Reader___eq T.p T.z) T.hs T.hf T.p.b_Reader___eq pass0 (hr.mono (by decide)) T.nt) (pv 5) (pv 10) (nomark _)) (pe_cmpR (op_eqD hr.units) (pv 4) (pv 11) (nomark _)) (nomark _)) (pw_or (pt_not (pt_cmpR (Oq.op_eqOwn (ok_Reader___eq T.p T.z) T.hs T.hf T.p.b_Reader___eq pass0 (hr.mono (by decide)) T.nt) (pv 5) (pe_make T.p.mk_Reader (ok_Reader___init T.p) (hr.mono (by decide)) rfl T.p.m_Reader T.p.b_Reader___init .nil pass0 (pa_cons (pe_callTy call_list_of (by rfl) T.p.z_list (by decide +kernel) (pa_cons (pv 4) pa_nil)) pa_nil)) (nomark _))) (pw_or1 (pt_cmpR (Oq.op_eqOwn (ok_Reader___eq T.p T.z) T.hs T.hf T.p.b_Reader___eq pass0 (hr.mono (by decide)) T.nt) (pv 5) (pv 4) (nomark _))))))
          (pss_one (ps_ret pe_bl))
          pss_nil)
        (pss_cons (ps_set (i := 12) sc_law.nd rfl (Or.inr rfl) (pe_lc (g := gTup K 2 (gCons (gName 8) (gCons (gName 13) gNil))) rfl sc_law.nd (pi_tup (pv 4)) (blkOk_by (own := [("_law_name", 8), ("_law_line_here", 13)]) (N := ["_law_script", "_law_pen", "_law_turn", "_law_lines_here", "_law_due", "_law_reader", "_law_told", "_law_at", "_law_name", "_law_fresh", "_law_other", "_law_changed", "_law_names_here", "_law_line_here", "_law_strange", "_law_word_here", "_law_sign", "_law_way"]) (sc := defScope s_law) (by decide +kernel)) (fun _ _ _ _ _ => (pg_tup (by rfl) (pgs_cons (pg_name (i := 8) sc_law.nd rfl (Or.inl rfl)) (pgs_cons (pg_name (i := 13) sc_law.nd rfl (Or.inl rfl)) pgs_nil)))) (fun _ _ _ _ _ => pts_nil) (fun _ _ _ _ _ => (pv 8))))
        (pss_cons (ps_setLc (tt := tTest (tOp (rIn K true) (tVar 15) (tVar 12))) (i := 14) rfl sc_law.nd rfl rfl (sw_true rfl rfl rfl (by decide +kernel)) (pi_list (pe_lc rfl sc_law.nd (pi_str pe_str) (blkOk_by (own := [("_law_sign", 16)]) (N := ["_law_script", "_law_pen", "_law_turn", "_law_lines_here", "_law_due", "_law_reader", "_law_told", "_law_at", "_law_name", "_law_fresh", "_law_other", "_law_changed", "_law_names_here", "_law_line_here", "_law_strange", "_law_word_here", "_law_sign", "_law_way"]) (sc := defScope s_law) (by decide +kernel)) (fun _ _ _ _ _ => (pg_name (i := 16) sc_law.nd rfl (Or.inl rfl))) (fun _ _ _ _ _ => pts_nil) (fun _ _ _ _ _ => (pe_op Hd.op_mulS (pv 16) pe_int)))) (blkOk_by (own := [("_law_word_here", 15)]) (N := ["_law_script", "_law_pen", "_law_turn", "_law_lines_here", "_law_due", "_law_reader", "_law_told", "_law_at", "_law_name", "_law_fresh", "_law_other", "_law_changed", "_law_names_here", "_law_line_here", "_law_strange", "_law_word_here", "_law_sign", "_law_way"]) (sc := defScope s_law) (by decide +kernel)) (fun _ _ _ _ _ => (pg_name (i := 15) sc_law.nd rfl (Or.inl rfl))) (fun _ _ _ _ _ => (pts_one (pt_cmpR op_notIn_seq (pv 15) (pv 12) (by rfl)))) (fun _ _ _ _ _ => (pv 15)))
        (pss_cons (ps_set (i := 14) sc_law.nd rfl (Or.inl rfl) (pe_call (ok_law_pick T.g) (hr.mono (by decide)) rfl T.g.m_law_pick T.g.F_law_pick.kp T.g.b_law_pick .nil pass0 (pa_cons (pv 1) (pa_cons (pe_op op_cat (pv 14) (pe_lst (pa_cons pe_str (pa_cons pe_str (pa_cons (pe_op op_add_str (pe_ix ix_tup (pe_ix ix_tup (pv 4) pe_int (fun _ _ => rfl)) pe_int (fun _ _ => rfl)) (pe_op Hd.op_mulS pe_str pe_int)) pa_nil))))) pa_nil))))
        (pss_one (ps_for PassesOwn.never rfl (pi_range1 (by rfl) T.g.z_range (pa_cons pe_int pa_nil)) (pg_name (i := 17) sc_law.nd rfl (Or.inl rfl))
          (pss_one (ps_if (pt_cmpR (op_neD hr.units) (pe_call (ok_law_asked T) (hr.mono (by decide)) rfl T.m_law_asked T.F_law_asked.kp T.b_law_asked .nil pass0 (pa_cons (pv 5) (pa_cons (pv 17) (pa_cons (pv 14) pa_nil)))) (pe_tup (pa_cons pe_str (pa_cons (pv 14) (pa_cons pe_bl (pa_cons pe_bl pa_nil))))) (nomark _))
            (pss_one (ps_ret pe_bl))
            pss_nil)))))))))))))))))))))))))
      (pss_one (ps_ret pe_bl)))), ?_⟩
    have hS : start ["_law_script", "_law_pen", "_law_turn", "_law_lines_here", "_law_due", "_law_reader", "_law_told", "_law_at", "_law_name", "_law_fresh", "_law_other", "_law_changed", "_law_names_here", "_law_line_here", "_law_strange", "_law_word_here", "_law_sign", "_law_way"] [V.ref a] = [some (.ref a), none, none, none, none, none, none, none, none, none, none, none, none, none, none, none, none, none] := rfl
    rw [hS]
    refine Evl.q_cut (M := fun σ H' => ∃ p q, σ = [some (.ref a), some (.ref p), none, none, none, none, none, none, none, none, none, none, none, none, none, none, none, none] ∧ Pen H' p q 0 ∧ SqL K (hid [p, q] H') a (ns.map V.int)) ?_ (fun σ H1 hM => ?_)
    · walk_at "rd"
      refine i_orT ?_
      walk_at "rd"
      refine Rd.i_len ha ?_
      intro l nl
      refine ⟨!((ns.map V.int)).isEmpty, .inl ⟨_, SqL.of upd_same, rfl⟩, ?_⟩
      cases ns with
      | nil =>
        refine Rd.ite_F ?_
        walk_at "rd"
        refine ⟨by show 1 ≤ sizeLine; decide, fun z nz => ?_⟩
        walk_at "rd"
        refine ⟨by show 2 ≤ sizeLine; decide, fun p np => ?_⟩
        walk_at "rd"
        have e1 := (Ex.new (o := .lst []) nl).trans (Ex.new (o := .lst [.int 0]) nz)
        have e2 : Ex (upd (upd H l (.lst [])) z (.lst [.int 0])) (upd (upd (upd H l (.lst [])) z (.lst [.int 0])) p (.lst [.ref z, .int 0])) := Ex.new np
        have hp : Pen (upd (upd (upd H l (.lst [])) z (.lst [.int 0])) p (.lst [.ref z, .int 0])) p z 0 := ⟨by omega, [0], upd_same, e2 _ _ upd_same, by decide, by decide⟩
        refine ⟨p, z, rfl, hp, ex_l (ex_hid (e1.trans e2) fun b hb => ?_) ha⟩
        rcases List.mem_cons.mp hb with rfl | hb
        · exact fresh_back e1 np
        · rw [List.mem_singleton.mp hb]
          exact fresh_back (Ex.new nl) nz
      | cons x r =>
        refine Rd.ite_T ?_
        walk_at "rd"
        refine ⟨by show 2 ≤ sizeLine; decide, fun p np => ?_⟩
        walk_at "rd"
        have e2 : Ex (upd H l (.lst ((x :: r).map V.int))) (upd (upd H l (.lst ((x :: r).map V.int))) p (.lst [.ref l, .int 0])) := Ex.new np
        have hp : Pen (upd (upd H l (.lst ((x :: r).map V.int))) p (.lst [.ref l, .int 0])) p l 0 := ⟨by omega, x :: r, upd_same, e2 _ _ upd_same, by simp, by omega⟩
        refine ⟨p, l, rfl, hp, ex_l (ex_hid ((Ex.new nl).trans e2) fun b hb => ?_) ha⟩
        rcases List.mem_cons.mp hb with rfl | hb
        · exact fresh_back (Ex.new nl) np
        · rw [List.mem_singleton.mp hb]
          exact nl
    obtain ⟨p, q, rfl, hpen, hSq⟩ := hM
    walk_at "rd"
    refine Rd.i_len (ex_l hid_sub hSq) ?_
    walk_at "rd"
    have hb3 : ∀ n : Int, (if (if n < 3 then n else 3) > 1 then (if n < 3 then n else 3) else 1) ≤ 3 ∧ 1 ≤ (if (if n < 3 then n else 3) > 1 then (if n < 3 then n else 3) else 1) := fun n => by
      constructor <;> (repeat' split) <;> omega
    obtain ⟨hb1, hb2⟩ := hb3 ((ns.map V.int).length : Int)
    refine Rd.forR (Int.le_trans (by decide) hb2) (Int.lt_of_le_of_lt hb1 (by decide)) (fun i σ H2 => ∃ (u2 u3 u4 u5 u6 u7 u8 u9 u10 u11 u12 u13 u14 u15 u16 u17 : Option V) (s' : Int), σ = [some (.ref a), some (.ref p), u2, u3, u4, u5, u6, u7, u8, u9, u10, u11, u12, u13, u14, u15, u16, u17] ∧ Pen H2 p q s' ∧ s' ≤ 100000 * i) ⟨_, _, _, _, _, _, _, _, _, _, _, _, _, _, _, _, 0, rfl, hpen, by omega⟩ ?_ ?_
    · rintro i _ H2 hi ⟨u2, u3, u4, u5, u6, u7, u8, u9, u10, u11, u12, u13, u14, u15, u16, u17, s0, rfl, pen2, hs0⟩
      have hi3 : i < 3 := by omega
      clear hb1 hb2 hb3
      walk_at "rd"
      refine ⟨p, q, s0, rfl, pen2, by omega, fun l ts ns ws ls s1 H3 hD hl hts nl lo1 hi1 pen3 ex3 => ?_⟩
      have hF := hD.fms
      walk_at "rd"
      refine ⟨l, ts, ns, ls, rfl, hid_get hl, paired_mono (fun v y h => h.mono hid_sub) hts, hF, fun du us H4 ex4 hdu => ?_⟩
      walk_at "rd"
      refine i_make ?_
      walk_at "rd"
      intro rd dxr hrd hdxr hne
      have em : Ex H4 (upd (upd H4 dxr (.own rd)) rd (.ins T.p.c_Reader dxr [])) := (Ex.new (o := .own rd) hdxr).trans (Ex.new (by rw [upd_ne (Ne.symm hne)]; exact hrd))
      have hl4 := ex4 _ _ (hid_get hl)
      have hts3 : Paired (PairAt H3 ns) ts (numbered ls) := paired_mono (fun v y h => h.mono hid_sub) hts
      refine ⟨rd, dxr, l, ts, ns, ws, ls, rfl, upd_same, em _ _ hl4, paired_mono (fun v y h => ?_) hts3, hD, fun tp vs H5 ex5 hR hK => ⟨rfl, ?_⟩⟩
      · obtain ⟨t, x, h1, h2, h3⟩ := h.mono (ex4.trans em)
        exact ⟨t, x, h1, h2, h3.ln⟩
      have e45 : Ex H4 H5 := fun c o hc => by
        have hcb : c ≠ rd := ne_of_none hc hrd
        exact hid_get (ex5 _ _ (hid_iff.mpr ⟨fun z => hcb (List.mem_singleton.mp z), em _ _ hc⟩))
      have pen5 := (pen3.ex ex4).ex e45
      have hdu5 := hdu.mono e45
      have hl5 := e45 _ _ hl4
      have lpq : l ∉ [p, q] := nin hl
      have h0 : 0 < ts.length := by rw [paired_len hts, num_len]; exact hF.pos
      refine Rd.i_name ?_
      refine Evl.q_cut (M := fun σ H' => σ = [some (.ref a), some (.ref p), some (.int i), some (.ref l), some (.ref du), some (.ref rd), u6, u7, u8, u9, u10, u11, u12, u13, u14, u15, u16, u17] ∧ Pen H' p q s1 ∧ H' l = some (.lst ts) ∧ Rdr T.p.c_Reader H' rd tp ∧ Kept H' tp vs ns ls ∧ Kept H' du us ns ls) ?_ (fun σ H6 hM => ?_)
      · obtain ⟨⟨j, l0⟩, hj, t0, x0, e0, ht0, hx0⟩ := paired_get hts (List.getElem?_eq_getElem h0)
        have ht5 := e45 _ _ (ex4 _ _ (hid_get ht0))
        have hfm := hF.fm l0 (List.mem_of_getElem? (num_get hj).2)
        have up : ∀ {b : Addr} {o : HO}, hid [p, q] H3 b = some o → H5 b = some o := fun h => e45 _ _ (ex4 _ _ (hid_get h))
        have g0 : ts[0]? = some (.ref t0) := by rw [List.getElem?_eq_getElem h0, e0]
        walk_at "rd"
        refine Rd.i_ixL (SqL.of hl5) (atI_nat (j := 0) g0) ?_
        walk_at "rd"
        cases l0 with
        | case wy o =>
          obtain ⟨t1, wl, wts, rfl, ht1, hwl, hwt⟩ := hx0
          have ht15 := up ht1
          have hwl5 := up hwl
          have wlpq : wl ∉ [p, q] := nin hwl
          have wll : wl ≠ l := fun e => by
            rw [e, hl5] at hwl5
            cases hwl5
            obtain ⟨y, _, b, eb, hb⟩ := paired_get hwt g0
            cases eb
            have := up hb
            rw [ht5] at this
            cases this
          walk_at "rd"
          refine Rd.i_ixL (SqL.of hl5) (atI_nat (j := 0) g0) ?_
          walk_at "rd"
          refine ⟨by show 2 ≤ sizeLine; decide, fun z nz => ?_⟩
          have e6 : Ex H5 (upd H5 z (.tup [.int 9, .str "spoiled"])) := Ex.new nz
          have hwl6 := e6 _ _ hwl5
          walk_at "rd"
          refine Rd.i_append hwl6 (small1000 (by rw [paired_len hwt]; have := hfm.2.2; omega)) ?_
          walk_at "rd"
          exact ⟨rfl, (pen5.ex e6).mut wlpq, by rw [upd_ne (Ne.symm wll)]; exact e6 _ _ hl5, (hR.mono e6).upd hwl6, (hK.mono e6).upd hwl6, (hdu5.mono e6).upd hwl6⟩
        | take o =>
          obtain ⟨t1, rfl, ht1⟩ := hx0
          have ht15 := up ht1
          walk_at "rd"
          exact ⟨rfl, pen5, hl5, hR, hK, hdu5⟩
        | num x c o =>
          obtain ⟨t1, rfl, ht1⟩ := hx0
          have ht15 := up ht1
          walk_at "rd"
          refine Rd.ite_d (fun h => absurd (V.str.inj h) (num_ne hfm).1) (fun _ => ?_)
          walk_at "rd"
          exact ⟨rfl, pen5, hl5, hR, hK, hdu5⟩
        | upto c a b =>
          obtain ⟨t1, rfl, ht1⟩ := hx0
          have ht15 := up ht1
          walk_at "rd"
          exact ⟨rfl, pen5, hl5, hR, hK, hdu5⟩
        | fin x =>
          obtain ⟨t1, rfl, ht1⟩ := hx0
          have ht15 := up ht1
          walk_at "rd"
          refine Rd.ite_d (fun h => absurd (V.str.inj h) (fin_case hfm).1) (fun _ => ?_)
          walk_at "rd"
          exact ⟨rfl, pen5, hl5, hR, hK, hdu5⟩
      obtain ⟨rfl, pen6, hl6, hR6, hK6, hdu6⟩ := hM
      have h8 := hF.most
      have htl : ts.length = ls.length := by rw [paired_len hts, num_len]
      walk_at "rd"
      refine ⟨by show 1 ≤ sizeLine; decide, fun z1 nz1 => ?_⟩
      walk_at "rd"
      refine ⟨by show 2 ≤ sizeLine; decide, fun z2 nz2 => ?_⟩
      have e67 := (Ex.new (o := .tup [.str "cut"]) nz1).trans (Ex.new (o := .tup [.str "spoiled", .ref z1]) nz2)
      have hl7 := e67 _ _ hl6
      walk_at "rd"
      refine Rd.i_append hl7 (small1000 (by omega)) ?_
      have pen7 := (pen6.ex e67).mut (o := .lst (ts ++ [.ref z2])) lpq
      have hR7 := (hR6.mono e67).upd (o := .lst (ts ++ [.ref z2])) hl7
      have hK7 := (hK6.mono e67).upd (o := .lst (ts ++ [.ref z2])) hl7
      have hdu7 := (hdu6.mono e67).upd (o := .lst (ts ++ [.ref z2])) hl7
      generalize upd (upd (upd H6 z1 (.tup [.str "cut"])) z2 (.tup [.str "spoiled", .ref z1])) l (.lst (ts ++ [.ref z2])) = H7 at pen7 hR7 hK7 hdu7
      have hn0 : 0 < ns.length := by rw [hF.len]; exact hF.pos
      have hul : us.length = ls.length := hdu7.len
      have hnl : ns.length = ls.length := hF.len
      walk_at "rd"
      refine i_meth ?_
      walk_at "rd"
      obtain ⟨dx7, hdx7⟩ := id hR7
      refine ⟨rd, dx7, _, rfl, hdx7, by with_unfolding_all rfl, ?_⟩
      refine ⟨rd, tp, vs, ns, ls, rfl, hR7, hK7, fun l8 H8 ex8 nl8 hl8 => ?_⟩
      walk_at "rd"
      refine Rd.i_append hl8 (small1000 (by rw [List.length_map]; omega)) ?_
      have pen9 := (pen7.ex ex8).mut (o := .lst (ns.map V.str ++ [.str "spoiled"])) (pen7.new nl8)
      have hR9 := (hR7.mono ex8).upd (o := .lst (ns.map V.str ++ [.str "spoiled"])) hl8
      have hK9 := (hK7.mono ex8).upd (o := .lst (ns.map V.str ++ [.str "spoiled"])) hl8
      have hdu9 := (hdu7.mono ex8).upd (o := .lst (ns.map V.str ++ [.str "spoiled"])) hl8
      generalize upd H8 l8 (.lst (ns.map V.str ++ [.str "spoiled"])) = H9 at pen9 hR9 hK9 hdu9
      obtain ⟨dx9, hdx9⟩ := id hR9
      have gu : 0 < us.length := by rw [hul]; exact hF.pos
      obtain ⟨tu, yu, lu, eu, htu, _, _, _, _⟩ := hdu9.get (List.getElem?_eq_getElem gu)
      have gu0 : us[0]? = some (.ref tu) := by rw [List.getElem?_eq_getElem gu, eu]
      walk_at "rd"
      refine i_meth ?_
      walk_at "rd"
      refine ⟨rd, dx9, _, rfl, hdx9, by with_unfolding_all rfl, ?_⟩
      walk_at "rd"
      refine Rd.i_ixT (SqT.of hdu9.at_) (atI_nat (j := 0) gu0) ?_
      walk_at "rd"
      refine ⟨rd, tp, vs, ns, ls, wAt ns 0, rfl, hR9, hK9, fun i0 li0 l10 H10 hli0 _ _ ex10 nl10 hl10 => ?_, fun h => absurd (wAt_mem hn0) h⟩
      have hdl : (dd (gS ns li0)).length ≤ 6 := Nat.le_trans (dd_len _) (by unfold gS; rw [List.length_map]; exact liG_len (hF.fm _ (List.mem_of_getElem? hli0)))
      walk_at "rd"
      refine Rd.i_append hl10 (small1000 (by rw [List.length_map]; omega)) ?_
      have pen11 := (pen9.ex ex10).mut (o := .lst ((dd (gS ns li0)).map V.str ++ [.str "spoiled"])) (pen9.new nl10)
      have hR11 := (hR9.mono ex10).upd (o := .lst ((dd (gS ns li0)).map V.str ++ [.str "spoiled"])) hl10
      have hK11 := (hK9.mono ex10).upd (o := .lst ((dd (gS ns li0)).map V.str ++ [.str "spoiled"])) hl10
      have hdu11 := (hdu9.mono ex10).upd (o := .lst ((dd (gS ns li0)).map V.str ++ [.str "spoiled"])) hl10
      generalize upd H10 l10 (.lst ((dd (gS ns li0)).map V.str ++ [.str "spoiled"])) = H11 at pen11 hR11 hK11 hdu11
      walk_at "rd"
      refine ⟨rd, tp, du, vs, us, ns, ls, rfl, hR11, hK11, hdu11, fun H12 ex12 => ?_⟩
      have hu12 := (hdu11.mono ex12).at_
      have pen12 := pen11.ex ex12
      walk_at "rd"
      refine i_draw pen12 (by omega) (by omega) (by omega) (fun r H13 lo13 hi13 pen13 b13 => ?_)
      have hR13 := (hR11.mono ex12).draw pen12 b13
      have hK13 := (hK11.mono ex12).draw pen12 b13
      have hdu13 := (hdu11.mono ex12).draw pen12 b13
      obtain ⟨m, rfl⟩ : ∃ m : Nat, r = (m : Int) := ⟨r.toNat, by omega⟩
      have hm : m < us.length := by omega
      obtain ⟨tm, ym, lm, em', htm, hym, hlm, hmn, hfm⟩ := hdu13.get (List.getElem?_eq_getElem hm)
      have gm : us[m]? = some (.ref tm) := by rw [List.getElem?_eq_getElem hm, em']
      walk_at "rd"
      refine Rd.i_ixT (SqT.of hdu13.at_) (atI_nat (j := m) gm) ?_
      walk_at "rd"
      refine i_draw pen13 (by omega) (by omega) (by omega) (fun c H14 lo14 hi14 pen14 b14 => ?_)
      have hR14 := hR13.draw pen13 b14
      have hK14 := hK13.draw pen13 b14
      have hdu14 := hdu13.draw pen13 b14
      have hu14 := hdu14.at_
      walk_at "rd"
      refine i_draw pen14 (by omega) (by omega) (by omega) (fun g0 H15 lo15 hi15 pen15 b15 => ?_)
      have hR15 := hR14.draw pen14 b15
      have hK15 := hK14.draw pen14 b15
      have hdu15 := hdu14.draw pen14 b15
      obtain ⟨g, rfl⟩ : ∃ g : Nat, g0 = (g : Int) := ⟨g0.toNat, by omega⟩
      have hg : g < us.length := by omega
      obtain ⟨tg, yg, lg, eg', htg, _, _, _, _⟩ := hdu15.get (List.getElem?_eq_getElem hg)
      have gg : us[g]? = some (.ref tg) := by rw [List.getElem?_eq_getElem hg, eg']
      refine Rd.i_ixT (SqT.of hdu15.at_) (atI_nat (j := g) gg) ?_
      walk_at "rd"
      refine ⟨by show 3 ≤ sizeLine; decide, fun fr nfr => ?_⟩
      have e16 : Ex H15 (upd H15 fr (.tup [.str "jump", .int (1 + c), .str (wAt ns g)])) := Ex.new nfr
      have hfr : LtAt (upd H15 fr (.tup [.str "jump", .int (1 + c), .str (wAt ns g)])) ns (.ref fr) (.num "jump" (1 + c) g) := ⟨fr, rfl, upd_same⟩
      have hD2 := hD.jump (i := m) (g := g) (c := 1 + c) (by omega) (by omega) (by omega) (by omega)
      have pen16 := pen15.ex e16
      have hR16 := hR15.mono e16
      have hK16 := hK15.mono e16
      have hdu16 := hdu15.mono e16
      walk_at "rd"
      refine i_meth ?_
      walk_at "rd"
      obtain ⟨dx16, hdx16⟩ := id hR16
      refine ⟨rd, dx16, _, rfl, hdx16, by with_unfolding_all rfl, ?_⟩
      walk_at "rd"
      refine ⟨rd, tp, vs, ns, ls, wAt ns m, .ref fr, rfl, hR16, hK16, fun _ => ⟨m, ws.set m "jump", .num "jump" (1 + c) g, hmn, rfl, hfr, hD2, fun ot tp2 vs2 H17 ex17 hR17 hK17 => ?_⟩, fun h => absurd (wAt_mem hmn) h⟩
      have hfr17 := hfr.mono ex17
      have pen17 := pen16.ex ex17
      have hR17a := hR16.mono ex17
      have hK17a := hK16.mono ex17
      have hdu17 := hdu16.mono ex17
      have hF2 := hD2.fms
      walk_at "rd"
      refine i_slA hdu17.at_ (fun h => ?_) (fun c1 nc1 => ?_)
      · have h2 : min m us.length = us.length := h.2
        omega
      have hc1 : cutV us none (some (m : Int)) = us.take m := by
        show (us.drop 0).take (min m us.length - 0) = _
        rw [List.drop_zero, Nat.min_eq_left (by omega), Nat.sub_zero]
      rw [hc1]
      have e18 : Ex H17 (upd H17 c1 (.tup (us.take m))) := Ex.new nc1
      walk_at "rd"
      refine ⟨by show 2 ≤ sizeLine; decide, fun tn ntn => ?_⟩
      have e19 : Ex (upd H17 c1 (.tup (us.take m))) (upd (upd H17 c1 (.tup (us.take m))) tn (.tup [.str (wAt ns m), .ref fr])) := Ex.new ntn
      walk_at "rd"
      refine ⟨by show 1 ≤ sizeLine; decide, fun to nto => ?_⟩
      have e20 : Ex (upd (upd H17 c1 (.tup (us.take m))) tn (.tup [.str (wAt ns m), .ref fr])) (upd (upd (upd H17 c1 (.tup (us.take m))) tn (.tup [.str (wAt ns m), .ref fr])) to (.tup [.ref tn])) := Ex.new nto
      have hc20 := (e19.trans e20) _ _ (upd_same (H := H17) (a := c1) (o := .tup (us.take m)))
      have htn20 := e20 _ _ (upd_same (H := upd H17 c1 (.tup (us.take m))) (a := tn) (o := .tup [.str (wAt ns m), .ref fr]))
      refine i_catA hc20 upd_same (by rw [List.length_take]; show _ + 1 ≤ 1000; omega) (fun c2 H21 ex21 hc2 => ?_)
      have e17_21 := (e18.trans (e19.trans e20)).trans ex21
      have hdu21 := hdu17.mono e17_21
      walk_at "rd"
      refine i_slA hdu21.at_ (fun h => ?_) (fun c3 nc3 => ?_)
      · have h2 : min (m + 1) us.length = 0 := h.1
        omega
      have hc3 : cutV us (some ((m : Int) + 1)) none = us.drop (m + 1) := by
        show (us.drop (min (m + 1) us.length)).take (us.length - min (m + 1) us.length) = _
        rw [Nat.min_eq_left (by omega)]
        exact List.take_of_length_le (by rw [List.length_drop]; omega)
      rw [hc3]
      have e22 : Ex H21 (upd H21 c3 (.tup (us.drop (m + 1)))) := Ex.new nc3
      refine i_catA (e22 _ _ hc2) upd_same (by rw [List.length_append, List.length_take, List.length_drop]; show _ + 1 + _ ≤ 1000; omega) (fun ch H23 ex23 hch => ?_)
      have e17_23 := e17_21.trans (e22.trans ex23)
      have hch2 : H23 ch = some (.tup (us.set m (.ref tn))) := by
        rw [hch, List.set_eq_take_append_cons_drop, if_pos hm, List.append_assoc]
        rfl
      have hKch : Kept H23 ch (us.set m (.ref tn)) ns (ls.set m (.num "jump" (1 + c) g)) := ⟨hch2, by
        rw [num_set]
        exact paired_set (hdu17.mono e17_23).prs ⟨tn, .ref fr, rfl, (ex21.trans (e22.trans ex23)) _ _ htn20, hfr17.mono e17_23⟩ m, hF2⟩
      have hR23 := hR17a.mono e17_23
      have hK23 := hK17a.mono e17_23
      have hRo23 := hR17.mono e17_23
      have hKo23 := hK17.mono e17_23
      have hdu23 := hdu17.mono e17_23
      have pen23 := pen17.ex e17_23
      walk_at "rd"
      refine ⟨ot, tp2, ch, vs2, _, ns, _, rfl, hRo23, hKo23, hKch, fun H24 ex24 => ?_⟩
      walk_at "rd"
      refine ⟨rd, tp, du, vs, us, ns, ls, rfl, hR23.mono ex24, hK23.mono ex24, hdu23.mono ex24, fun H25 ex25 => ?_⟩
      have e2325 := ex24.trans ex25
      have hR25 := hR23.mono e2325
      have hK25 := hK23.mono e2325
      have hRo25 := hRo23.mono e2325
      have hKo25 := hKo23.mono e2325
      have hdu25 := hdu23.mono e2325
      have hKch25 := hKch.mono e2325
      have pen25 := pen23.ex e2325
      obtain ⟨dr, hdr⟩ := id hR25
      obtain ⟨dz, hdz⟩ := id hRo25
      have hu25 := hdu25.at_
      walk_at "rd"
      refine Evl.q_cut (M := fun σ H' => ∃ v3 v6 v7 v8 v9 v10 v11 : Option V, σ = [some (.ref a), some (.ref p), some (.int i), v3, some (.ref du), some (.ref rd), v6, v7, v8, v9, v10, v11, u12, u13, u14, u15, u16, u17] ∧ Rdr T.p.c_Reader H' rd tp ∧ Kept H' tp vs ns ls ∧ Kept H' du us ns ls ∧ Pen H' p q (s1 + 1 + 1 + 1)) ?_ (fun σ H27 hM => ?_)
      · walk_at "rd"
        refine ⟨rd, ot, dr, _, rfl, rfl, hdr, .inl ⟨_, _, hdz⟩, rd, ot, tp, vs, ns, ls, _, rfl, hR25, hK25, .inl ⟨tp2, vs2, ns, _, hRo25, hKo25, rfl⟩, _, rfl, ?_⟩
        generalize hbq : PyData.eqv (lsD ns ls) (lsD ns (ls.set m (.num "jump" (1 + c) g))) = bq
        walk_at "rd"
        refine ⟨_, _, hdu25.dp, hKch25.dp, lsD_sh hF, lsD_sh hF2, ?_⟩
        rw [hbq]
        walk_at "rd"
        refine Rd.ite_nd (fun _ => ?_) (fun h => absurd rfl h)
        walk_at "rd"
        refine i_make ?_
        walk_at "rd"
        intro l2 nl2
        have e26 : Ex H25 (upd H25 l2 (.lst us)) := Ex.new nl2
        walk_at "rd"
        intro r2 d2 hr2 hd2 hn2
        have em2 : Ex (upd H25 l2 (.lst us)) (upd (upd (upd H25 l2 (.lst us)) d2 (.own r2)) r2 (.ins T.p.c_Reader d2 [])) := (Ex.new (o := .own r2) hd2).trans (Ex.new (by rw [upd_ne (Ne.symm hn2)]; exact hr2))
        refine ⟨r2, d2, l2, us, ns, ws, ls, rfl, upd_same, em2 _ _ upd_same, paired_mono (fun v y h => (h.mono' (e26.trans em2)).prN) hdu25.prs, hD, fun tp3 vs3 H27 ex27 hR27 hK27 => ⟨rfl, ?_⟩⟩
        have e2527 : Ex H25 H27 := e26.trans fun c o hc => by
          have hcb : c ≠ r2 := ne_of_none hc hr2
          exact hid_get (ex27 _ _ (hid_iff.mpr ⟨fun z => hcb (List.mem_singleton.mp z), em2 _ _ hc⟩))
        obtain ⟨d3, hd3⟩ := id hR27
        have er : true = PyData.eqv (lsD ns ls) (lsD ns ls) := (SeqAt.eqv_refl _ (SeqAt.canLay_of_shaped (lsD_sh hF))).symm
        refine ⟨rd, r2, dr, _, rfl, rfl, e2527 _ _ hdr, .inl ⟨_, _, hd3⟩, rd, r2, tp, vs, ns, ls, true, rfl, hR25.mono e2527, hK25.mono e2527, .inl ⟨tp3, vs3, ns, ls, hR27, hK27, er⟩, true, rfl, ?_⟩
        walk_at "rd"
        refine ⟨rd, du, dr, _, rfl, rfl, e2527 _ _ hdr, .inr ⟨us, (hdu25.mono e2527).at_⟩, rd, du, tp, vs, ns, ls, false, rfl, hR25.mono e2527, hK25.mono e2527, .inr ⟨⟨us, (hdu25.mono e2527).at_⟩, rfl⟩, false, rfl, ?_⟩
        have hR27a := hR25.mono e2527
        have hK27a := hK25.mono e2527
        have hdu27 := hdu25.mono e2527
        have pen27 := pen25.ex e2527
        walk_at "rd"
        exact ⟨_, _, _, _, _, _, _, rfl, hR27a, hK27a, hdu27, pen27⟩
      obtain ⟨v3, v6, v7, v8, v9, v10, v11, rfl, hR27a, hK27a, hdu27, pen27⟩ := hM
      walk_at "rd"
      refine Rd.i_lcT ?_
      walk_at "rd"
      refine Rd.lcT (xs := us) (SqT.of hdu27.at_) (fun D hDn => ⟨fun i H2 => H2 D = some (.lst ((ns.take i).map V.str)) ∧ Ex H27 H2, ⟨upd_same, Ex.new hDn⟩, fun i H2 _ h => SqT.of (h.2 _ _ hdu27.at_), ?_, ?_⟩)
      · rintro j x H2 hx ⟨hDl, ex2⟩
        obtain ⟨t, y, li, rfl, ht, hy, hli, hin, hfm⟩ := (hdu27.mono ex2).get hx
        walk_at "rd"
        refine ⟨rfl, ?_⟩
        walk_at "rd"
        refine ⟨_, hDl, small1000 (by rw [List.length_map, List.length_take]; omega), ?_, ex_mut ex2 hDn⟩
        rw [upd_same, wAt_take hin, List.map_append]
        rfl
      rintro H28 ⟨hDl, ex28⟩
      rw [take_all (by rw [hul, hnl])] at hDl
      walk_at "rd"
      refine Rd.i_lcL ?_
      refine i_lcS' ?_
      walk_at "rd"
      refine ⟨_, rfl, fun D2 hD2 => lc_it walk_str (fun i H2 => H2 D2 = some (.lst ((sgL.take i).map V.str)) ∧ Ex H28 H2) ⟨upd_same, Ex.new hD2⟩ (fun _ _ _ _ => trivial) ?_ ?_⟩
      · rintro j v H2 H3 hj ⟨hl2, ex2⟩ ⟨rfl, c, hc, rfl⟩
        walk_at "rd"
        refine ⟨rfl, ?_⟩
        walk_at "rd"
        refine ⟨_, _, rfl, rfl, by decide, by decide, by show 1 ≤ 100; decide, ?_⟩
        refine ⟨_, hl2, small1000 (by rw [List.length_map, List.length_take, sgL_len]; omega), ?_, ex_mut ex2 hD2⟩
        rw [upd_same, sgL_take hc, List.map_append]
        rfl
      rintro H29 ⟨hl29, ex29⟩
      have hl29 : H29 D2 = some (.lst (sgL.map V.str)) := hl29
      refine Rd.lcL (xs := sgL.map V.str) (SqL.of hl29) (fun D3 hD3 => ⟨fun i H2 => (∃ xs : List Str, H2 D3 = some (.lst (xs.map V.str)) ∧ xs.length ≤ i ∧ ∀ x ∈ xs, x ∉ ns ∧ PyData.canLay0 (.str x) = true) ∧ Ex H29 H2, ⟨⟨[], upd_same, Nat.le_refl _, fun x hx => absurd hx List.not_mem_nil⟩, Ex.new hD3⟩, fun i H2 _ h => SqL.of (h.2 _ _ hl29), ?_, ?_⟩)
      · rintro j x H2 hx ⟨⟨xs, hxl, hxn, hxs⟩, ex2⟩
        obtain ⟨hj8, x0, hx0, rfl⟩ : j < 8 ∧ ∃ y, y ∈ sgL ∧ V.str y = x := by
          obtain ⟨h1, h2⟩ := List.getElem?_eq_some_iff.mp hx
          rw [List.getElem_map] at h2
          exact ⟨by rw [List.length_map] at h1; exact h1, _, List.getElem_mem _, h2⟩
        walk_at "rd"
        refine ⟨rfl, ?_⟩
        walk_at "rd"
        refine i_ninS (.inl (SqL.of (ex2 _ _ (ex29 _ _ hDl)))) ?_
        walk_at "rd"
        refine Rd.ite_nd (fun _ => ⟨⟨xs, hxl, by omega, hxs⟩, ex2⟩) (fun hnx => ?_)
        walk_at "rd"
        refine ⟨_, hxl, small1000 (by rw [List.length_map]; omega), ⟨xs ++ [x0], by rw [upd_same, List.map_append]; rfl, by rw [List.length_append]; show xs.length + 1 ≤ j + 1; omega, fun y hy => ?_⟩, ex_mut ex2 hD3⟩
        rcases List.mem_append.mp hy with h | h
        · exact hxs y h
        · rw [List.mem_singleton.mp h]
          exact ⟨hnx, sgL_lay x0 hx0⟩
      rintro H30 ⟨⟨xs, hxl, hxn, hxs⟩, ex30⟩
      have hxn8 : xs.length ≤ 8 := hxn
      have e2730 := (ex28.trans ex29).trans ex30
      have hdu30 := hdu27.mono e2730
      have gu30 : 0 < us.length := by rw [hul]; exact hF.pos
      obtain ⟨tu3, yu3, lu3, eu3, htu3, _, _, _, _⟩ := hdu30.get (List.getElem?_eq_getElem gu30)
      have gu3 : us[0]? = some (.ref tu3) := by rw [List.getElem?_eq_getElem gu30, eu3]
      have nm0 : Nm (wAt ns 0) := hF.nm _ (wAt_mem (by rw [hnl]; exact hF.pos))
      walk_at "rd"
      refine Rd.i_ixT (SqT.of hdu30.at_) (atI_nat (j := 0) gu3) ?_
      walk_at "rd"
      refine ⟨_, _, rfl, rfl, by decide, by decide, by decide +kernel, ?_⟩
      refine ⟨_, _, rfl, rfl, ?_, ?_⟩
      · have h1 := nm0.hi
        have h2 : (strRep (Str.ofString "b") 12).length = 12 := by decide +kernel
        have h3 : (24 : Nat) ≤ sizeLine := by decide
        show (wAt ns 0).length + (strRep (Str.ofString "b") 12).length ≤ sizeLine
        omega
      walk_at "rd"
      refine ⟨by show 3 ≤ sizeLine; decide, fun p3 np3 => ?_⟩
      have e31 : Ex H30 (upd H30 p3 (.lst [.str "", .str "A", .str (wAt ns 0 ++ strRep (Str.ofString "b") 12)])) := Ex.new np3
      refine Rd.i_catL (e31 _ _ hxl) upd_same (by rw [List.length_map]; show xs.length + 3 ≤ sizeLine; have h3 : (24 : Nat) ≤ sizeLine := by decide
                                                  omega) (fun p4 np4 => ?_)
      have e32 := e31.trans (Ex.new (o := .lst (xs.map V.str ++ [.str "", .str "A", .str (wAt ns 0 ++ strRep (Str.ofString "b") 12)])) np4)
      have pen32 := pen27.ex (e2730.trans e32)
      have hl32 : upd (upd H30 p3 (.lst [.str "", .str "A", .str (wAt ns 0 ++ strRep (Str.ofString "b") 12)])) p4 (.lst (xs.map V.str ++ [.str "", .str "A", .str (wAt ns 0 ++ strRep (Str.ofString "b") 12)])) p4 = some (.lst ((xs ++ (["", "A", wAt ns 0 ++ strRep (Str.ofString "b") 12] : List Str)).map V.str)) := by
        rw [upd_same, List.map_append]
        rfl
      have hS32 : ∀ x ∈ xs ++ (["", "A", wAt ns 0 ++ strRep (Str.ofString "b") 12] : List Str), x ∉ ns ∧ PyData.canLay0 (.str x) = true := fun x hx => by
        rcases List.mem_append.mp hx with h | h
        · exact hxs x h
        · exact odd_ok hF.nm nm0 x h
      have hR32 := hR27a.mono (e2730.trans e32)
      have hK32 := hK27a.mono (e2730.trans e32)
      have pf : p4 ∉ [p, q] := (pen27.ex (e2730.trans e31)).new np4
      walk_at "rd"
      refine i_pickS (ns := xs ++ (["", "A", wAt ns 0 ++ strRep (Str.ofString "b") 12] : List Str)) pen32 (by omega) (hid_iff.mpr ⟨pf, hl32⟩) (by rw [List.length_append]; exact Nat.lt_of_lt_of_le (by decide) (Nat.le_add_left 3 _)) (by rw [List.length_append]; show xs.length + 3 < 1000000; omega) (fun x hx H33 pen33 b33 => ?_)
      obtain ⟨hxnn, hxlay⟩ := hS32 x hx
      have hR33 := hR32.draw pen32 b33
      have hK33 := hK32.draw pen32 b33
      walk_at "rd"
      refine Rd.forR (by decide) (by decide) (fun j σ H2 => ∃ (v2 v3 v4 v6 v7 v8 v9 v10 v11 v12 v13 v15 v16 v17 : Option V), σ = [some (.ref a), some (.ref p), v2, v3, v4, some (.ref rd), v6, v7, v8, v9, v10, v11, v12, v13, some (.str x), v15, v16, v17] ∧ Pen H2 p q (s1 + 1 + 1 + 1 + 1) ∧ Rdr T.p.c_Reader H2 rd tp ∧ Kept H2 tp vs ns ls) ⟨_, _, _, _, _, _, _, _, _, _, _, _, _, _, rfl, pen33, hR33, hK33⟩ ?_ ?_
      · rintro j _ H2 hj ⟨v2, v3, v4, v6, v7, v8, v9, v10, v11, v12, v13, v15, v16, v17, rfl, penj, hRj, hKj⟩
        walk_at "rd"
        refine ⟨rd, tp, vs, ns, ls, x, j, rfl, hRj, hKj, hxnn, fun t H3 ex3 ht => ?_⟩
        walk_at "rd"
        refine ⟨by show 4 ≤ sizeLine; decide, fun t2 nt2 => ?_⟩
        have e4 : Ex H3 (upd H3 t2 (.tup [.str "none", .str x, .bl true, .bl true])) := Ex.new nt2
        refine Xv.i_neSame (d := .tuple [.str "none", .str x, .bool true, .bool true]) (.tup (SqT.of (e4 _ _ ht)) (four_dp x)) (.tup (SqT.of upd_same) (four_dp x)) (four_sh hxlay) ?_
        walk_at "rd"
        exact ⟨_, _, _, _, _, _, _, _, _, _, _, _, _, _, rfl, penj.ex (ex3.trans e4), hRj.mono (ex3.trans e4), hKj.mono (ex3.trans e4)⟩
      · rintro _ H2 ⟨v2, v3, v4, v6, v7, v8, v9, v10, v11, v12, v13, v15, v16, v17, rfl, penj, hRj, hKj⟩
        walk_at "rd"
        exact ⟨_, _, _, _, _, _, _, _, _, _, _, _, _, _, _, _, _, rfl, penj, by omega⟩
    · rintro _ H2 ⟨u2, u3, u4, u5, u6, u7, u8, u9, u10, u11, u12, u13, u14, u15, u16, u17, s0, rfl, pen2, hs0⟩
      walk_at "rd"
      exact k _
end
end K02

namespace K02
open PySem L2
theorem all_mk {l : PySem.W.OpenLaw} {w : World} {K : PySem.W.Frag} {h : Heap} {mg : Str → Option Value} {fa : Addr} (X : K.In h) (G : h.Ns mainGlobals mg) (hfa : mg "law" = some (.ref fa)) {C_SplitError C_NoLine C_Reader f_NoLine f_Reader___init f_Reader___eq f_Reader_names f_Reader_line_of f_Reader_exits f_Reader_reads f_Reader_replaced f_law_draw f_law_pick f_law_word f_law_names f_law_words f_law_goal f_law_ways f_law_line f_law_lines f_is_name f_within f_are_ways f_has_form f_frozen f_goals f_check_forms f_check_goals f_silent_ways f_reached f_check_rings f_check_begin f_law_tidy f_law_exits f_law_asked f_law_keeps f_law A_ENTRIES A_BOUNDS A_b_rest A_b_cap A_b_jump A_b_set A_b_upto A_b_skip A_VALUES A_READING A_NEVER_FIRST : Addr} {od_NoLine an_NoLine od_Reader___init an_Reader___init od_Reader___eq an_Reader___eq od_Reader_names an_Reader_names od_Reader_line_of an_Reader_line_of od_Reader_exits an_Reader_exits od_Reader_reads an_Reader_reads od_Reader_replaced an_Reader_replaced od_law_draw an_law_draw od_law_pick an_law_pick od_law_word an_law_word od_law_names an_law_names od_law_words an_law_words od_law_goal an_law_goal od_law_ways an_law_ways od_law_line an_law_line od_law_lines an_law_lines od_is_name an_is_name od_within an_within od_are_ways an_are_ways od_has_form an_has_form od_frozen an_frozen od_goals an_goals od_check_forms an_check_forms od_check_goals an_check_goals od_silent_ways an_silent_ways od_reached an_reached od_check_rings an_check_rings od_check_begin an_check_begin od_law_tidy an_law_tidy od_law_exits an_law_exits od_law_asked an_law_asked od_law_keeps an_law_keeps od_law an_law : Option Addr} {oc_NoLine kV_NoLine dc_NoLine pm_NoLine cd_NoLine ct_NoLine oc_Reader___init kV_Reader___init dc_Reader___init pm_Reader___init cd_Reader___init ct_Reader___init oc_Reader___eq kV_Reader___eq dc_Reader___eq pm_Reader___eq cd_Reader___eq ct_Reader___eq oc_Reader_names kV_Reader_names dc_Reader_names pm_Reader_names cd_Reader_names ct_Reader_names oc_Reader_line_of kV_Reader_line_of dc_Reader_line_of pm_Reader_line_of cd_Reader_line_of ct_Reader_line_of oc_Reader_exits kV_Reader_exits dc_Reader_exits pm_Reader_exits cd_Reader_exits ct_Reader_exits oc_Reader_reads kV_Reader_reads dc_Reader_reads pm_Reader_reads cd_Reader_reads ct_Reader_reads oc_Reader_replaced kV_Reader_replaced dc_Reader_replaced pm_Reader_replaced cd_Reader_replaced ct_Reader_replaced oc_law_draw kV_law_draw dc_law_draw pm_law_draw cd_law_draw ct_law_draw oc_law_pick kV_law_pick dc_law_pick pm_law_pick cd_law_pick ct_law_pick oc_law_word kV_law_word dc_law_word pm_law_word cd_law_word ct_law_word oc_law_names kV_law_names dc_law_names pm_law_names cd_law_names ct_law_names oc_law_words kV_law_words dc_law_words pm_law_words cd_law_words ct_law_words oc_law_goal kV_law_goal dc_law_goal pm_law_goal cd_law_goal ct_law_goal oc_law_ways kV_law_ways dc_law_ways pm_law_ways cd_law_ways ct_law_ways oc_law_line kV_law_line dc_law_line pm_law_line cd_law_line ct_law_line oc_law_lines kV_law_lines dc_law_lines pm_law_lines cd_law_lines ct_law_lines oc_is_name kV_is_name dc_is_name pm_is_name cd_is_name ct_is_name oc_within kV_within dc_within pm_within cd_within ct_within oc_are_ways kV_are_ways dc_are_ways pm_are_ways cd_are_ways ct_are_ways oc_has_form kV_has_form dc_has_form pm_has_form cd_has_form ct_has_form oc_frozen kV_frozen dc_frozen pm_frozen cd_frozen ct_frozen oc_goals kV_goals dc_goals pm_goals cd_goals ct_goals oc_check_forms kV_check_forms dc_check_forms pm_check_forms cd_check_forms ct_check_forms oc_check_goals kV_check_goals dc_check_goals pm_check_goals cd_check_goals ct_check_goals oc_silent_ways kV_silent_ways dc_silent_ways pm_silent_ways cd_silent_ways ct_silent_ways oc_reached kV_reached dc_reached pm_reached cd_reached ct_reached oc_check_rings kV_check_rings dc_check_rings pm_check_rings cd_check_rings ct_check_rings oc_check_begin kV_check_begin dc_check_begin pm_check_begin cd_check_begin ct_check_begin oc_law_tidy kV_law_tidy dc_law_tidy pm_law_tidy cd_law_tidy ct_law_tidy oc_law_exits kV_law_exits dc_law_exits pm_law_exits cd_law_exits ct_law_exits oc_law_asked kV_law_asked dc_law_asked pm_law_asked cd_law_asked ct_law_asked oc_law_keeps kV_law_keeps dc_law_keeps pm_law_keeps cd_law_keeps ct_law_keeps oc_law kV_law dc_law pm_law cd_law ct_law : Value} {sl_NoLine sl_Reader___init sl_Reader___eq sl_Reader_names sl_Reader_line_of sl_Reader_exits sl_Reader_reads sl_Reader_replaced sl_law_draw sl_law_pick sl_law_word sl_law_names sl_law_words sl_law_goal sl_law_ways sl_law_line sl_law_lines sl_is_name sl_within sl_are_ways sl_has_form sl_frozen sl_goals sl_check_forms sl_check_goals sl_silent_ways sl_reached sl_check_rings sl_check_begin sl_law_tidy sl_law_exits sl_law_asked sl_law_keeps sl_law : Array (Option Value)} {te_case te_take te_rest te_cap te_jump te_set te_upto te_skip te_cut te_refuse tt_b_rest_0 tt_b_rest_1 tt_b_cap_0 tt_b_cap_1 tt_b_jump_0 tt_b_jump_1 tt_b_set_0 tt_b_set_1 tt_b_upto_0 tt_b_upto_1 tt_b_skip_0 tt_b_skip_1 tt_VALUES_0 tt_VALUES_1 tt_READING_0 tt_READING_1 tt_READING_2 tt_READING_3 tt_READING_4 tt_NEVER_FIRST_0 tt_NEVER_FIRST_1 tt_NEVER_FIRST_2 t_L t_M t_N : Tok} {nm_NoLine q_NoLine N_NoLine bs_NoLine bm_NoLine sn_NoLine sub_NoLine ab_NoLine col_NoLine dd_NoLine k0_NoLine k1_NoLine k2_NoLine k3_NoLine k5_NoLine} {es_ENTRIES : Array DictEntry} {n_ENTRIES : Nat} {es_BOUNDS : Array DictEntry} {n_BOUNDS : Nat} {nt_b_rest : Nat} {ot_b_rest : Option Addr} {st_b_rest : Array (Option Value)} {nt_b_cap : Nat} {ot_b_cap : Option Addr} {st_b_cap : Array (Option Value)} {nt_b_jump : Nat} {ot_b_jump : Option Addr} {st_b_jump : Array (Option Value)} {nt_b_set : Nat} {ot_b_set : Option Addr} {st_b_set : Array (Option Value)} {nt_b_upto : Nat} {ot_b_upto : Option Addr} {st_b_upto : Array (Option Value)} {nt_b_skip : Nat} {ot_b_skip : Option Addr} {st_b_skip : Array (Option Value)} {nt_VALUES : Nat} {ot_VALUES : Option Addr} {st_VALUES : Array (Option Value)} {nt_READING : Nat} {ot_READING : Option Addr} {st_READING : Array (Option Value)} {nt_NEVER_FIRST : Nat} {ot_NEVER_FIRST : Option Addr} {st_NEVER_FIRST : Array (Option Value)}
    (g_SplitError : PySem.W.nsIn K mainGlobals "SplitError" = some (some (.ref C_SplitError)))
    (g_NoLine : PySem.W.nsIn K mainGlobals "NoLine" = some (some (.ref C_NoLine)))
    (g_Reader : PySem.W.nsIn K mainGlobals "Reader" = some (some (.ref C_Reader)))
    (a_NoLine : PySem.W.findIn K (.ref C_NoLine) "__init__" = some (some (.ref f_NoLine)))
    (l_NoLine : K.lookup f_NoLine = some ⟨oc_NoLine, od_NoLine, .func (PySem.W.fnOf "__init__" "NoLine.__init__" (defArgs s_NoLine___init) (defBody s_NoLine___init) (defScope s_NoLine___init) .none kV_NoLine dc_NoLine pm_NoLine an_NoLine cd_NoLine ct_NoLine), sl_NoLine⟩)
    (c_NoLine : PySem.W.codeIn K cd_NoLine "NoLine.__init__" = true)
    (k_NoLine : PySem.W.keepIn K (.ref f_NoLine) = true)
    (t_NoLine : PySem.W.typeIn K (.ref f_NoLine) = some (.type "function"))
    (L_NoLine : K.lookup C_NoLine = some (excClassObj nm_NoLine q_NoLine C_NoLine N_NoLine bs_NoLine bm_NoLine true sn_NoLine sub_NoLine ab_NoLine col_NoLine dd_NoLine k0_NoLine k1_NoLine k2_NoLine k3_NoLine k5_NoLine "ValueError.__new__"))
    (R_NoLine : PySem.HandSPX.refsVE bm_NoLine = true)
    (sa_NoLine : PySem.W.findIn K (.ref C_NoLine) "__setattr__" = some (some (.builtin "object.__setattr__")))
    (ty_NoLine : PySem.W.typeIn K (.ref C_NoLine) = some (.type "type"))
    (no_NoLine : PySem.W.findIn K (.ref C_NoLine) "name" = some none)
    (ga_NoLine : PySem.W.findIn K (.ref C_NoLine) "__getattribute__" = some (some (.builtin "BaseException.__getattribute__")))
    (gg_NoLine : PySem.W.findIn K (.ref C_NoLine) "__getattr__" = some none)
    (ex_NoLine : PySem.W.subIn K (.ref C_NoLine) (.type "BaseException") = some true)
    (hd_NoLine : PySem.W.hasDictIn K C_NoLine = true)
    (cl_NoLine : PySem.W.findIn K (.ref C_NoLine) "__class__" = some (some (.builtin "object.__class__")))
    (mo_NoLine : PySem.W.mroIn K C_NoLine (.type "object") = some true)
    (kc_NoLine : PySem.W.keepIn K (.ref C_NoLine) = true)
    (sp : PySem.W.specialIn K (.builtin "object.__class__") "__get__" = some (some (.builtin "getset_descriptor.__get__")))
    (tk : PySem.W.takesIn K (.builtin "object.__class__") = some true)
    (pg : PySem.W.plainGet K C_Reader Str.empty = true)
    (hd_R : PySem.W.hasDictIn K C_Reader = true)
    (po : PySem.W.plainOver K C_Reader = true)
    (sa_R : PySem.W.findIn K (.ref C_Reader) "__setattr__" = some (some (.builtin "object.__setattr__")))
    (mk_R : PySem.W.makesIn K C_Reader = true)
    (kc_R : PySem.W.keepIn K (.ref C_Reader) = true)
    (nl_R : PySem.W.findIn K (.ref C_Reader) "lines" = some none)
    (ca_R : PySem.W.findIn K (.ref C_Reader) "__class__" = some (some (.builtin "object.__class__")))
    (mo_R : PySem.W.mroIn K C_Reader (.type "object") = some true)
    (a_Reader___init : PySem.W.findIn K (.ref C_Reader) "__init__" = some (some (.ref f_Reader___init)))
    (l_Reader___init : K.lookup f_Reader___init = some ⟨oc_Reader___init, od_Reader___init, .func (PySem.W.fnOf "__init__" "Reader.__init__" (defArgs s_Reader___init) (defBody s_Reader___init) (defScope s_Reader___init) .none kV_Reader___init dc_Reader___init pm_Reader___init an_Reader___init cd_Reader___init ct_Reader___init), sl_Reader___init⟩)
    (c_Reader___init : PySem.W.codeIn K cd_Reader___init "Reader.__init__" = true)
    (k_Reader___init : PySem.W.keepIn K (.ref f_Reader___init) = true)
    (i_Reader___init : PySem.W.isFn K (.ref f_Reader___init) = true)
    (a_Reader___eq : PySem.W.findIn K (.ref C_Reader) "__eq__" = some (some (.ref f_Reader___eq)))
    (l_Reader___eq : K.lookup f_Reader___eq = some ⟨oc_Reader___eq, od_Reader___eq, .func (PySem.W.fnOf "__eq__" "Reader.__eq__" (defArgs s_Reader___eq) (defBody s_Reader___eq) (defScope s_Reader___eq) .none kV_Reader___eq dc_Reader___eq pm_Reader___eq an_Reader___eq cd_Reader___eq ct_Reader___eq), sl_Reader___eq⟩)
    (c_Reader___eq : PySem.W.codeIn K cd_Reader___eq "Reader.__eq__" = true)
    (k_Reader___eq : PySem.W.keepIn K (.ref f_Reader___eq) = true)
    (i_Reader___eq : PySem.W.isFn K (.ref f_Reader___eq) = true)
    (a_Reader_names : PySem.W.findIn K (.ref C_Reader) "names" = some (some (.ref f_Reader_names)))
    (l_Reader_names : K.lookup f_Reader_names = some ⟨oc_Reader_names, od_Reader_names, .func (PySem.W.fnOf "names" "Reader.names" (defArgs s_Reader_names) (defBody s_Reader_names) (defScope s_Reader_names) .none kV_Reader_names dc_Reader_names pm_Reader_names an_Reader_names cd_Reader_names ct_Reader_names), sl_Reader_names⟩)
    (c_Reader_names : PySem.W.codeIn K cd_Reader_names "Reader.names" = true)
    (k_Reader_names : PySem.W.keepIn K (.ref f_Reader_names) = true)
    (i_Reader_names : PySem.W.isFn K (.ref f_Reader_names) = true)
    (a_Reader_line_of : PySem.W.findIn K (.ref C_Reader) "line_of" = some (some (.ref f_Reader_line_of)))
    (l_Reader_line_of : K.lookup f_Reader_line_of = some ⟨oc_Reader_line_of, od_Reader_line_of, .func (PySem.W.fnOf "line_of" "Reader.line_of" (defArgs s_Reader_line_of) (defBody s_Reader_line_of) (defScope s_Reader_line_of) .none kV_Reader_line_of dc_Reader_line_of pm_Reader_line_of an_Reader_line_of cd_Reader_line_of ct_Reader_line_of), sl_Reader_line_of⟩)
    (c_Reader_line_of : PySem.W.codeIn K cd_Reader_line_of "Reader.line_of" = true)
    (k_Reader_line_of : PySem.W.keepIn K (.ref f_Reader_line_of) = true)
    (i_Reader_line_of : PySem.W.isFn K (.ref f_Reader_line_of) = true)
    (a_Reader_exits : PySem.W.findIn K (.ref C_Reader) "exits" = some (some (.ref f_Reader_exits)))
    (l_Reader_exits : K.lookup f_Reader_exits = some ⟨oc_Reader_exits, od_Reader_exits, .func (PySem.W.fnOf "exits" "Reader.exits" (defArgs s_Reader_exits) (defBody s_Reader_exits) (defScope s_Reader_exits) .none kV_Reader_exits dc_Reader_exits pm_Reader_exits an_Reader_exits cd_Reader_exits ct_Reader_exits), sl_Reader_exits⟩)
    (c_Reader_exits : PySem.W.codeIn K cd_Reader_exits "Reader.exits" = true)
    (k_Reader_exits : PySem.W.keepIn K (.ref f_Reader_exits) = true)
    (i_Reader_exits : PySem.W.isFn K (.ref f_Reader_exits) = true)
    (a_Reader_reads : PySem.W.findIn K (.ref C_Reader) "reads" = some (some (.ref f_Reader_reads)))
    (l_Reader_reads : K.lookup f_Reader_reads = some ⟨oc_Reader_reads, od_Reader_reads, .func (PySem.W.fnOf "reads" "Reader.reads" (defArgs s_Reader_reads) (defBody s_Reader_reads) (defScope s_Reader_reads) .none kV_Reader_reads dc_Reader_reads pm_Reader_reads an_Reader_reads cd_Reader_reads ct_Reader_reads), sl_Reader_reads⟩)
    (c_Reader_reads : PySem.W.codeIn K cd_Reader_reads "Reader.reads" = true)
    (k_Reader_reads : PySem.W.keepIn K (.ref f_Reader_reads) = true)
    (i_Reader_reads : PySem.W.isFn K (.ref f_Reader_reads) = true)
    (a_Reader_replaced : PySem.W.findIn K (.ref C_Reader) "replaced" = some (some (.ref f_Reader_replaced)))
    (l_Reader_replaced : K.lookup f_Reader_replaced = some ⟨oc_Reader_replaced, od_Reader_replaced, .func (PySem.W.fnOf "replaced" "Reader.replaced" (defArgs s_Reader_replaced) (defBody s_Reader_replaced) (defScope s_Reader_replaced) .none kV_Reader_replaced dc_Reader_replaced pm_Reader_replaced an_Reader_replaced cd_Reader_replaced ct_Reader_replaced), sl_Reader_replaced⟩)
    (c_Reader_replaced : PySem.W.codeIn K cd_Reader_replaced "Reader.replaced" = true)
    (k_Reader_replaced : PySem.W.keepIn K (.ref f_Reader_replaced) = true)
    (i_Reader_replaced : PySem.W.isFn K (.ref f_Reader_replaced) = true)
    (a_law_draw : PySem.W.nsIn K mainGlobals "_law_draw" = some (some (.ref f_law_draw)))
    (l_law_draw : K.lookup f_law_draw = some ⟨oc_law_draw, od_law_draw, .func (PySem.W.fnOf "_law_draw" "_law_draw" (defArgs s_law_draw) (defBody s_law_draw) (defScope s_law_draw) .none kV_law_draw dc_law_draw pm_law_draw an_law_draw cd_law_draw ct_law_draw), sl_law_draw⟩)
    (c_law_draw : PySem.W.codeIn K cd_law_draw "_law_draw" = true)
    (k_law_draw : PySem.W.keepIn K (.ref f_law_draw) = true)
    (a_law_pick : PySem.W.nsIn K mainGlobals "_law_pick" = some (some (.ref f_law_pick)))
    (l_law_pick : K.lookup f_law_pick = some ⟨oc_law_pick, od_law_pick, .func (PySem.W.fnOf "_law_pick" "_law_pick" (defArgs s_law_pick) (defBody s_law_pick) (defScope s_law_pick) .none kV_law_pick dc_law_pick pm_law_pick an_law_pick cd_law_pick ct_law_pick), sl_law_pick⟩)
    (c_law_pick : PySem.W.codeIn K cd_law_pick "_law_pick" = true)
    (k_law_pick : PySem.W.keepIn K (.ref f_law_pick) = true)
    (a_law_word : PySem.W.nsIn K mainGlobals "_law_word" = some (some (.ref f_law_word)))
    (l_law_word : K.lookup f_law_word = some ⟨oc_law_word, od_law_word, .func (PySem.W.fnOf "_law_word" "_law_word" (defArgs s_law_word) (defBody s_law_word) (defScope s_law_word) .none kV_law_word dc_law_word pm_law_word an_law_word cd_law_word ct_law_word), sl_law_word⟩)
    (c_law_word : PySem.W.codeIn K cd_law_word "_law_word" = true)
    (k_law_word : PySem.W.keepIn K (.ref f_law_word) = true)
    (a_law_names : PySem.W.nsIn K mainGlobals "_law_names" = some (some (.ref f_law_names)))
    (l_law_names : K.lookup f_law_names = some ⟨oc_law_names, od_law_names, .func (PySem.W.fnOf "_law_names" "_law_names" (defArgs s_law_names) (defBody s_law_names) (defScope s_law_names) .none kV_law_names dc_law_names pm_law_names an_law_names cd_law_names ct_law_names), sl_law_names⟩)
    (c_law_names : PySem.W.codeIn K cd_law_names "_law_names" = true)
    (k_law_names : PySem.W.keepIn K (.ref f_law_names) = true)
    (a_law_words : PySem.W.nsIn K mainGlobals "_law_words" = some (some (.ref f_law_words)))
    (l_law_words : K.lookup f_law_words = some ⟨oc_law_words, od_law_words, .func (PySem.W.fnOf "_law_words" "_law_words" (defArgs s_law_words) (defBody s_law_words) (defScope s_law_words) .none kV_law_words dc_law_words pm_law_words an_law_words cd_law_words ct_law_words), sl_law_words⟩)
    (c_law_words : PySem.W.codeIn K cd_law_words "_law_words" = true)
    (k_law_words : PySem.W.keepIn K (.ref f_law_words) = true)
    (a_law_goal : PySem.W.nsIn K mainGlobals "_law_goal" = some (some (.ref f_law_goal)))
    (l_law_goal : K.lookup f_law_goal = some ⟨oc_law_goal, od_law_goal, .func (PySem.W.fnOf "_law_goal" "_law_goal" (defArgs s_law_goal) (defBody s_law_goal) (defScope s_law_goal) .none kV_law_goal dc_law_goal pm_law_goal an_law_goal cd_law_goal ct_law_goal), sl_law_goal⟩)
    (c_law_goal : PySem.W.codeIn K cd_law_goal "_law_goal" = true)
    (k_law_goal : PySem.W.keepIn K (.ref f_law_goal) = true)
    (a_law_ways : PySem.W.nsIn K mainGlobals "_law_ways" = some (some (.ref f_law_ways)))
    (l_law_ways : K.lookup f_law_ways = some ⟨oc_law_ways, od_law_ways, .func (PySem.W.fnOf "_law_ways" "_law_ways" (defArgs s_law_ways) (defBody s_law_ways) (defScope s_law_ways) .none kV_law_ways dc_law_ways pm_law_ways an_law_ways cd_law_ways ct_law_ways), sl_law_ways⟩)
    (c_law_ways : PySem.W.codeIn K cd_law_ways "_law_ways" = true)
    (k_law_ways : PySem.W.keepIn K (.ref f_law_ways) = true)
    (a_law_line : PySem.W.nsIn K mainGlobals "_law_line" = some (some (.ref f_law_line)))
    (l_law_line : K.lookup f_law_line = some ⟨oc_law_line, od_law_line, .func (PySem.W.fnOf "_law_line" "_law_line" (defArgs s_law_line) (defBody s_law_line) (defScope s_law_line) .none kV_law_line dc_law_line pm_law_line an_law_line cd_law_line ct_law_line), sl_law_line⟩)
    (c_law_line : PySem.W.codeIn K cd_law_line "_law_line" = true)
    (k_law_line : PySem.W.keepIn K (.ref f_law_line) = true)
    (a_law_lines : PySem.W.nsIn K mainGlobals "_law_lines" = some (some (.ref f_law_lines)))
    (l_law_lines : K.lookup f_law_lines = some ⟨oc_law_lines, od_law_lines, .func (PySem.W.fnOf "_law_lines" "_law_lines" (defArgs s_law_lines) (defBody s_law_lines) (defScope s_law_lines) .none kV_law_lines dc_law_lines pm_law_lines an_law_lines cd_law_lines ct_law_lines), sl_law_lines⟩)
    (c_law_lines : PySem.W.codeIn K cd_law_lines "_law_lines" = true)
    (k_law_lines : PySem.W.keepIn K (.ref f_law_lines) = true)
    (a_is_name : PySem.W.nsIn K mainGlobals "is_name" = some (some (.ref f_is_name)))
    (l_is_name : K.lookup f_is_name = some ⟨oc_is_name, od_is_name, .func (PySem.W.fnOf "is_name" "is_name" (defArgs s_is_name) (defBody s_is_name) (defScope s_is_name) .none kV_is_name dc_is_name pm_is_name an_is_name cd_is_name ct_is_name), sl_is_name⟩)
    (c_is_name : PySem.W.codeIn K cd_is_name "is_name" = true)
    (k_is_name : PySem.W.keepIn K (.ref f_is_name) = true)
    (a_within : PySem.W.nsIn K mainGlobals "_within" = some (some (.ref f_within)))
    (l_within : K.lookup f_within = some ⟨oc_within, od_within, .func (PySem.W.fnOf "_within" "_within" (defArgs s_within) (defBody s_within) (defScope s_within) .none kV_within dc_within pm_within an_within cd_within ct_within), sl_within⟩)
    (c_within : PySem.W.codeIn K cd_within "_within" = true)
    (k_within : PySem.W.keepIn K (.ref f_within) = true)
    (a_are_ways : PySem.W.nsIn K mainGlobals "_are_ways" = some (some (.ref f_are_ways)))
    (l_are_ways : K.lookup f_are_ways = some ⟨oc_are_ways, od_are_ways, .func (PySem.W.fnOf "_are_ways" "_are_ways" (defArgs s_are_ways) (defBody s_are_ways) (defScope s_are_ways) .none kV_are_ways dc_are_ways pm_are_ways an_are_ways cd_are_ways ct_are_ways), sl_are_ways⟩)
    (c_are_ways : PySem.W.codeIn K cd_are_ways "_are_ways" = true)
    (k_are_ways : PySem.W.keepIn K (.ref f_are_ways) = true)
    (a_has_form : PySem.W.nsIn K mainGlobals "_has_form" = some (some (.ref f_has_form)))
    (l_has_form : K.lookup f_has_form = some ⟨oc_has_form, od_has_form, .func (PySem.W.fnOf "_has_form" "_has_form" (defArgs s_has_form) (defBody s_has_form) (defScope s_has_form) .none kV_has_form dc_has_form pm_has_form an_has_form cd_has_form ct_has_form), sl_has_form⟩)
    (c_has_form : PySem.W.codeIn K cd_has_form "_has_form" = true)
    (k_has_form : PySem.W.keepIn K (.ref f_has_form) = true)
    (a_frozen : PySem.W.nsIn K mainGlobals "_frozen" = some (some (.ref f_frozen)))
    (l_frozen : K.lookup f_frozen = some ⟨oc_frozen, od_frozen, .func (PySem.W.fnOf "_frozen" "_frozen" (defArgs s_frozen) (defBody s_frozen) (defScope s_frozen) .none kV_frozen dc_frozen pm_frozen an_frozen cd_frozen ct_frozen), sl_frozen⟩)
    (c_frozen : PySem.W.codeIn K cd_frozen "_frozen" = true)
    (k_frozen : PySem.W.keepIn K (.ref f_frozen) = true)
    (a_goals : PySem.W.nsIn K mainGlobals "_goals" = some (some (.ref f_goals)))
    (l_goals : K.lookup f_goals = some ⟨oc_goals, od_goals, .func (PySem.W.fnOf "_goals" "_goals" (defArgs s_goals) (defBody s_goals) (defScope s_goals) .none kV_goals dc_goals pm_goals an_goals cd_goals ct_goals), sl_goals⟩)
    (c_goals : PySem.W.codeIn K cd_goals "_goals" = true)
    (k_goals : PySem.W.keepIn K (.ref f_goals) = true)
    (a_check_forms : PySem.W.nsIn K mainGlobals "_check_forms" = some (some (.ref f_check_forms)))
    (l_check_forms : K.lookup f_check_forms = some ⟨oc_check_forms, od_check_forms, .func (PySem.W.fnOf "_check_forms" "_check_forms" (defArgs s_check_forms) (defBody s_check_forms) (defScope s_check_forms) .none kV_check_forms dc_check_forms pm_check_forms an_check_forms cd_check_forms ct_check_forms), sl_check_forms⟩)
    (c_check_forms : PySem.W.codeIn K cd_check_forms "_check_forms" = true)
    (k_check_forms : PySem.W.keepIn K (.ref f_check_forms) = true)
    (a_check_goals : PySem.W.nsIn K mainGlobals "_check_goals" = some (some (.ref f_check_goals)))
    (l_check_goals : K.lookup f_check_goals = some ⟨oc_check_goals, od_check_goals, .func (PySem.W.fnOf "_check_goals" "_check_goals" (defArgs s_check_goals) (defBody s_check_goals) (defScope s_check_goals) .none kV_check_goals dc_check_goals pm_check_goals an_check_goals cd_check_goals ct_check_goals), sl_check_goals⟩)
    (c_check_goals : PySem.W.codeIn K cd_check_goals "_check_goals" = true)
    (k_check_goals : PySem.W.keepIn K (.ref f_check_goals) = true)
    (a_silent_ways : PySem.W.nsIn K mainGlobals "_silent_ways" = some (some (.ref f_silent_ways)))
    (l_silent_ways : K.lookup f_silent_ways = some ⟨oc_silent_ways, od_silent_ways, .func (PySem.W.fnOf "_silent_ways" "_silent_ways" (defArgs s_silent_ways) (defBody s_silent_ways) (defScope s_silent_ways) .none kV_silent_ways dc_silent_ways pm_silent_ways an_silent_ways cd_silent_ways ct_silent_ways), sl_silent_ways⟩)
    (c_silent_ways : PySem.W.codeIn K cd_silent_ways "_silent_ways" = true)
    (k_silent_ways : PySem.W.keepIn K (.ref f_silent_ways) = true)
    (a_reached : PySem.W.nsIn K mainGlobals "_reached" = some (some (.ref f_reached)))
    (l_reached : K.lookup f_reached = some ⟨oc_reached, od_reached, .func (PySem.W.fnOf "_reached" "_reached" (defArgs s_reached) (defBody s_reached) (defScope s_reached) .none kV_reached dc_reached pm_reached an_reached cd_reached ct_reached), sl_reached⟩)
    (c_reached : PySem.W.codeIn K cd_reached "_reached" = true)
    (k_reached : PySem.W.keepIn K (.ref f_reached) = true)
    (a_check_rings : PySem.W.nsIn K mainGlobals "_check_rings" = some (some (.ref f_check_rings)))
    (l_check_rings : K.lookup f_check_rings = some ⟨oc_check_rings, od_check_rings, .func (PySem.W.fnOf "_check_rings" "_check_rings" (defArgs s_check_rings) (defBody s_check_rings) (defScope s_check_rings) .none kV_check_rings dc_check_rings pm_check_rings an_check_rings cd_check_rings ct_check_rings), sl_check_rings⟩)
    (c_check_rings : PySem.W.codeIn K cd_check_rings "_check_rings" = true)
    (k_check_rings : PySem.W.keepIn K (.ref f_check_rings) = true)
    (a_check_begin : PySem.W.nsIn K mainGlobals "_check_begin" = some (some (.ref f_check_begin)))
    (l_check_begin : K.lookup f_check_begin = some ⟨oc_check_begin, od_check_begin, .func (PySem.W.fnOf "_check_begin" "_check_begin" (defArgs s_check_begin) (defBody s_check_begin) (defScope s_check_begin) .none kV_check_begin dc_check_begin pm_check_begin an_check_begin cd_check_begin ct_check_begin), sl_check_begin⟩)
    (c_check_begin : PySem.W.codeIn K cd_check_begin "_check_begin" = true)
    (k_check_begin : PySem.W.keepIn K (.ref f_check_begin) = true)
    (a_law_tidy : PySem.W.nsIn K mainGlobals "_law_tidy" = some (some (.ref f_law_tidy)))
    (l_law_tidy : K.lookup f_law_tidy = some ⟨oc_law_tidy, od_law_tidy, .func (PySem.W.fnOf "_law_tidy" "_law_tidy" (defArgs s_law_tidy) (defBody s_law_tidy) (defScope s_law_tidy) .none kV_law_tidy dc_law_tidy pm_law_tidy an_law_tidy cd_law_tidy ct_law_tidy), sl_law_tidy⟩)
    (c_law_tidy : PySem.W.codeIn K cd_law_tidy "_law_tidy" = true)
    (k_law_tidy : PySem.W.keepIn K (.ref f_law_tidy) = true)
    (a_law_exits : PySem.W.nsIn K mainGlobals "_law_exits" = some (some (.ref f_law_exits)))
    (l_law_exits : K.lookup f_law_exits = some ⟨oc_law_exits, od_law_exits, .func (PySem.W.fnOf "_law_exits" "_law_exits" (defArgs s_law_exits) (defBody s_law_exits) (defScope s_law_exits) .none kV_law_exits dc_law_exits pm_law_exits an_law_exits cd_law_exits ct_law_exits), sl_law_exits⟩)
    (c_law_exits : PySem.W.codeIn K cd_law_exits "_law_exits" = true)
    (k_law_exits : PySem.W.keepIn K (.ref f_law_exits) = true)
    (a_law_asked : PySem.W.nsIn K mainGlobals "_law_asked" = some (some (.ref f_law_asked)))
    (l_law_asked : K.lookup f_law_asked = some ⟨oc_law_asked, od_law_asked, .func (PySem.W.fnOf "_law_asked" "_law_asked" (defArgs s_law_asked) (defBody s_law_asked) (defScope s_law_asked) .none kV_law_asked dc_law_asked pm_law_asked an_law_asked cd_law_asked ct_law_asked), sl_law_asked⟩)
    (c_law_asked : PySem.W.codeIn K cd_law_asked "_law_asked" = true)
    (k_law_asked : PySem.W.keepIn K (.ref f_law_asked) = true)
    (a_law_keeps : PySem.W.nsIn K mainGlobals "_law_keeps" = some (some (.ref f_law_keeps)))
    (l_law_keeps : K.lookup f_law_keeps = some ⟨oc_law_keeps, od_law_keeps, .func (PySem.W.fnOf "_law_keeps" "_law_keeps" (defArgs s_law_keeps) (defBody s_law_keeps) (defScope s_law_keeps) .none kV_law_keeps dc_law_keeps pm_law_keeps an_law_keeps cd_law_keeps ct_law_keeps), sl_law_keeps⟩)
    (c_law_keeps : PySem.W.codeIn K cd_law_keeps "_law_keeps" = true)
    (k_law_keeps : PySem.W.keepIn K (.ref f_law_keeps) = true)
    (a_law : PySem.W.nsIn K mainGlobals "law" = some (some (.ref f_law)))
    (l_law : K.lookup f_law = some ⟨oc_law, od_law, .func (PySem.W.fnOf "law" "law" (defArgs s_law) (defBody s_law) (defScope s_law) .none kV_law dc_law pm_law an_law cd_law ct_law), sl_law⟩)
    (c_law : PySem.W.codeIn K cd_law "law" = true)
    (k_law : PySem.W.keepIn K (.ref f_law) = true)
    (z_int : PySem.W.nsIn K mainGlobals "int" = some none)
    (z_len : PySem.W.nsIn K mainGlobals "len" = some none)
    (z_max : PySem.W.nsIn K mainGlobals "max" = some none)
    (z_min : PySem.W.nsIn K mainGlobals "min" = some none)
    (z_range : PySem.W.nsIn K mainGlobals "range" = some none)
    (z_list : PySem.W.nsIn K mainGlobals "list" = some none)
    (z_all : PySem.W.nsIn K mainGlobals "all" = some none)
    (z_tuple : PySem.W.nsIn K mainGlobals "tuple" = some none)
    (z_enumerate : PySem.W.nsIn K mainGlobals "enumerate" = some none)
    (z_isinstance : PySem.W.nsIn K mainGlobals "isinstance" = some none)
    (z_bool : PySem.W.nsIn K mainGlobals "bool" = some none)
    (z_ValueError : PySem.W.nsIn K mainGlobals "ValueError" = some none)
    (g_ENTRIES : PySem.W.nsIn K mainGlobals "ENTRIES" = some (some (.ref A_ENTRIES)))
    (l_ENTRIES : K.lookup A_ENTRIES = some ⟨.type "dict", none, .dict es_ENTRIES n_ENTRIES, #[]⟩)
    (y_ENTRIES : es_ENTRIES.toList.map He.keyOf = He.keysIn w.params ["case", "take", "rest", "cap", "jump", "set", "upto", "skip", "cut", "refuse"])
    (w_ENTRIES : (A_ENTRIES == sysModules) = false)
    (g_BOUNDS : PySem.W.nsIn K mainGlobals "BOUNDS" = some (some (.ref A_BOUNDS)))
    (l_BOUNDS : K.lookup A_BOUNDS = some ⟨.type "dict", none, .dict es_BOUNDS n_BOUNDS, #[]⟩)
    (y_BOUNDS : es_BOUNDS.toList.map He.keyOf = He.keysIn w.params ["rest", "cap", "jump", "set", "upto", "skip"])
    (w_BOUNDS : (A_BOUNDS == sysModules) = false)
    (e_case : PySem.W.nsIn K A_ENTRIES "case" = some (some (.int 3 te_case)))
    (e_take : PySem.W.nsIn K A_ENTRIES "take" = some (some (.int 2 te_take)))
    (e_rest : PySem.W.nsIn K A_ENTRIES "rest" = some (some (.int 3 te_rest)))
    (e_cap : PySem.W.nsIn K A_ENTRIES "cap" = some (some (.int 3 te_cap)))
    (e_jump : PySem.W.nsIn K A_ENTRIES "jump" = some (some (.int 3 te_jump)))
    (e_set : PySem.W.nsIn K A_ENTRIES "set" = some (some (.int 3 te_set)))
    (e_upto : PySem.W.nsIn K A_ENTRIES "upto" = some (some (.int 4 te_upto)))
    (e_skip : PySem.W.nsIn K A_ENTRIES "skip" = some (some (.int 3 te_skip)))
    (e_cut : PySem.W.nsIn K A_ENTRIES "cut" = some (some (.int 1 te_cut)))
    (e_refuse : PySem.W.nsIn K A_ENTRIES "refuse" = some (some (.int 1 te_refuse)))
    (b_rest : PySem.W.nsIn K A_BOUNDS "rest" = some (some (.ref A_b_rest)))
    (u_b_rest : K.lookup A_b_rest = some ⟨.type "tuple", ot_b_rest, .seq #[.int 2 tt_b_rest_0, .int 4 tt_b_rest_1] nt_b_rest, st_b_rest⟩)
    (b_cap : PySem.W.nsIn K A_BOUNDS "cap" = some (some (.ref A_b_cap)))
    (u_b_cap : K.lookup A_b_cap = some ⟨.type "tuple", ot_b_cap, .seq #[.int 0 tt_b_cap_0, .int 5 tt_b_cap_1] nt_b_cap, st_b_cap⟩)
    (b_jump : PySem.W.nsIn K A_BOUNDS "jump" = some (some (.ref A_b_jump)))
    (u_b_jump : K.lookup A_b_jump = some ⟨.type "tuple", ot_b_jump, .seq #[.int 1 tt_b_jump_0, .int 4 tt_b_jump_1] nt_b_jump, st_b_jump⟩)
    (b_set : PySem.W.nsIn K A_BOUNDS "set" = some (some (.ref A_b_set)))
    (u_b_set : K.lookup A_b_set = some ⟨.type "tuple", ot_b_set, .seq #[.int 0 tt_b_set_0, .int 5 tt_b_set_1] nt_b_set, st_b_set⟩)
    (b_upto : PySem.W.nsIn K A_BOUNDS "upto" = some (some (.ref A_b_upto)))
    (u_b_upto : K.lookup A_b_upto = some ⟨.type "tuple", ot_b_upto, .seq #[.int 0 tt_b_upto_0, .int 5 tt_b_upto_1] nt_b_upto, st_b_upto⟩)
    (b_skip : PySem.W.nsIn K A_BOUNDS "skip" = some (some (.ref A_b_skip)))
    (u_b_skip : K.lookup A_b_skip = some ⟨.type "tuple", ot_b_skip, .seq #[.int (-3) tt_b_skip_0, .int 4 tt_b_skip_1] nt_b_skip, st_b_skip⟩)
    (o_case : PySem.W.nsIn K A_BOUNDS "case" = some none)
    (o_take : PySem.W.nsIn K A_BOUNDS "take" = some none)
    (o_cut : PySem.W.nsIn K A_BOUNDS "cut" = some none)
    (o_refuse : PySem.W.nsIn K A_BOUNDS "refuse" = some none)
    (g_VALUES : PySem.W.nsIn K mainGlobals "VALUES" = some (some (.ref A_VALUES)))
    (u_VALUES : K.lookup A_VALUES = some ⟨.type "tuple", ot_VALUES, .seq #[.int 0 tt_VALUES_0, .int 5 tt_VALUES_1] nt_VALUES, st_VALUES⟩)
    (g_READING : PySem.W.nsIn K mainGlobals "READING" = some (some (.ref A_READING)))
    (u_READING : K.lookup A_READING = some ⟨.type "tuple", ot_READING, .seq #[.str "case" tt_READING_0, .str "take" tt_READING_1, .str "rest" tt_READING_2, .str "cap" tt_READING_3, .str "jump" tt_READING_4] nt_READING, st_READING⟩)
    (g_NEVER_FIRST : PySem.W.nsIn K mainGlobals "NEVER_FIRST" = some (some (.ref A_NEVER_FIRST)))
    (u_NEVER_FIRST : K.lookup A_NEVER_FIRST = some ⟨.type "tuple", ot_NEVER_FIRST, .seq #[.str "cut" tt_NEVER_FIRST_0, .str "skip" tt_NEVER_FIRST_1, .str "refuse" tt_NEVER_FIRST_2] nt_NEVER_FIRST, st_NEVER_FIRST⟩)
    (m_MOST_LINES : PySem.W.nsIn K mainGlobals "MOST_LINES" = some (some (.int 8 t_L)))
    (m_MOST_LETTERS : PySem.W.nsIn K mainGlobals "MOST_LETTERS" = some (some (.int 12 t_M)))
    (m_LETTERS : PySem.W.nsIn K mainGlobals "LETTERS" = some (some (.str "abcdefghijklmnopqrstuvwxyz" t_N)))
    (kS : PySem.W.kitOne K (.ref C_NoLine) (.ref C_SplitError) = some true)
    (kV : PySem.W.kitOne K (.ref C_NoLine) (.type "ValueError") = some true)
    (te : PySem.W.exmOne K (.ref C_NoLine) (.ref C_NoLine) = some true)
    (kRR : PySem.W.kitOne K (.ref C_Reader) (.ref C_Reader) = some true)
    (kTR : PySem.W.kitOne K (.type "tuple") (.ref C_Reader) = some false)
    (k_tuple : PySem.W.kitOne K (.type "tuple") (.type "tuple") = some true)
    (k_list : PySem.W.kitOne K (.type "list") (.type "list") = some true)
    (k_bool : PySem.W.kitOne K (.type "bool") (.type "bool") = some true)
    (nt : PySem.W.notFirst K C_Reader (.type "tuple") = true)
    : ∃ fd : FuncData, (∀ (s : Shared) (v : Value), BindsTo s fd ⟨[v], []⟩ [("_law_script", v)]) ∧ ∀ base : Heap, K.In base → base.Ns mainGlobals mg → FnOk l.prog w K mg base CX0 12 fa fd ["_law_script"] (spLaw K) := by
  have e := hfa.symm.trans (PySem.W.mg_of X G a_law)
  cases e
  let Tg : Gtx K mg := {
    f_law_draw := f_law_draw,
    d_law_draw := _,
    F_law_draw := fun_mk (st := s_law_draw) l_law_draw c_law_draw k_law_draw,
    b_law_draw := (fun_mk (st := s_law_draw) l_law_draw c_law_draw k_law_draw).binds (ps := ["_law_pen", "_law_many"]) fun _ _ _ _ _ _ us hl => match us, hl with | [_, _], _ => rfl,
    m_law_draw := PySem.W.mg_of X G a_law_draw,
    f_law_pick := f_law_pick,
    d_law_pick := _,
    F_law_pick := fun_mk (st := s_law_pick) l_law_pick c_law_pick k_law_pick,
    b_law_pick := (fun_mk (st := s_law_pick) l_law_pick c_law_pick k_law_pick).binds (ps := ["_law_pen", "_law_row"]) fun _ _ _ _ _ _ us hl => match us, hl with | [_, _], _ => rfl,
    m_law_pick := PySem.W.mg_of X G a_law_pick,
    f_law_word := f_law_word,
    d_law_word := _,
    F_law_word := fun_mk (st := s_law_word) l_law_word c_law_word k_law_word,
    b_law_word := (fun_mk (st := s_law_word) l_law_word c_law_word k_law_word).binds (ps := ["_law_pen", "_law_most"]) fun _ _ _ _ _ _ us hl => match us, hl with | [_, _], _ => rfl,
    m_law_word := PySem.W.mg_of X G a_law_word,
    f_law_names := f_law_names,
    d_law_names := _,
    F_law_names := fun_mk (st := s_law_names) l_law_names c_law_names k_law_names,
    b_law_names := (fun_mk (st := s_law_names) l_law_names c_law_names k_law_names).binds (ps := ["_law_pen", "_law_many"]) fun _ _ _ _ _ _ us hl => match us, hl with | [_, _], _ => rfl,
    m_law_names := PySem.W.mg_of X G a_law_names,
    f_law_words := f_law_words,
    d_law_words := _,
    F_law_words := fun_mk (st := s_law_words) l_law_words c_law_words k_law_words,
    b_law_words := (fun_mk (st := s_law_words) l_law_words c_law_words k_law_words).binds (ps := ["_law_pen", "_law_many"]) fun _ _ _ _ _ _ us hl => match us, hl with | [_, _], _ => rfl,
    m_law_words := PySem.W.mg_of X G a_law_words,
    f_law_goal := f_law_goal,
    d_law_goal := _,
    F_law_goal := fun_mk (st := s_law_goal) l_law_goal c_law_goal k_law_goal,
    b_law_goal := (fun_mk (st := s_law_goal) l_law_goal c_law_goal k_law_goal).binds (ps := ["_law_pen", "_law_words_here", "_law_at"]) fun _ _ _ _ _ _ us hl => match us, hl with | [_, _, _], _ => rfl,
    m_law_goal := PySem.W.mg_of X G a_law_goal,
    f_law_ways := f_law_ways,
    d_law_ways := _,
    F_law_ways := fun_mk (st := s_law_ways) l_law_ways c_law_ways k_law_ways,
    b_law_ways := (fun_mk (st := s_law_ways) l_law_ways c_law_ways k_law_ways).binds (ps := ["_law_pen", "_law_names_here", "_law_words_here", "_law_at"]) fun _ _ _ _ _ _ us hl => match us, hl with | [_, _, _, _], _ => rfl,
    m_law_ways := PySem.W.mg_of X G a_law_ways,
    f_law_line := f_law_line,
    d_law_line := _,
    F_law_line := fun_mk (st := s_law_line) l_law_line c_law_line k_law_line,
    b_law_line := (fun_mk (st := s_law_line) l_law_line c_law_line k_law_line).binds (ps := ["_law_pen", "_law_names_here", "_law_words_here", "_law_at"]) fun _ _ _ _ _ _ us hl => match us, hl with | [_, _, _, _], _ => rfl,
    m_law_line := PySem.W.mg_of X G a_law_line,
    f_law_lines := f_law_lines,
    d_law_lines := _,
    F_law_lines := fun_mk (st := s_law_lines) l_law_lines c_law_lines k_law_lines,
    b_law_lines := (fun_mk (st := s_law_lines) l_law_lines c_law_lines k_law_lines).binds (ps := ["_law_pen", "_law_most"]) fun _ _ _ _ _ _ us hl => match us, hl with | [_, _], _ => rfl,
    m_law_lines := PySem.W.mg_of X G a_law_lines,
    z_int := PySem.W.mg_none_of X G z_int,
    z_len := PySem.W.mg_none_of X G z_len,
    z_max := PySem.W.mg_none_of X G z_max,
    z_min := PySem.W.mg_none_of X G z_min,
    z_range := PySem.W.mg_none_of X G z_range,
    z_list := PySem.W.mg_none_of X G z_list }
  have kl_ENTRIES := He.keysLit_of y_ENTRIES
  have kl_BOUNDS := He.keysLit_of y_BOUNDS
  have vE : ∀ x n, (x, n) ∈ entT → KDct K w A_ENTRIES x (.int n) := by
    intro x n hx
    simp only [entT, List.mem_cons, List.not_mem_nil, or_false, Prod.mk.injEq] at hx
    rcases hx with ⟨rfl, rfl⟩ | ⟨rfl, rfl⟩ | ⟨rfl, rfl⟩ | ⟨rfl, rfl⟩ | ⟨rfl, rfl⟩ | ⟨rfl, rfl⟩ | ⟨rfl, rfl⟩ | ⟨rfl, rfl⟩ | ⟨rfl, rfl⟩ | ⟨rfl, rfl⟩
    · exact ⟨_, _, _, l_ENTRIES, kl_ENTRIES, e_case, ⟨_, rfl⟩⟩
    · exact ⟨_, _, _, l_ENTRIES, kl_ENTRIES, e_take, ⟨_, rfl⟩⟩
    · exact ⟨_, _, _, l_ENTRIES, kl_ENTRIES, e_rest, ⟨_, rfl⟩⟩
    · exact ⟨_, _, _, l_ENTRIES, kl_ENTRIES, e_cap, ⟨_, rfl⟩⟩
    · exact ⟨_, _, _, l_ENTRIES, kl_ENTRIES, e_jump, ⟨_, rfl⟩⟩
    · exact ⟨_, _, _, l_ENTRIES, kl_ENTRIES, e_set, ⟨_, rfl⟩⟩
    · exact ⟨_, _, _, l_ENTRIES, kl_ENTRIES, e_upto, ⟨_, rfl⟩⟩
    · exact ⟨_, _, _, l_ENTRIES, kl_ENTRIES, e_skip, ⟨_, rfl⟩⟩
    · exact ⟨_, _, _, l_ENTRIES, kl_ENTRIES, e_cut, ⟨_, rfl⟩⟩
    · exact ⟨_, _, _, l_ENTRIES, kl_ENTRIES, e_refuse, ⟨_, rfl⟩⟩
  have vB : ∀ x lo hi, (x, lo, hi) ∈ bndT → ∃ a, KDct K w A_BOUNDS x (.ref a) ∧ ∀ H, SqT K H a [.int lo, .int hi] := by
    intro x lo hi hx
    simp only [bndT, List.mem_cons, List.not_mem_nil, or_false, Prod.mk.injEq] at hx
    rcases hx with ⟨rfl, rfl, rfl⟩ | ⟨rfl, rfl, rfl⟩ | ⟨rfl, rfl, rfl⟩ | ⟨rfl, rfl, rfl⟩ | ⟨rfl, rfl, rfl⟩ | ⟨rfl, rfl, rfl⟩
    · exact ⟨_, ⟨_, _, _, l_BOUNDS, kl_BOUNDS, b_rest, rfl⟩, fun H => .inr ⟨_, _, _, u_b_rest, rfl, rfl, (by show 2 ≤ sizeLine; decide), (.cons ⟨_, rfl⟩ (.cons ⟨_, rfl⟩ .nil))⟩⟩
    · exact ⟨_, ⟨_, _, _, l_BOUNDS, kl_BOUNDS, b_cap, rfl⟩, fun H => .inr ⟨_, _, _, u_b_cap, rfl, rfl, (by show 2 ≤ sizeLine; decide), (.cons ⟨_, rfl⟩ (.cons ⟨_, rfl⟩ .nil))⟩⟩
    · exact ⟨_, ⟨_, _, _, l_BOUNDS, kl_BOUNDS, b_jump, rfl⟩, fun H => .inr ⟨_, _, _, u_b_jump, rfl, rfl, (by show 2 ≤ sizeLine; decide), (.cons ⟨_, rfl⟩ (.cons ⟨_, rfl⟩ .nil))⟩⟩
    · exact ⟨_, ⟨_, _, _, l_BOUNDS, kl_BOUNDS, b_set, rfl⟩, fun H => .inr ⟨_, _, _, u_b_set, rfl, rfl, (by show 2 ≤ sizeLine; decide), (.cons ⟨_, rfl⟩ (.cons ⟨_, rfl⟩ .nil))⟩⟩
    · exact ⟨_, ⟨_, _, _, l_BOUNDS, kl_BOUNDS, b_upto, rfl⟩, fun H => .inr ⟨_, _, _, u_b_upto, rfl, rfl, (by show 2 ≤ sizeLine; decide), (.cons ⟨_, rfl⟩ (.cons ⟨_, rfl⟩ .nil))⟩⟩
    · exact ⟨_, ⟨_, _, _, l_BOUNDS, kl_BOUNDS, b_skip, rfl⟩, fun H => .inr ⟨_, _, _, u_b_skip, rfl, rfl, (by show 2 ≤ sizeLine; decide), (.cons ⟨_, rfl⟩ (.cons ⟨_, rfl⟩ .nil))⟩⟩
  have oB : ∀ x, x ∈ (["case", "take", "cut", "refuse"] : List Str) → PySem.W.nsIn K A_BOUNDS x = some none := by
    intro x hx
    simp only [List.mem_cons, List.not_mem_nil, or_false] at hx
    rcases hx with rfl | rfl | rfl | rfl
    · exact o_case
    · exact o_take
    · exact o_cut
    · exact o_refuse
  let Tp : Ptx w K mg := {
    f_is_name := f_is_name,
    d_is_name := _,
    F_is_name := fun_mk (st := s_is_name) l_is_name c_is_name k_is_name,
    b_is_name := (fun_mk (st := s_is_name) l_is_name c_is_name k_is_name).binds (ps := ["text"]) fun _ _ _ _ _ _ us hl => match us, hl with | [_], _ => rfl,
    m_is_name := PySem.W.mg_of X G a_is_name,
    f_within := f_within,
    d_within := _,
    F_within := fun_mk (st := s_within) l_within c_within k_within,
    b_within := (fun_mk (st := s_within) l_within c_within k_within).binds (ps := ["number", "bounds"]) fun _ _ _ _ _ _ us hl => match us, hl with | [_, _], _ => rfl,
    m_within := PySem.W.mg_of X G a_within,
    f_are_ways := f_are_ways,
    d_are_ways := _,
    F_are_ways := fun_mk (st := s_are_ways) l_are_ways c_are_ways k_are_ways,
    b_are_ways := (fun_mk (st := s_are_ways) l_are_ways c_are_ways k_are_ways).binds (ps := ["ways"]) fun _ _ _ _ _ _ us hl => match us, hl with | [_], _ => rfl,
    m_are_ways := PySem.W.mg_of X G a_are_ways,
    f_has_form := f_has_form,
    d_has_form := _,
    F_has_form := fun_mk (st := s_has_form) l_has_form c_has_form k_has_form,
    b_has_form := (fun_mk (st := s_has_form) l_has_form c_has_form k_has_form).binds (ps := ["line"]) fun _ _ _ _ _ _ us hl => match us, hl with | [_], _ => rfl,
    m_has_form := PySem.W.mg_of X G a_has_form,
    f_frozen := f_frozen,
    d_frozen := _,
    F_frozen := fun_mk (st := s_frozen) l_frozen c_frozen k_frozen,
    b_frozen := (fun_mk (st := s_frozen) l_frozen c_frozen k_frozen).binds (ps := ["line"]) fun _ _ _ _ _ _ us hl => match us, hl with | [_], _ => rfl,
    m_frozen := PySem.W.mg_of X G a_frozen,
    f_goals := f_goals,
    d_goals := _,
    F_goals := fun_mk (st := s_goals) l_goals c_goals k_goals,
    b_goals := (fun_mk (st := s_goals) l_goals c_goals k_goals).binds (ps := ["line"]) fun _ _ _ _ _ _ us hl => match us, hl with | [_], _ => rfl,
    m_goals := PySem.W.mg_of X G a_goals,
    f_check_forms := f_check_forms,
    d_check_forms := _,
    F_check_forms := fun_mk (st := s_check_forms) l_check_forms c_check_forms k_check_forms,
    b_check_forms := (fun_mk (st := s_check_forms) l_check_forms c_check_forms k_check_forms).binds (ps := ["lines"]) fun _ _ _ _ _ _ us hl => match us, hl with | [_], _ => rfl,
    m_check_forms := PySem.W.mg_of X G a_check_forms,
    f_check_goals := f_check_goals,
    d_check_goals := _,
    F_check_goals := fun_mk (st := s_check_goals) l_check_goals c_check_goals k_check_goals,
    b_check_goals := (fun_mk (st := s_check_goals) l_check_goals c_check_goals k_check_goals).binds (ps := ["lines"]) fun _ _ _ _ _ _ us hl => match us, hl with | [_], _ => rfl,
    m_check_goals := PySem.W.mg_of X G a_check_goals,
    f_silent_ways := f_silent_ways,
    d_silent_ways := _,
    F_silent_ways := fun_mk (st := s_silent_ways) l_silent_ways c_silent_ways k_silent_ways,
    b_silent_ways := (fun_mk (st := s_silent_ways) l_silent_ways c_silent_ways k_silent_ways).binds (ps := ["lines"]) fun _ _ _ _ _ _ us hl => match us, hl with | [_], _ => rfl,
    m_silent_ways := PySem.W.mg_of X G a_silent_ways,
    f_reached := f_reached,
    d_reached := _,
    F_reached := fun_mk (st := s_reached) l_reached c_reached k_reached,
    b_reached := (fun_mk (st := s_reached) l_reached c_reached k_reached).binds (ps := ["ways", "names"]) fun _ _ _ _ _ _ us hl => match us, hl with | [_, _], _ => rfl,
    m_reached := PySem.W.mg_of X G a_reached,
    f_check_rings := f_check_rings,
    d_check_rings := _,
    F_check_rings := fun_mk (st := s_check_rings) l_check_rings c_check_rings k_check_rings,
    b_check_rings := (fun_mk (st := s_check_rings) l_check_rings c_check_rings k_check_rings).binds (ps := ["lines"]) fun _ _ _ _ _ _ us hl => match us, hl with | [_], _ => rfl,
    m_check_rings := PySem.W.mg_of X G a_check_rings,
    f_check_begin := f_check_begin,
    d_check_begin := _,
    F_check_begin := fun_mk (st := s_check_begin) l_check_begin c_check_begin k_check_begin,
    b_check_begin := (fun_mk (st := s_check_begin) l_check_begin c_check_begin k_check_begin).binds (ps := ["lines"]) fun _ _ _ _ _ _ us hl => match us, hl with | [_], _ => rfl,
    m_check_begin := PySem.W.mg_of X G a_check_begin,
    a_ENTRIES := A_ENTRIES,
    es_E := _,
    n_E := _,
    m_ENTRIES := PySem.W.mg_of X G g_ENTRIES,
    kd_E := ⟨l_ENTRIES, kl_ENTRIES, w_ENTRIES⟩,
    v_E := vE,
    a_BOUNDS := A_BOUNDS,
    es_B := _,
    n_B := _,
    m_BOUNDS := PySem.W.mg_of X G g_BOUNDS,
    kd_B := ⟨l_BOUNDS, kl_BOUNDS, w_BOUNDS⟩,
    v_B := vB,
    o_B := oB,
    a_VALUES := A_VALUES,
    m_VALUES := PySem.W.mg_of X G g_VALUES,
    q_VALUES := fun H => .inr ⟨_, _, _, u_VALUES, rfl, rfl, (by show 2 ≤ sizeLine; decide), (.cons ⟨_, rfl⟩ (.cons ⟨_, rfl⟩ .nil))⟩,
    a_READING := A_READING,
    m_READING := PySem.W.mg_of X G g_READING,
    q_READING := fun H => .inr ⟨_, _, _, u_READING, rfl, rfl, (by show 5 ≤ sizeLine; decide), (.cons ⟨_, rfl⟩ (.cons ⟨_, rfl⟩ (.cons ⟨_, rfl⟩ (.cons ⟨_, rfl⟩ (.cons ⟨_, rfl⟩ .nil)))))⟩,
    a_NEVER_FIRST := A_NEVER_FIRST,
    m_NEVER_FIRST := PySem.W.mg_of X G g_NEVER_FIRST,
    q_NEVER_FIRST := fun H => .inr ⟨_, _, _, u_NEVER_FIRST, rfl, rfl, (by show 3 ≤ sizeLine; decide), (.cons ⟨_, rfl⟩ (.cons ⟨_, rfl⟩ (.cons ⟨_, rfl⟩ .nil)))⟩,
    t_L := t_L,
    t_M := t_M,
    t_N := t_N,
    m_MOST_LINES := PySem.W.mg_of X G m_MOST_LINES,
    m_MOST_LETTERS := PySem.W.mg_of X G m_MOST_LETTERS,
    m_LETTERS := PySem.W.mg_of X G m_LETTERS,
    z_len := PySem.W.mg_none_of X G z_len,
    z_all := PySem.W.mg_none_of X G z_all,
    z_list := PySem.W.mg_none_of X G z_list,
    z_tuple := PySem.W.mg_none_of X G z_tuple,
    z_enumerate := PySem.W.mg_none_of X G z_enumerate,
    z_isinstance := PySem.W.mg_none_of X G z_isinstance,
    c_Reader := C_Reader,
    m_Reader := PySem.W.mg_of X G g_Reader,
    cl_Reader := ⟨pg, hd_R, po, sa_R⟩,
    n_lines := nl_R,
    f_Reader___init := f_Reader___init,
    d_Reader___init := _,
    F_Reader___init := fun_mk (st := s_Reader___init) l_Reader___init c_Reader___init k_Reader___init,
    b_Reader___init := (fun_mk (st := s_Reader___init) l_Reader___init c_Reader___init k_Reader___init).binds (ps := ["self", "lines"]) fun _ _ _ _ _ _ us hl => match us, hl with | [_, _], _ => rfl,
    mk_Reader := ⟨mk_R, a_Reader___init, i_Reader___init, kc_R⟩,
    f_Reader___eq := f_Reader___eq,
    d_Reader___eq := _,
    F_Reader___eq := fun_mk (st := s_Reader___eq) l_Reader___eq c_Reader___eq k_Reader___eq,
    b_Reader___eq := (fun_mk (st := s_Reader___eq) l_Reader___eq c_Reader___eq k_Reader___eq).binds (ps := ["self", "other"]) fun _ _ _ _ _ _ us hl => match us, hl with | [_, _], _ => rfl,
    h_Reader___eq := ⟨a_Reader___eq, i_Reader___eq, k_Reader___eq⟩,
    f_Reader_names := f_Reader_names,
    d_Reader_names := _,
    F_Reader_names := fun_mk (st := s_Reader_names) l_Reader_names c_Reader_names k_Reader_names,
    b_Reader_names := (fun_mk (st := s_Reader_names) l_Reader_names c_Reader_names k_Reader_names).binds (ps := ["self"]) fun _ _ _ _ _ _ us hl => match us, hl with | [_], _ => rfl,
    h_Reader_names := ⟨a_Reader_names, i_Reader_names, k_Reader_names⟩,
    f_Reader_line_of := f_Reader_line_of,
    d_Reader_line_of := _,
    F_Reader_line_of := fun_mk (st := s_Reader_line_of) l_Reader_line_of c_Reader_line_of k_Reader_line_of,
    b_Reader_line_of := (fun_mk (st := s_Reader_line_of) l_Reader_line_of c_Reader_line_of k_Reader_line_of).binds (ps := ["self", "name"]) fun _ _ _ _ _ _ us hl => match us, hl with | [_, _], _ => rfl,
    h_Reader_line_of := ⟨a_Reader_line_of, i_Reader_line_of, k_Reader_line_of⟩,
    f_Reader_exits := f_Reader_exits,
    d_Reader_exits := _,
    F_Reader_exits := fun_mk (st := s_Reader_exits) l_Reader_exits c_Reader_exits k_Reader_exits,
    b_Reader_exits := (fun_mk (st := s_Reader_exits) l_Reader_exits c_Reader_exits k_Reader_exits).binds (ps := ["self", "name"]) fun _ _ _ _ _ _ us hl => match us, hl with | [_, _], _ => rfl,
    h_Reader_exits := ⟨a_Reader_exits, i_Reader_exits, k_Reader_exits⟩,
    f_Reader_reads := f_Reader_reads,
    d_Reader_reads := _,
    F_Reader_reads := fun_mk (st := s_Reader_reads) l_Reader_reads c_Reader_reads k_Reader_reads,
    b_Reader_reads := (fun_mk (st := s_Reader_reads) l_Reader_reads c_Reader_reads k_Reader_reads).binds (ps := ["self", "name"]) fun _ _ _ _ _ _ us hl => match us, hl with | [_, _], _ => rfl,
    h_Reader_reads := ⟨a_Reader_reads, i_Reader_reads, k_Reader_reads⟩,
    f_Reader_replaced := f_Reader_replaced,
    d_Reader_replaced := _,
    F_Reader_replaced := fun_mk (st := s_Reader_replaced) l_Reader_replaced c_Reader_replaced k_Reader_replaced,
    b_Reader_replaced := (fun_mk (st := s_Reader_replaced) l_Reader_replaced c_Reader_replaced k_Reader_replaced).binds (ps := ["self", "name", "line"]) fun _ _ _ _ _ _ us hl => match us, hl with | [_, _, _], _ => rfl,
    h_Reader_replaced := ⟨a_Reader_replaced, i_Reader_replaced, k_Reader_replaced⟩,
    c_NoLine := C_NoLine,
    i_NoLine := f_NoLine,
    d_NoLine := _,
    F_NoLine := fun_mk (st := s_NoLine___init) l_NoLine c_NoLine k_NoLine,
    b_NoLine := (fun_mk (st := s_NoLine___init) l_NoLine c_NoLine k_NoLine).binds (ps := ["self", "name"]) fun _ _ _ _ _ _ us hl => match us, hl with | [_, _], _ => rfl,
    x_NoLine := ⟨⟨⟨_, _, _, _, _, _, _, _, _, _, _, _, _, _, _, L_NoLine, R_NoLine⟩, sa_NoLine, ex_NoLine, ty_NoLine, kc_NoLine⟩, ⟨ga_NoLine, gg_NoLine, ex_NoLine, hd_NoLine⟩, no_NoLine, a_NoLine, t_NoLine⟩,
    e_NoLine := ⟨ga_NoLine, gg_NoLine, ex_NoLine, hd_NoLine, cl_NoLine, sp, tk, mo_NoLine⟩,
    m_NoLine := PySem.W.mg_of X G g_NoLine }
  let T : Ltx w K mg := {
    g := Tg,
    p := Tp,
    z := ⟨kRR, kTR, fun h => .base (.ins h ⟨pg, hd_R, po, sa_R⟩ ca_R sp tk mo_R)⟩,
    c_SplitError := C_SplitError,
    m_SplitError := PySem.W.mg_of X G g_SplitError,
    kS := kS,
    kV := kV,
    te := te,
    hs := a_Reader___eq,
    hf := i_Reader___eq,
    kTT := k_tuple,
    kLL := k_list,
    kBB := k_bool,
    nt := nt,
    z_bool := PySem.W.mg_none_of X G z_bool,
    z_ValueError := PySem.W.mg_none_of X G z_ValueError,
    f_law_tidy := f_law_tidy,
    d_law_tidy := _,
    F_law_tidy := fun_mk (st := s_law_tidy) l_law_tidy c_law_tidy k_law_tidy,
    b_law_tidy := (fun_mk (st := s_law_tidy) l_law_tidy c_law_tidy k_law_tidy).binds (ps := ["_law_lines_here"]) fun _ _ _ _ _ _ us hl => match us, hl with | [_], _ => rfl,
    m_law_tidy := PySem.W.mg_of X G a_law_tidy,
    f_law_exits := f_law_exits,
    d_law_exits := _,
    F_law_exits := fun_mk (st := s_law_exits) l_law_exits c_law_exits k_law_exits,
    b_law_exits := (fun_mk (st := s_law_exits) l_law_exits c_law_exits k_law_exits).binds (ps := ["_law_line_here"]) fun _ _ _ _ _ _ us hl => match us, hl with | [_], _ => rfl,
    m_law_exits := PySem.W.mg_of X G a_law_exits,
    f_law_asked := f_law_asked,
    d_law_asked := _,
    F_law_asked := fun_mk (st := s_law_asked) l_law_asked c_law_asked k_law_asked,
    b_law_asked := (fun_mk (st := s_law_asked) l_law_asked c_law_asked k_law_asked).binds (ps := ["_law_reader", "_law_way", "_law_name"]) fun _ _ _ _ _ _ us hl => match us, hl with | [_, _, _], _ => rfl,
    m_law_asked := PySem.W.mg_of X G a_law_asked,
    f_law_keeps := f_law_keeps,
    d_law_keeps := _,
    F_law_keeps := fun_mk (st := s_law_keeps) l_law_keeps c_law_keeps k_law_keeps,
    b_law_keeps := (fun_mk (st := s_law_keeps) l_law_keeps c_law_keeps k_law_keeps).binds (ps := ["_law_reader", "_law_due"]) fun _ _ _ _ _ _ us hl => match us, hl with | [_, _], _ => rfl,
    m_law_keeps := PySem.W.mg_of X G a_law_keeps }
  exact ⟨PySem.W.fnOf "law" "law" (defArgs s_law) (defBody s_law) (defScope s_law) .none kV_law dc_law pm_law an_law cd_law ct_law, fun s v => .of_eq rfl, fun base _ _ => ok_law T (fun_mk (st := s_law) l_law c_law k_law)⟩
theorem walk {l : PySem.W.OpenLaw} {q : Program} {loose : List Str} {XP : (Str → Option Value) → Heap → Prop} {YP : World → Heap → Prop} {d : DefRec} {K : Params → PySem.W.Frag} (hn : l.most = some 63) (hdf : d.params.defaults = [])
    (hY : ∀ (w : World) (h : Heap), YP w h → (K w.params).In h)
    (F : ∀ (w : World) (mg : Str → Option Value) (fa : Addr) (h : Heap), (K w.params).In h → h.Ns mainGlobals mg → mg d.name = some (.ref fa) →
      ∃ fd : FuncData, (∀ (s : Shared) (u : Value), BindsTo s fd ⟨[u], []⟩ [("_law_script", u)]) ∧ ∀ base : Heap, (K w.params).In base → base.Ns mainGlobals mg → FnOk l.prog w (K w.params) mg base CX0 12 fa fd ["_law_script"] (spLaw (K w.params))) :
    PySem.W.WalkO q loose XP YP l.row.toRowW d [] (fun f vs => PySem.call f vs) :=
  L2.walk_of (n := 63) (k := 12) (x := "_law_script") (CX := fun _ => CX0) (sp := fun w => spLaw (K w.params)) hn (by decide) hdf ⟨rfl, by decide, by decide⟩ hY F (fun _ _ a ns hl _ hS => ⟨a, ns, rfl, hS, hl, fun _ => rfl⟩) fun _ _ _ _ _ z => z
end K02

open PySem PySem.W PyProof.Rows in
set_option maxRecDepth 100000 in
set_option maxHeartbeats 0 in
theorem PySem.Challenge.cw_splitalike_k02_readers_kept_holds : PySem.Challenge.rw_splitalike_k02_readers_kept.Holds := by
  w_on; o_law; k_head; (case hw => w_witness2)
  k_fill
  refine K02.walk (l := PySem.Challenge.rw_splitalike_k02_readers_kept) rfl rfl (fun w h Y => PySem.W.kIn_of Y) ?F
  case F =>
    intro w mg fa h KX G hmg
    refine' K02.all_mk KX G hmg ?g_SplitError ?g_NoLine ?g_Reader ?a_NoLine ?l_NoLine ?c_NoLine ?k_NoLine ?t_NoLine ?L_NoLine ?R_NoLine ?sa_NoLine ?ty_NoLine ?no_NoLine ?ga_NoLine ?gg_NoLine ?ex_NoLine ?hd_NoLine ?cl_NoLine ?mo_NoLine ?kc_NoLine ?sp ?tk ?pg ?hd_R ?po ?sa_R ?mk_R ?kc_R ?nl_R ?ca_R ?mo_R ?a_Reader___init ?l_Reader___init ?c_Reader___init ?k_Reader___init ?i_Reader___init ?a_Reader___eq ?l_Reader___eq ?c_Reader___eq ?k_Reader___eq ?i_Reader___eq ?a_Reader_names ?l_Reader_names ?c_Reader_names ?k_Reader_names ?i_Reader_names ?a_Reader_line_of ?l_Reader_line_of ?c_Reader_line_of ?k_Reader_line_of ?i_Reader_line_of ?a_Reader_exits ?l_Reader_exits ?c_Reader_exits ?k_Reader_exits ?i_Reader_exits ?a_Reader_reads ?l_Reader_reads ?c_Reader_reads ?k_Reader_reads ?i_Reader_reads ?a_Reader_replaced ?l_Reader_replaced ?c_Reader_replaced ?k_Reader_replaced ?i_Reader_replaced ?a_law_draw ?l_law_draw ?c_law_draw ?k_law_draw ?a_law_pick ?l_law_pick ?c_law_pick ?k_law_pick ?a_law_word ?l_law_word ?c_law_word ?k_law_word ?a_law_names ?l_law_names ?c_law_names ?k_law_names ?a_law_words ?l_law_words ?c_law_words ?k_law_words ?a_law_goal ?l_law_goal ?c_law_goal ?k_law_goal ?a_law_ways ?l_law_ways ?c_law_ways ?k_law_ways ?a_law_line ?l_law_line ?c_law_line ?k_law_line ?a_law_lines ?l_law_lines ?c_law_lines ?k_law_lines ?a_is_name ?l_is_name ?c_is_name ?k_is_name ?a_within ?l_within ?c_within ?k_within ?a_are_ways ?l_are_ways ?c_are_ways ?k_are_ways ?a_has_form ?l_has_form ?c_has_form ?k_has_form ?a_frozen ?l_frozen ?c_frozen ?k_frozen ?a_goals ?l_goals ?c_goals ?k_goals ?a_check_forms ?l_check_forms ?c_check_forms ?k_check_forms ?a_check_goals ?l_check_goals ?c_check_goals ?k_check_goals ?a_silent_ways ?l_silent_ways ?c_silent_ways ?k_silent_ways ?a_reached ?l_reached ?c_reached ?k_reached ?a_check_rings ?l_check_rings ?c_check_rings ?k_check_rings ?a_check_begin ?l_check_begin ?c_check_begin ?k_check_begin ?a_law_tidy ?l_law_tidy ?c_law_tidy ?k_law_tidy ?a_law_exits ?l_law_exits ?c_law_exits ?k_law_exits ?a_law_asked ?l_law_asked ?c_law_asked ?k_law_asked ?a_law_keeps ?l_law_keeps ?c_law_keeps ?k_law_keeps ?a_law ?l_law ?c_law ?k_law ?z_int ?z_len ?z_max ?z_min ?z_range ?z_list ?z_all ?z_tuple ?z_enumerate ?z_isinstance ?z_bool ?z_ValueError ?g_ENTRIES ?l_ENTRIES ?y_ENTRIES ?w_ENTRIES ?g_BOUNDS ?l_BOUNDS ?y_BOUNDS ?w_BOUNDS ?e_case ?e_take ?e_rest ?e_cap ?e_jump ?e_set ?e_upto ?e_skip ?e_cut ?e_refuse ?b_rest ?u_b_rest ?b_cap ?u_b_cap ?b_jump ?u_b_jump ?b_set ?u_b_set ?b_upto ?u_b_upto ?b_skip ?u_b_skip ?o_case ?o_take ?o_cut ?o_refuse ?g_VALUES ?u_VALUES ?g_READING ?u_READING ?g_NEVER_FIRST ?u_NEVER_FIRST ?m_MOST_LINES ?m_MOST_LETTERS ?m_LETTERS ?kS ?kV ?te ?kRR ?kTR ?k_tuple ?k_list ?k_bool ?nt
    (case g_SplitError => k_is)
    (case g_NoLine => k_is)
    (case g_Reader => k_is)
    (case a_NoLine => k_is)
    (case l_NoLine => k_is)
    (case c_NoLine => k_is)
    (case k_NoLine => k_is)
    (case t_NoLine => k_is)
    (case L_NoLine => k_is)
    (case R_NoLine => decide +kernel)
    (case sa_NoLine => k_is)
    (case ty_NoLine => k_is)
    (case no_NoLine => k_is)
    (case ga_NoLine => k_is)
    (case gg_NoLine => k_is)
    (case ex_NoLine => k_is)
    (case hd_NoLine => k_is)
    (case cl_NoLine => k_is)
    (case mo_NoLine => k_is)
    (case kc_NoLine => k_is)
    (case sp => k_is)
    (case tk => k_is)
    (case pg => k_is)
    (case hd_R => k_is)
    (case po => k_is)
    (case sa_R => k_is)
    (case mk_R => k_is)
    (case kc_R => k_is)
    (case nl_R => k_is)
    (case ca_R => k_is)
    (case mo_R => k_is)
    (case a_Reader___init => k_is)
    (case l_Reader___init => k_is)
    (case c_Reader___init => k_is)
    (case k_Reader___init => k_is)
    (case i_Reader___init => k_is)
    (case a_Reader___eq => k_is)
    (case l_Reader___eq => k_is)
    (case c_Reader___eq => k_is)
    (case k_Reader___eq => k_is)
    (case i_Reader___eq => k_is)
    (case a_Reader_names => k_is)
    (case l_Reader_names => k_is)
    (case c_Reader_names => k_is)
    (case k_Reader_names => k_is)
    (case i_Reader_names => k_is)
    (case a_Reader_line_of => k_is)
    (case l_Reader_line_of => k_is)
    (case c_Reader_line_of => k_is)
    (case k_Reader_line_of => k_is)
    (case i_Reader_line_of => k_is)
    (case a_Reader_exits => k_is)
    (case l_Reader_exits => k_is)
    (case c_Reader_exits => k_is)
    (case k_Reader_exits => k_is)
    (case i_Reader_exits => k_is)
    (case a_Reader_reads => k_is)
    (case l_Reader_reads => k_is)
    (case c_Reader_reads => k_is)
    (case k_Reader_reads => k_is)
    (case i_Reader_reads => k_is)
    (case a_Reader_replaced => k_is)
    (case l_Reader_replaced => k_is)
    (case c_Reader_replaced => k_is)
    (case k_Reader_replaced => k_is)
    (case i_Reader_replaced => k_is)
    (case a_law_draw => k_is)
    (case l_law_draw => k_is)
    (case c_law_draw => k_is)
    (case k_law_draw => k_is)
    (case a_law_pick => k_is)
    (case l_law_pick => k_is)
    (case c_law_pick => k_is)
    (case k_law_pick => k_is)
    (case a_law_word => k_is)
    (case l_law_word => k_is)
    (case c_law_word => k_is)
    (case k_law_word => k_is)
    (case a_law_names => k_is)
    (case l_law_names => k_is)
    (case c_law_names => k_is)
    (case k_law_names => k_is)
    (case a_law_words => k_is)
    (case l_law_words => k_is)
    (case c_law_words => k_is)
    (case k_law_words => k_is)
    (case a_law_goal => k_is)
    (case l_law_goal => k_is)
    (case c_law_goal => k_is)
    (case k_law_goal => k_is)
    (case a_law_ways => k_is)
    (case l_law_ways => k_is)
    (case c_law_ways => k_is)
    (case k_law_ways => k_is)
    (case a_law_line => k_is)
    (case l_law_line => k_is)
    (case c_law_line => k_is)
    (case k_law_line => k_is)
    (case a_law_lines => k_is)
    (case l_law_lines => k_is)
    (case c_law_lines => k_is)
    (case k_law_lines => k_is)
    (case a_is_name => k_is)
    (case l_is_name => k_is)
    (case c_is_name => k_is)
    (case k_is_name => k_is)
    (case a_within => k_is)
    (case l_within => k_is)
    (case c_within => k_is)
    (case k_within => k_is)
    (case a_are_ways => k_is)
    (case l_are_ways => k_is)
    (case c_are_ways => k_is)
    (case k_are_ways => k_is)
    (case a_has_form => k_is)
    (case l_has_form => k_is)
    (case c_has_form => k_is)
    (case k_has_form => k_is)
    (case a_frozen => k_is)
    (case l_frozen => k_is)
    (case c_frozen => k_is)
    (case k_frozen => k_is)
    (case a_goals => k_is)
    (case l_goals => k_is)
    (case c_goals => k_is)
    (case k_goals => k_is)
    (case a_check_forms => k_is)
    (case l_check_forms => k_is)
    (case c_check_forms => k_is)
    (case k_check_forms => k_is)
    (case a_check_goals => k_is)
    (case l_check_goals => k_is)
    (case c_check_goals => k_is)
    (case k_check_goals => k_is)
    (case a_silent_ways => k_is)
    (case l_silent_ways => k_is)
    (case c_silent_ways => k_is)
    (case k_silent_ways => k_is)
    (case a_reached => k_is)
    (case l_reached => k_is)
    (case c_reached => k_is)
    (case k_reached => k_is)
    (case a_check_rings => k_is)
    (case l_check_rings => k_is)
    (case c_check_rings => k_is)
    (case k_check_rings => k_is)
    (case a_check_begin => k_is)
    (case l_check_begin => k_is)
    (case c_check_begin => k_is)
    (case k_check_begin => k_is)
    (case a_law_tidy => k_is)
    (case l_law_tidy => k_is)
    (case c_law_tidy => k_is)
    (case k_law_tidy => k_is)
    (case a_law_exits => k_is)
    (case l_law_exits => k_is)
    (case c_law_exits => k_is)
    (case k_law_exits => k_is)
    (case a_law_asked => k_is)
    (case l_law_asked => k_is)
    (case c_law_asked => k_is)
    (case k_law_asked => k_is)
    (case a_law_keeps => k_is)
    (case l_law_keeps => k_is)
    (case c_law_keeps => k_is)
    (case k_law_keeps => k_is)
    (case a_law => k_is)
    (case l_law => k_is)
    (case c_law => k_is)
    (case k_law => k_is)
    (case z_int => k_is)
    (case z_len => k_is)
    (case z_max => k_is)
    (case z_min => k_is)
    (case z_range => k_is)
    (case z_list => k_is)
    (case z_all => k_is)
    (case z_tuple => k_is)
    (case z_enumerate => k_is)
    (case z_isinstance => k_is)
    (case z_bool => k_is)
    (case z_ValueError => k_is)
    (case g_ENTRIES => k_is)
    (case l_ENTRIES => k_is)
    (case y_ENTRIES => rfl)
    (case w_ENTRIES => first | rfl | decide +kernel)
    (case g_BOUNDS => k_is)
    (case l_BOUNDS => k_is)
    (case y_BOUNDS => rfl)
    (case w_BOUNDS => first | rfl | decide +kernel)
    (case e_case => k_is)
    (case e_take => k_is)
    (case e_rest => k_is)
    (case e_cap => k_is)
    (case e_jump => k_is)
    (case e_set => k_is)
    (case e_upto => k_is)
    (case e_skip => k_is)
    (case e_cut => k_is)
    (case e_refuse => k_is)
    (case b_rest => k_is)
    (case u_b_rest => k_is)
    (case b_cap => k_is)
    (case u_b_cap => k_is)
    (case b_jump => k_is)
    (case u_b_jump => k_is)
    (case b_set => k_is)
    (case u_b_set => k_is)
    (case b_upto => k_is)
    (case u_b_upto => k_is)
    (case b_skip => k_is)
    (case u_b_skip => k_is)
    (case o_case => k_is)
    (case o_take => k_is)
    (case o_cut => k_is)
    (case o_refuse => k_is)
    (case g_VALUES => k_is)
    (case u_VALUES => k_is)
    (case g_READING => k_is)
    (case u_READING => k_is)
    (case g_NEVER_FIRST => k_is)
    (case u_NEVER_FIRST => k_is)
    (case m_MOST_LINES => k_is)
    (case m_MOST_LETTERS => k_is)
    (case m_LETTERS => k_is)
    (case kS => exact of_decide_eq_true (by kernel_rfl))
    (case kV => exact of_decide_eq_true (by kernel_rfl))
    (case te => exact of_decide_eq_true (by kernel_rfl))
    (case kRR => exact of_decide_eq_true (by kernel_rfl))
    (case kTR => exact of_decide_eq_true (by kernel_rfl))
    (case k_tuple => exact of_decide_eq_true (by kernel_rfl))
    (case k_list => exact of_decide_eq_true (by kernel_rfl))
    (case k_bool => exact of_decide_eq_true (by kernel_rfl))
    (case nt => exact of_decide_eq_true (by kernel_rfl))
#print axioms PySem.Challenge.cw_splitalike_k02_readers_kept_holds

