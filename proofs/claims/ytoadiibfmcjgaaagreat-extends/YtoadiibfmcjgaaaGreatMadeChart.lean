/-
  signetkeep.chart: the accounts that are made (its walk is not done).
-/
import Derived.Test.YtoadiibfmcjgaaaGreatMadeEntry
import Derived.Test.YtoadiibfmcjgaaaGreatBclose
import Derived.Deep.RegionLaw
namespace Go.Proofs.YtoadiibfmcjgaaaGreat
open Go.RowKit
set_option maxRecDepth 100000
attribute [local go_sem ↓] Go.wp_at_zero Go.wp_at_succ

theorem Tryz.infoAcc2 : (Tryz.prog.info? 59).map (fun i => (i.zero, i.size, i.bytes)) = some (some (.agg #[.string ByteArray.empty, .int .i64 0]), 2, 24) := by kernel_rfl
/-- Accounts, cell by cell. -/
def aCells (ac : List Sg.Acc) : List Value := ac.flatMap fun a => [.string a.name, .int .i64 a.line]
theorem aCells_snoc (ac : List Sg.Acc) (a : Sg.Acc) : aCells (ac ++ [a]) = aCells ac ++ [.string a.name, .int .i64 a.line] := by unfold aCells; rw [List.flatMap_append]; simp
def OwnA (w : World) (base : Nat) (v : Value) (ac : List Sg.Acc) : Prop := w.ownsRow base 59 2 v ac.length (aCells ac)
theorem OwnA.below {w w' : World} {base : Nat} {v : Value} {ac : List Sg.Acc} (h : OwnA w base v ac) (hb : Below w.heap.size w w') : OwnA w' base v ac := ownsRow_below h hb

/-- The name of an account that is made. -/
def keepName (i : Nat) : ByteArray := ({ data := #[97, 99, 99, 111, 117, 110, 116, 32] } : ByteArray) ++ ⟨#[UInt8.ofNat (97 + i)]⟩
theorem keepName_size (i : Nat) : (keepName i).size = 9 := by unfold keepName; rw [ByteArray.size_append]; rfl
theorem keepName_inj {i j : Nat} (hi : i < 8) (hj : j < 8) (h : keepName i = keepName j) : i = j := by
  have := congrArg (fun b : ByteArray => b.data.toList) h
  simp [keepName] at this
  have h2 := congrArg UInt8.toNat this
  simp at h2
  omega
/-- A chart so far. -/
def ChartTo (ac : List Sg.Acc) : Prop := ∀ i (h : i < ac.length), ac[i].name = keepName i ∧ 0 ≤ ac[i].line ∧ ac[i].line ≤ 3
theorem ChartTo.snoc {ac : List Sg.Acc} (h : ChartTo ac) {l : Int} (hl : 0 ≤ l ∧ l ≤ 3) : ChartTo (ac ++ [⟨keepName ac.length, l⟩]) := fun i hi => by
  rw [List.length_append, List.length_cons, List.length_nil] at hi
  by_cases e : i = ac.length
  · subst e
    rw [List.getElem_append_right (by omega)]
    simpa using hl
  · rw [List.getElem_append_left (by omega)]
    exact h i (by omega)
theorem ChartTo.ok {ac : List Sg.Acc} (h : ChartTo ac) (h8 : ac.length ≤ 8) : Sg.accsOk ac = true := by
  rw [Sg.accsOk_iff]
  intro i hi _
  obtain ⟨h1, h2, h3⟩ := h i hi
  refine ⟨decide_eq_true ⟨by rw [h1, keepName_size]; omega, by rw [h1, keepName_size]; omega, h2, h3⟩, fun j hj hji e => ?_⟩
  rw [(h j hj).1, h1] at e
  have := keepName_inj (by omega) (by omega) e
  omega
theorem keepByte (i : Nat) (hi : i < 8) : Sg.beL (97 + i : Int) 1 = [UInt8.ofNat (97 + i)] := by
  simp only [Sg.beL]
  have : (((97 + i : Int)) % 18446744073709551616).toNat / 256 ^ 0 % 256 = 97 + i := by omega
  rw [this]

theorem shr_bd (c : Int) (m : Nat) (hc : -9223372036854775808 ≤ c ∧ c ≤ 9223372036854775807) : -9223372036854775808 ≤ c / 2 ^ m ∧ c / 2 ^ m ≤ 9223372036854775807 := by
  have hp : (1 : Int) ≤ 2 ^ m := by
    have : (0 : Int) < 2 ^ m := Int.pow_pos (by decide)
    omega
  constructor
  · refine Int.le_trans ?_ (Int.ediv_le_ediv (by omega) hc.1)
    rw [Int.le_ediv_iff_mul_le (by omega)]
    omega
  · by_cases h0 : 0 ≤ c
    · exact Int.le_trans (Int.ediv_le_self _ h0) hc.2
    · have : c / 2 ^ m < 0 := Int.ediv_neg_of_neg_of_pos (by omega) (by omega)
      omega
end Go.Proofs.YtoadiibfmcjgaaaGreat
