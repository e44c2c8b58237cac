/-
  THE WALKS of signetkeep.lives, pick.
-/
import Derived.Test.YtoadiibfmcjgaaaGreatHalf
namespace Go.Proofs.YtoadiibfmcjgaaaGreat
open Go.RowKit
set_option maxRecDepth 100000

theorem sum_none : Sg.sumB { data := #[] } = { data := #[21, 5] } := by decide +kernel
theorem sum_zero : Sg.sumB { data := #[0] } = { data := #[181, 196] } := by decide +kernel

theorem pick_num {c : Int} {n : Nat} (hn : 1 ≤ n) (hc : 0 ≤ c) : ∃ j : Nat, j < n ∧ c.tmod (n : Int) = (j : Int) := by
  obtain ⟨m, rfl⟩ := Int.eq_ofNat_of_zero_le hc
  exact ⟨m % n, Nat.mod_lt _ (by omega), rfl⟩

end Go.Proofs.YtoadiibfmcjgaaaGreat
