/-
  THE WALK of signetref.leaf.
-/
import Derived.Test.YtoadiibfmcjgaabDrills
namespace Go.Proofs.Ytoadiibfmcjgaab
open Go.RowKit
set_option maxRecDepth 100000

/-- A list that is the call's own, as a slice that is read. -/
theorem own_strs_shape {w : World} {base : Nat} {v : Value} {ss : List ByteArray} (h : OwnStrs w base v ss) : ∃ ao cap, v = .slice ao ss.length cap ∧ ss.length ≤ cap ∧ cap ≤ maxLen ∧ (1 ≤ ss.length → ∃ g, ao = some ⟨g, 0, none⟩ ∧ g < w.heap.size ∧ StrsAt w g 0 ss) := by
  have hk := h
  rcases h.2 with ⟨rfl, h0⟩ | ⟨g, cap, cur, rfl, _, hh, hle, hm, _, _⟩
  · exact ⟨none, 0, by rw [h0], by omega, by decide, fun h1 => by omega⟩
  · refine ⟨_, cap, rfl, hle, hm, fun _ => ⟨g, rfl, lt_of_block hh, fun i hi => ?_⟩⟩
    have := World.ownsRow.cellAt hk i (by omega)
    rw [Nat.zero_add, this]
    simp [List.getD, hi]

theorem fits_line (k : Int) (h : 0 ≤ k ∧ k ≤ 3) : -9223372036854775808 ≤ k ∧ k ≤ 9223372036854775807 := by omega

end Go.Proofs.Ytoadiibfmcjgaab
