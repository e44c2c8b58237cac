/-
  THE WALK of sum.OfClimb (P12): the texts that are summed while one climbs, from the root down.
-/
import Derived.Test.YtpkkhkkkgjhkeabSumTs
import Derived.Test.YtpkkhkkkgjhkeabPick
namespace Go.Proofs.Ytpkkhkkkgjhkeab
open Go.RowKit
set_option maxRecDepth 100000
attribute [local go_sem ↓] Go.wp_at_zero Go.wp_at_succ

theorem strsIn_cell {w : World} {ao : Option Addr} {ss : List ByteArray} (h : StrsIn w ao ss) {k : Nat} (hk : k < ss.length) : ∃ b off, ao = some ⟨b, off, none⟩ ∧ w.cell? ⟨b, off + k, none⟩ = some (.string ss[k]) := by
  rcases h with h0 | ⟨b, off, e, _, hat⟩
  · omega
  · refine ⟨b, off, e, ?_⟩
    have := hat k hk
    rw [List.getD_eq_getElem?_getD, List.getElem?_eq_getElem hk] at this
    exact this
theorem strsIn_drew {w w' : World} {ao : Option Addr} {ss : List ByteArray} (h : StrsIn w ao ss) (hb : Below w.heap.size w w') : StrsIn w' ao ss := by
  rcases h with h0 | ⟨b, off, e, hbw, hat⟩
  · exact Or.inl h0
  · exact Or.inr ⟨b, off, e, Nat.lt_of_lt_of_le hbw hb.size, hat.below hb hbw⟩

theorem box_cell (w : World) (v : Value) (t : TypeId) : (w.alloc (.cells #[v] t)).cell? ⟨w.heap.size, 0, none⟩ = some v := by
  rw [cell_of_row _ w.heap.size 0 _ _ _ (heap_alloc_new w _)]; rfl
end Go.Proofs.Ytpkkhkkkgjhkeab
