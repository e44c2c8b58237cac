/-
  THE WALK of signetref.Bounds.
-/
import Derived.Test.YtoadiibfmcjgaabBounds
namespace Go.Proofs.Ytoadiibfmcjgaab
open Go.RowKit
set_option maxRecDepth 100000

theorem txt_inj2 {x y : ByteArray} (h : x.toList = y.toList) : x = y := by
  rw [ByteArray.toList_eq, ByteArray.toList_eq] at h
  exact Go.WideShapes.bytes_inj h

theorem past_drewN {w W : World} {x y : Value} (h : W.cell? ⟨w.heap.size, 0, none⟩ = some x ∧ W.cell? ⟨w.heap.size, 1, none⟩ = some y ∧ Past w W) (q : Nat) :
    (W.drewN q).cell? ⟨w.heap.size, 0, none⟩ = some x ∧ (W.drewN q).cell? ⟨w.heap.size, 1, none⟩ = some y ∧ Past w (W.drewN q) :=
  ⟨by simpa using h.1, by simpa using h.2.1, by simpa using h.2.2.1, below_drewN h.2.2.2 q⟩

end Go.Proofs.Ytoadiibfmcjgaab
