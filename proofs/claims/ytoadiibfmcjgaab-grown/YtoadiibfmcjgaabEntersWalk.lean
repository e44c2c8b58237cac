/-
  THE WALK of signetref.enters.
-/
import Derived.Test.YtoadiibfmcjgaabEnters
namespace Go.Proofs.Ytoadiibfmcjgaab
open Go.RowKit
set_option maxRecDepth 100000
attribute [local go_sem ↓] Go.wp_at_zero Go.wp_at_succ

theorem past_alloc_cell {w : World} {ob : Obj} {b o : Nat} {v : Value} (h : w.cell? ⟨b, o, none⟩ = some v) : (w.alloc ob).cell? ⟨b, o, none⟩ = some v := (World.cell?_alloc_past _ _ _ (World.block_lt_of_cell? w _ h)).trans h
theorem grown_chain {w w1 w2 : World} {g : Nat} (h : w.grownBy w1 (some g)) (k : w1.grownBy w2 (some g)) : w.grownBy w2 (some g) :=
  ⟨k.os.trans h.os, k.tape.trans h.tape, k.output.trans h.output, Nat.le_trans h.size k.size, fun i hi hne => (k.block i (Nat.lt_of_lt_of_le hi h.size) hne).trans (h.block i hi hne)⟩
theorem below_grown {w w' : World} {g : Nat} (h : Below w.heap.size w w') : w.grownBy w' (some g) := ⟨h.os, h.tape, h.output, h.size, fun k hk _ => h.block k hk⟩
/-- The two boxes that enters makes first. -/
def boxes2 (w : World) (a b c d : Value) : World := (w.alloc (.cells #[a, b] 26)).alloc (.cells #[c, d] 40)
theorem boxes2_size (w : World) (a b c d : Value) : (boxes2 w a b c d).heap.size = w.heap.size + 2 := by unfold boxes2; simp
theorem boxes2_below (w : World) (a b c d : Value) : Below w.heap.size w (boxes2 w a b c d) := ((Below.refl _ _).alloc (Nat.le_refl _) _).alloc (by simp) _
theorem boxes2_cells (w : World) (a b c d : Value) : (boxes2 w a b c d).cell? ⟨w.heap.size, 0, none⟩ = some a ∧ (boxes2 w a b c d).cell? ⟨w.heap.size + 1, 1, none⟩ = some d := by
  unfold boxes2
  constructor
  · rw [World.cell?_alloc_past _ _ _ (by simp)]; simp
  · simp
/-- What a world that came behind them still has. -/
theorem boxes2_facts {w wr : World} {a b c d : Value} (h : Below (w.heap.size + 2) (boxes2 w a b c d) wr) :
    wr.cell? ⟨w.heap.size, 0, none⟩ = some a ∧ wr.cell? ⟨w.heap.size + 1, 1, none⟩ = some d ∧ Below w.heap.size w wr :=
  ⟨(h.cell (p := ⟨w.heap.size, 0, none⟩) (by simp)).trans (boxes2_cells w a b c d).1, (h.cell (p := ⟨w.heap.size + 1, 1, none⟩) (by simp)).trans (boxes2_cells w a b c d).2, (boxes2_below w a b c d).trans (h.mono (by omega))⟩


end Go.Proofs.Ytoadiibfmcjgaab
