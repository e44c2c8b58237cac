/-
  THE WALK of signetref.enters: an entry comes to the balances.
-/
import Derived.Test.YtoadiibfmcjgaaaBounds
namespace Go.Proofs.Ytoadiibfmcjgaaa
open Go.RowKit
set_option maxRecDepth 100000
attribute [local go_sem ↓] Go.wp_at_zero Go.wp_at_succ

/-- Whole numbers, cell by cell. -/
def wideCells (l : List Int) : List Value := l.flatMap fun v => [.int .i64 (wHi v), .int .i64 (wLo v)]
theorem wideCells_length : ∀ l, (wideCells l).length = l.length * 2
  | [] => rfl
  | v :: l => by simp only [wideCells, List.flatMap_cons, List.length_append, List.length_cons, List.length_nil]; have := wideCells_length l; unfold wideCells at this; rw [this]; omega
theorem wideCells_hi : ∀ (l : List Int) (i : Nat), i < l.length → (wideCells l)[i * 2]? = some (.int .i64 (wHi (l.getD i 0)))
  | v :: l, 0, _ => rfl
  | v :: l, i + 1, h => by
    have := wideCells_hi l i (by simpa using h)
    show ([Value.int .i64 (wHi v), .int .i64 (wLo v)] ++ wideCells l)[(i + 1) * 2]? = _
    rw [List.getElem?_append_right (by simp; omega)]
    simpa [show (i + 1) * 2 - 2 = i * 2 by omega] using this
theorem wideCells_lo : ∀ (l : List Int) (i : Nat), i < l.length → (wideCells l)[i * 2 + 1]? = some (.int .i64 (wLo (l.getD i 0)))
  | v :: l, 0, _ => rfl
  | v :: l, i + 1, h => by
    have := wideCells_lo l i (by simpa using h)
    show ([Value.int .i64 (wHi v), .int .i64 (wLo v)] ++ wideCells l)[(i + 1) * 2 + 1]? = _
    rw [List.getElem?_append_right (by simp; omega)]
    simpa [show (i + 1) * 2 + 1 - 2 = i * 2 + 1 by omega] using this
theorem wideCells_set : ∀ (l : List Int) (i : Nat) (v : Int), i < l.length → ((wideCells l).set (i * 2) (.int .i64 (wHi v))).set (i * 2 + 1) (.int .i64 (wLo v)) = wideCells (l.set i v)
  | u :: l, 0, v, _ => rfl
  | u :: l, i + 1, v, h => by
    have := wideCells_set l i v (by simpa using h)
    show (([Value.int .i64 (wHi u), .int .i64 (wLo u)] ++ wideCells l).set ((i + 1) * 2) _).set ((i + 1) * 2 + 1) _ = [Value.int .i64 (wHi u), .int .i64 (wLo u)] ++ wideCells (l.set i v)
    rw [List.set_append_right _ _ (by simp; omega), List.set_append_right _ _ (by simp; omega)]
    simp only [List.length_cons, List.length_nil, show (i + 1) * 2 - (0 + 1 + 1) = i * 2 by omega, show (i + 1) * 2 + 1 - (0 + 1 + 1) = i * 2 + 1 by omega]
    rw [this]

/-- A list of whole numbers in a block of its own. -/
def Wides (w : World) (g : Nat) (l : List Int) : Prop := w.heap[g]? = some (.cells (wideCells l).toArray 130 (0, 0))
theorem Wides.hi {w : World} {g : Nat} {l : List Int} (h : Wides w g l) {i : Nat} (hi : i < l.length) : w.cell? ⟨g, i * 2, none⟩ = some (.int .i64 (wHi (l.getD i 0))) := by
  rw [cell_of_row w g (i * 2) _ _ _ h]; simpa using wideCells_hi l i hi
theorem Wides.lo {w : World} {g : Nat} {l : List Int} (h : Wides w g l) {i : Nat} (hi : i < l.length) : w.cell? ⟨g, i * 2 + 1, none⟩ = some (.int .i64 (wLo (l.getD i 0))) := by
  rw [cell_of_row w g (i * 2 + 1) _ _ _ h]; simpa using wideCells_lo l i hi
theorem Wides.free {w : World} {g : Nat} {l : List Int} (h : Wides w g l) (j : Nat) : w.frozen? ⟨g, j, none⟩ = false := by
  unfold Wides at h; simp [World.frozen?, h]
theorem Wides.lt {w : World} {g : Nat} {l : List Int} (h : Wides w g l) : g < w.heap.size := lt_of_block h
theorem Wides.set {w : World} {g : Nat} {l : List Int} (h : Wides w g l) {i : Nat} (hi : i < l.length) (v : Int) : Wides ((w.setCell ⟨g, i * 2, none⟩ (.int .i64 (wHi v))).setCell ⟨g, i * 2 + 1, none⟩ (.int .i64 (wLo v))) g (l.set i v) := by
  have h1 := heap_setCell_same w g (i * 2) _ _ (.int .i64 (wHi v)) h
  have h2 := heap_setCell_same _ g (i * 2 + 1) _ _ (.int .i64 (wLo v)) h1
  unfold Wides
  rw [h2, ← wideCells_set l i v hi]
  simp
theorem Wides.block {w w' : World} {g : Nat} {l : List Int} (h : Wides w g l) (hb : w'.heap[g]? = w.heap[g]?) : Wides w' g l := hb.trans h
theorem setCell_grown (w : World) (g j : Nat) (u : Value) : w.grownBy (w.setCell ⟨g, j, none⟩ u) (some g) :=
  ⟨rfl, rfl, rfl, by simp [World.setCell], fun k _ hk => heap_setCell_other w ⟨g, j, none⟩ k u (fun e => hk (by simp [e]))⟩

namespace Sg
/-- Far from the ends, by so many amounts. -/
def Near (c : Nat) (v : Int) : Prop := -(9223372036854775808 * (c : Int)) ≤ v ∧ v ≤ 9223372036854775808 * (c : Int)
theorem Near.add {c : Nat} {v n : Int} (h : Near c v) (hn : -9223372036854775808 ≤ n ∧ n ≤ 9223372036854775807) : Near (c + 1) (v + n) := by
  obtain ⟨h1, h2⟩ := h; unfold Near; push_cast; omega
theorem Near.mono {c d : Nat} {v : Int} (h : Near c v) (hd : c ≤ d) : Near d v := by
  obtain ⟨h1, h2⟩ := h; unfold Near; omega
theorem near_fits {v : Int} (h : fits v = true) : Near 1 v := by
  have := of_decide_eq_true h; unfold Near; omega
theorem sum_take_succ (ps : List Pst) (k : Nat) (h : k < ps.length) : amtSum (ps.take (k + 1)) = amtSum (ps.take k) + ps[k].amt := by
  unfold amtSum; rw [List.take_succ_eq_append_getElem h, List.foldl_append]; rfl
theorem sum_near (ps : List Pst) (hf : ∀ p ∈ ps, fits p.amt = true) : ∀ k, k ≤ ps.length → Near k (amtSum (ps.take k))
  | 0, _ => by simp [amtSum, Near]
  | k + 1, h => by
    rw [sum_take_succ ps k (by omega)]
    exact (sum_near ps hf k (by omega)).add (of_decide_eq_true (hf _ (List.getElem_mem _)))
/-- The balances behind the first k postings. -/
def comesTo (ps : List Pst) (now : List Int) (k : Nat) : List Int := comesAll (ps.take k) now
theorem comesTo_succ (ps : List Pst) (now : List Int) (k : Nat) (h : k < ps.length) : comesTo ps now (k + 1) = comes (comesTo ps now k) ps[k].acct.toNat ps[k].amt := by
  unfold comesTo comesAll; rw [List.take_succ_eq_append_getElem h, List.foldl_append]; rfl
theorem comesTo_length (ps : List Pst) (now : List Int) : ∀ k, k ≤ ps.length → (comesTo ps now k).length = now.length
  | 0, _ => rfl
  | k + 1, h => by rw [comesTo_succ ps now k (by omega)]; unfold comes; rw [List.length_set]; exact comesTo_length ps now k (by omega)
theorem comes_near {l : List Int} {c i : Nat} {n : Int} (h : ∀ v ∈ l, Near c v) (hi : i < l.length) (hn : -9223372036854775808 ≤ n ∧ n ≤ 9223372036854775807) : ∀ v ∈ comes l i n, Near (c + 1) v := by
  intro v hv
  unfold comes at hv
  rcases List.mem_or_eq_of_mem_set hv with hv | rfl
  · exact (h v hv).mono (by omega)
  · refine (h _ ?_).add hn
    rw [List.getD_eq_getElem?_getD, List.getElem?_eq_getElem hi]; simp
theorem comesTo_near (ps : List Pst) (now : List Int) (c : Nat) (h : ∀ v ∈ now, Near c v) (hf : ∀ p ∈ ps, fits p.amt = true) (ha : ∀ p ∈ ps, 0 ≤ p.acct ∧ p.acct < (now.length : Int)) : ∀ k, k ≤ ps.length → ∀ v ∈ comesTo ps now k, Near (c + k) v
  | 0, _ => h
  | k + 1, hk => by
    rw [comesTo_succ ps now k (by omega)]
    have hp := List.getElem_mem (l := ps) (n := k) (by omega)
    refine comes_near (comesTo_near ps now c h hf ha k (by omega)) ?_ (of_decide_eq_true (hf _ hp))
    rw [comesTo_length ps now k (by omega)]
    have := ha _ hp
    omega
theorem comesTo_all (ps : List Pst) (now : List Int) : comesTo ps now ps.length = comesAll ps now := by unfold comesTo; rw [List.take_length]
end Sg
end Go.Proofs.Ytoadiibfmcjgaaa
