import Derived.Test.YtpkkhkkkgjhkeaaGreatTree
/-
  THE WALKS of signetkeep.lives, pick.
-/
namespace Go.Proofs.YtpkkhkkkgjhkeaaGreat
open Go.RowKit
set_option maxRecDepth 100000

theorem sum_none : Sg.sumB { data := #[] } = { data := #[21, 5] } := by decide +kernel
theorem sum_zero : Sg.sumB { data := #[0] } = { data := #[181, 196] } := by decide +kernel

theorem pick_num {c : Int} {n : Nat} (hn : 1 ≤ n) (hc : 0 ≤ c) : ∃ j : Nat, j < n ∧ c.tmod (n : Int) = (j : Int) := by
  obtain ⟨m, rfl⟩ := Int.eq_ofNat_of_zero_le hc
  exact ⟨m % n, Nat.mod_lt _ (by omega), rfl⟩

end Go.Proofs.YtpkkhkkkgjhkeaaGreat

/-
  THE WALKS of Depth, isPath, and of both climbs (P4).
-/
namespace Go.Proofs.YtpkkhkkkgjhkeaaGreat
open Go.RowKit
set_option maxRecDepth 100000
attribute [local go_sem ↓] Go.wp_at_zero Go.wp_at_succ

/-- Has each text two bytes? -/
def twos (ss : List ByteArray) : Bool := ss.all fun s => s.size == 2
/-- Has a path the form of one of this leaf among so many? -/
def okPath (i n : Nat) (ss : List ByteArray) : Bool := decide (ss.length = Sg.depth i n) && twos ss
/-- A slice of texts, which may be nil or empty. -/
def StrsIn (w : World) (ao : Option Addr) (ss : List ByteArray) : Prop := ss.length = 0 ∨ ∃ b off, ao = some ⟨b, off, none⟩ ∧ b < w.heap.size ∧ StrsAt w b off ss

theorem ret_bool {a b : Bool} (h : a = b) : Ending.returned (.bool a) = .returned (.bool b) := by rw [h]
theorem twos_snoc {ss : List ByteArray} {j : Nat} (hj : j < ss.length) : twos (ss.take (j + 1)) = (twos (ss.take j) && (ss.getD j ByteArray.empty).size == 2) := by
  unfold twos
  rw [List.take_succ_eq_append_getElem hj, List.all_append]
  simp [List.getD, hj]
theorem twos_stop {ss : List ByteArray} {j : Nat} (hj : j < ss.length) (h : ((ss.getD j ByteArray.empty).size == 2) = false) : twos ss = false := by
  unfold twos
  rw [List.all_eq_false]
  refine ⟨ss[j], List.getElem_mem hj, ?_⟩
  simp [List.getD, hj] at h
  simpa using h

end Go.Proofs.YtpkkhkkkgjhkeaaGreat
