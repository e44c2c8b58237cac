import Derived.Test.YtpkkhkkkgjhkeabGreatTree
/-
  THE WALKS of signetkeep.lives, pick.
-/
namespace Go.Proofs.YtpkkhkkkgjhkeabGreat
open Go.RowKit
set_option maxRecDepth 100000

theorem sum_none : Sg.sumB { data := #[] } = { data := #[21, 5] } := by decide +kernel
theorem sum_zero : Sg.sumB { data := #[0] } = { data := #[181, 196] } := by decide +kernel

set_option maxHeartbeats 400000 in
/-- signetkeep.lives. -/
theorem lives_any (w : World) :
    Calls Tryz.prog 6 #[] w fun e w' => e = .returned (.bool true) ∧ Below w.heap.size w w' := by
  go_enter Tryz.func6, Tryz.ntmps6
  go_wp2_with fail
  refine (sealSum_any { data := #[] } _ (by decide)).mono ?_
  rintro e w1 ⟨rfl, hb1⟩
  rw [sum_none]
  go_wp2_with fail
  refine (sealSum_any { data := #[0] } _ (by decide)).mono ?_
  rintro e w2 ⟨rfl, hb2⟩
  rw [sum_zero]
  go_wp2_with fail
  go_ret
  exact ⟨rfl, hb1.trans (hb2.mono hb1.size)⟩

theorem pick_num {c : Int} {n : Nat} (hn : 1 ≤ n) (hc : 0 ≤ c) : ∃ j : Nat, j < n ∧ c.tmod (n : Int) = (j : Int) := by
  obtain ⟨m, rfl⟩ := Int.eq_ofNat_of_zero_le hc
  exact ⟨m % n, Nat.mod_lt _ (by omega), rfl⟩

set_option maxHeartbeats 400000 in
/-- signetkeep.pick. -/
theorem pick_any (c : Int) (n : Nat) (w : World) (hc : -9223372036854775808 ≤ c ∧ c ≤ 9223372036854775807) (hn : 1 ≤ n) (hn2 : n ≤ 1152921504606846976) :
    Calls Tryz.prog 8 #[.int .i64 c, .int .i64 (n : Int)] w fun e w' => ∃ j : Nat, e = .returned (.int .i64 (j : Int)) ∧ j < n ∧ w' = w := by
  obtain ⟨hc1, hc2⟩ := hc
  by_cases h0 : c < 0
  · obtain ⟨j, hj, he⟩ := pick_num (c := -(c + 1)) hn (by omega)
    rw [Int.neg_tmod] at he
    have HE : Hid (-(c + 1).tmod (n : Int) = (j : Int)) := he
    clear he
    go_enter Tryz.func8, Tryz.ntmps8
    go_wp2_with fail
    go_ret
    exact ⟨j, ret_int HE.out, hj, rfl⟩
  · obtain ⟨j, hj, he⟩ := pick_num (c := c) hn (by omega)
    have HE : Hid (c % (n : Int) = (j : Int)) := by
      show _ = _
      rw [← he, Int.tmod_eq_emod_of_nonneg (by omega)]
    clear he
    go_enter Tryz.func8, Tryz.ntmps8
    go_wp2_with fail
    go_ret
    exact ⟨j, ret_int HE.out, hj, rfl⟩

end Go.Proofs.YtpkkhkkkgjhkeabGreat

/-
  THE WALKS of Depth, isPath, and of both climbs (P4).
-/
namespace Go.Proofs.YtpkkhkkkgjhkeabGreat
open Go.RowKit
set_option maxRecDepth 100000
attribute [local go_sem ↓] Go.wp_at_zero Go.wp_at_succ

/-- Has each text two bytes? -/
def twos (ss : List ByteArray) : Bool := ss.all fun s => s.size == 2
/-- Has a path the form of one of this leaf among so many? -/
def okPath (i n : Nat) (ss : List ByteArray) : Bool := decide (ss.length = Sg.depth i n) && twos ss
/-- A slice of texts, which may be nil or empty. -/
def StrsIn (w : World) (ao : Option Addr) (ss : List ByteArray) : Prop := ss.length = 0 ∨ ∃ b off, ao = some ⟨b, off, none⟩ ∧ b < w.heap.size ∧ StrsAt w b off ss

theorem ret_bool {a b : Bool} (h : a = b) : Ending.returned (.bool a) = .returned (.bool b) := by rw [h]
theorem twos_snoc {ss : List ByteArray} {j : Nat} (hj : j < ss.length) : twos (ss.take (j + 1)) = (twos (ss.take j) && (ss.getD j ByteArray.empty).size == 2) := by
  unfold twos
  rw [List.take_succ_eq_append_getElem hj, List.all_append]
  simp [List.getD, hj]
theorem twos_stop {ss : List ByteArray} {j : Nat} (hj : j < ss.length) (h : ((ss.getD j ByteArray.empty).size == 2) = false) : twos ss = false := by
  unfold twos
  rw [List.all_eq_false]
  refine ⟨ss[j], List.getElem_mem hj, ?_⟩
  simp [List.getD, hj] at h
  simpa using h

end Go.Proofs.YtpkkhkkkgjhkeabGreat
