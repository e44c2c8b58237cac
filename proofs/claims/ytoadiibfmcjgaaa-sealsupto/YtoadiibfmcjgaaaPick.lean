/-
  THE WALKS of signetkeep.lives, pick.
-/
import Derived.Test.YtoadiibfmcjgaaaHalf
namespace Go.Proofs.Ytoadiibfmcjgaaa
open Go.RowKit
set_option maxRecDepth 100000

theorem sum_none : Sg.sumB { data := #[] } = { data := #[21, 5] } := by decide +kernel
theorem sum_zero : Sg.sumB { data := #[0] } = { data := #[181, 196] } := by decide +kernel

set_option maxHeartbeats 400000 in
/-- signetkeep.lives. -/
theorem lives_any (w : World) :
    Calls Try.prog 35 #[] w fun e w' => e = .returned (.bool true) ∧ Below w.heap.size w w' := by
  go_enter Try.func35, Try.ntmps35
  go_wp2_with fail
  refine (sealSum_any { data := #[] } _ (by decide)).mono ?_
  rintro e w1 ⟨rfl, hb1⟩
  rw [sum_none]
  go_wp2_with fail
  refine (sealSum_any { data := #[0] } _ (by decide)).mono ?_
  rintro e w2 ⟨rfl, hb2⟩
  rw [sum_zero]
  go_wp2_with fail
  go_ret
  exact ⟨rfl, hb1.trans (hb2.mono hb1.size)⟩

theorem pick_num {c : Int} {n : Nat} (hn : 1 ≤ n) (hc : 0 ≤ c) : ∃ j : Nat, j < n ∧ c.tmod (n : Int) = (j : Int) := by
  obtain ⟨m, rfl⟩ := Int.eq_ofNat_of_zero_le hc
  exact ⟨m % n, Nat.mod_lt _ (by omega), rfl⟩

set_option maxHeartbeats 400000 in
/-- signetkeep.pick. -/
theorem pick_any (c : Int) (n : Nat) (w : World) (hc : -9223372036854775808 ≤ c ∧ c ≤ 9223372036854775807) (hn : 1 ≤ n) (hn2 : n ≤ 1152921504606846976) :
    Calls Try.prog 36 #[.int .i64 c, .int .i64 (n : Int)] w fun e w' => ∃ j : Nat, e = .returned (.int .i64 (j : Int)) ∧ j < n ∧ w' = w := by
  obtain ⟨hc1, hc2⟩ := hc
  by_cases h0 : c < 0
  · obtain ⟨j, hj, he⟩ := pick_num (c := -(c + 1)) hn (by omega)
    rw [Int.neg_tmod] at he
    have HE : Hid (-(c + 1).tmod (n : Int) = (j : Int)) := he
    clear he
    go_enter Try.func36, Try.ntmps36
    go_wp2_with fail
    go_ret
    exact ⟨j, ret_int HE.out, hj, rfl⟩
  · obtain ⟨j, hj, he⟩ := pick_num (c := c) hn (by omega)
    have HE : Hid (c % (n : Int) = (j : Int)) := by
      show _ = _
      rw [← he, Int.tmod_eq_emod_of_nonneg (by omega)]
    clear he
    go_enter Try.func36, Try.ntmps36
    go_wp2_with fail
    go_ret
    exact ⟨j, ret_int HE.out, hj, rfl⟩

end Go.Proofs.Ytoadiibfmcjgaaa
