/-
  THE WALK of signetlaw.filled.
-/
import Derived.Test.YtoadiibfmcjgaaaFill
namespace Go.Proofs.Ytoadiibfmcjgaaa
open Go.RowKit
set_option maxRecDepth 100000

/-- A marked list, as it is read. -/
theorem marked_read {w : World} {mark : ByteArray} {v : Value} {m : Nat} (h : Marked w mark v m) : ∃ ao c, v = .slice ao m c ∧ m ≤ maxLen ∧ ∀ k, k < m → ∃ g, ao = some ⟨g, 0, none⟩ ∧ w.cell? ⟨g, k, none⟩ = some (.string mark) := by
  have hk := h
  rcases h.2 with ⟨rfl, h0⟩ | ⟨g, c, cur, rfl, _, hh, hle, hm, _, _⟩
  · subst h0; exact ⟨none, 0, rfl, by decide, fun k hk => by omega⟩
  · refine ⟨_, c, rfl, by omega, fun k hk' => ⟨g, rfl, ?_⟩⟩
    rw [World.ownsRow.cellAt hk k (by omega)]
    simp [marks, hk']

set_option maxHeartbeats 1600000 in
/-- signetlaw.filled. -/
theorem filled_any (v : Value) (n : Nat) (mark : ByteArray) (w : World) (h : Filled w mark n v) :
    Calls Try.prog 22 #[v, .string mark] w fun e w' => e = .returned (.bool true) ∧ w' = w := by
  obtain ⟨base, Gs, h4, hown, hall⟩ := h
  obtain ⟨g, c, rfl⟩ := own_shape hown
  have hcell : ∀ i, i < 4 → ∃ u, w.cell? ⟨g, i, none⟩ = some u ∧ Marked w mark u (n + i) := fun i hi => by
    have e : Gs[i]? = some Gs[i] := List.getElem?_eq_getElem (by omega)
    exact ⟨Gs[i], by rw [hown.cellAt i (by omega)]; exact e, hall i _ e⟩
  have HC : Hid (∀ i, i < 4 → ∃ u, w.cell? ⟨g, i, none⟩ = some u ∧ Marked w mark u (n + i)) := hcell
  clear hcell hown hall h4
  go_enter Try.func22, Try.ntmps22
  go_wp2_with fail
  go_loop [5, 6] (fun x _ => ∃ i : Nat, i ≤ 4 ∧ x = .int .i64 (i : Int)) (fun x _ => 4 - (intOf x).toNat)
  case atStart => exact ⟨0, by omega, rfl⟩
  case round =>
    obtain ⟨i, hi, rfl⟩ := hrel
    by_cases hlt : i < 4
    · obtain ⟨u, hu, hm⟩ := HC.out i hlt
      obtain ⟨ao, c', rfl, hmax, hread⟩ := marked_read hm
      have HR : Hid (∀ k, k < n + i → ∃ g, ao = some ⟨g, 0, none⟩ ∧ w.cell? ⟨g, k, none⟩ = some (.string mark)) := hread
      clear hm hread
      have i1 : (i : Int) < 4 := by omega
      have i2 : (0 : Int) ≤ (i : Int) := by omega
      unfold maxLen at hmax
      go_wp2_with fail
      go_loop [6] (fun y => ∃ k : Nat, k ≤ n + i ∧ y = .int .i64 (k : Int)) (fun y => n + i - (intOf y).toNat)
      case atStart => exact ⟨0, by omega, rfl⟩
      case round =>
        obtain ⟨k, hk, rfl⟩ := hrel
        by_cases hkl : k < n + i
        · obtain ⟨g', rfl, hc⟩ := HR.out k hkl
          have hkl' : (k : Int) < (n : Int) + (i : Int) := by omega
          go_wp2_with fail
          go_round
          case rel => exact ⟨k + 1, by omega, by go_num⟩
          case measure => simp [intOf]; omega
        · have hkl' : ¬ (k : Int) < (n : Int) + (i : Int) := by omega
          go_wp2_with fail
          go_round
          case rel => exact ⟨i + 1, by omega, by go_num⟩
          case measure => simp [intOf]; omega
    · have i1 : ¬ (i : Int) < 4 := by omega
      go_wp2_with fail
      go_ret
      exact ⟨rfl, rfl⟩
end Go.Proofs.Ytoadiibfmcjgaaa
