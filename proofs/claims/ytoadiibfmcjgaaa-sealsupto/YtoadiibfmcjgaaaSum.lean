/-
  THE WALKS of Sum, both of them (P3).
-/
import Derived.Test.YtoadiibfmcjgaaaRows
import Derived.Test.YtoadiibfmcjgaaaMath
import Derived.WalkKit
import Derived.WalkSpells
import Derived.WalkLawsBesides
import Derived.Laws.BytesString
import Derived.Laws.IdiomStrings
import Derived.RowKit3
namespace Go.Proofs.Ytoadiibfmcjgaaa
open Go.RowKit
set_option maxRecDepth 100000

theorem ret_str {a b : ByteArray} (h : a = b) : Ending.returned (.string a) = .returned (.string b) := by rw [h]
theorem take_snoc (s : ByteArray) (k : Nat) (h : k < s.size) : s.data.toList.take (k + 1) = s.data.toList.take k ++ [s[k]] := by
  rw [List.take_succ_eq_append_getElem (by simpa using h)]; rfl

/-- The two bytes of a number below 65536, laid in a new block and read back as a text. -/
theorem conv2 (W : World) (n : Nat) (h : n < 65536) :
    (convert 109 9 (.slice (some ⟨W.heap.size, 0, none⟩) 2 2)).run Try.prog (W.alloc (.cells #[.int .u8 ((n : Int) / 256), .int .u8 ((n : Int) % 256)] 5)) =
      .ok (.string ⟨#[UInt8.ofNat (n / 256), UInt8.ofNat (n % 256)]⟩) (W.alloc (.cells #[.int .u8 ((n : Int) / 256), .int .u8 ((n : Int) % 256)] 5)) := by
  have e1 : (UInt8.ofNat (n / 256)).toNat = n / 256 := by simp; omega
  have e2 : (UInt8.ofNat (n % 256)).toNat = n % 256 := by simp
  refine run_convert_bytes_back (P := Try.prog) _ 109 9 5 ⟨W.heap.size, 0, none⟩ 2 [UInt8.ofNat (n / 256), UInt8.ofNat (n % 256)] Try.underlying109 Try.underlying5 Try.underlying9 ?_
  intro j hj
  match j, hj with
  | 0, _ =>
    show (W.alloc _).cell? ⟨W.heap.size, 0, none⟩ = _
    rw [World.cell?_alloc_mark]
    simp only [List.getElem_cons_zero, e1]
    simp
  | 1, _ =>
    show (W.alloc _).cell? ⟨W.heap.size, 1, none⟩ = _
    rw [World.cell?_alloc_mark]
    simp only [List.getElem_cons_succ, List.getElem_cons_zero, e2]
    simp

theorem stepI (n c : Nat) (h : n < 65521) (hc : c < 256) : (wrap64 (wrap64 ((n : Int) * 33 + wrap64 (c : Int)) + 1)).tmod 65521 = (((n * 33 + c + 1) % 65521 : Nat) : Int) := by
  have e : wrap64 (wrap64 ((n : Int) * 33 + wrap64 (c : Int)) + 1) = ((n * 33 + c + 1 : Nat) : Int) := by unfold wrap64; omega
  rw [e]
  rfl

set_option maxHeartbeats 400000 in
/-- sum.Of. -/
theorem sumOf_any (s : ByteArray) (w : World) (hs : s.size ≤ maxLen) :
    Calls Try.prog 39 #[.string s] w fun e w' => e = .returned (.string (Sg.sumB s)) ∧ Below w.heap.size w w' := by
  unfold maxLen at hs
  go_enter Try.func39, Try.ntmps39
  go_wp2
  go_loop [3, 7] (fun n i => ∃ k : Nat, k ≤ s.size ∧ i = .int .i64 k ∧ n = .int .i64 (Sg.sumN (s.data.toList.take k))) (fun _ i => s.size - (intOf i).toNat)
  case atStart => exact ⟨0, Nat.zero_le _, rfl, rfl⟩
  case round =>
    obtain ⟨k, hk, rfl, rfl⟩ := hrel
    have hd := Sg.sumN_lt (s.data.toList.take k)
    by_cases hlt : k < s.size
    · have HS : Hid (Sg.sumN (s.data.toList.take (k + 1)) = (Sg.sumN (s.data.toList.take k) * 33 + s[k].toNat + 1) % 65521) := by
        rw [take_snoc s k hlt]; exact Sg.sumN_snoc _ _
      go_wp2
      go_round
      case rel => exact ⟨k + 1, by omega, by go_num, by rw [HS.out, stepI _ _ hd (UInt8.toNat_lt _)]⟩
      case measure => simp [intOf]; omega
    · have hc := conv2 w _ (by omega : Sg.sumN (s.data.toList.take k) < 65536)
      go_wp2
      go_ret
      refine ⟨ret_str ?_, (Below.refl _ _).alloc (Nat.le_refl _) _⟩
      rw [List.take_of_length_le (by simp; omega)]; rfl

set_option maxHeartbeats 400000 in
/-- seal.Sum. -/
theorem sealSum_any (s : ByteArray) (w : World) (hs : s.size ≤ maxLen) :
    Calls Try.prog 10 #[.string s] w fun e w' => e = .returned (.string (Sg.sumB s)) ∧ Below w.heap.size w w' := by
  go_enter Try.func10, Try.ntmps10
  go_wp2_with fail
  refine (sumOf_any s _ hs).mono ?_
  rintro e w1 ⟨rfl, hb1⟩
  go_wp2_with fail
  go_ret
  exact ⟨rfl, hb1⟩
end Go.Proofs.Ytoadiibfmcjgaaa
