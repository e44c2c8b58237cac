/-
  THE WALKS of lay.One, Two, Eight: numbers laid down in bytes.
-/
import Derived.Test.YtoadiibfmcjgaaaNum
namespace Go.Proofs.Ytoadiibfmcjgaaa
open Go.RowKit
set_option maxRecDepth 100000

/-- A block of bytes, read back as a text. -/
theorem conv_block (t : TypeId) (W : World) (l : List UInt8) (cs : Array Value) (n : Nat) (hn : l.length = n) (hc : ∀ j (h : j < l.length), cs[j]? = some (.int .u8 (l[j].toNat : Int))) :
    (convert 109 9 (.slice (some ⟨W.heap.size, 0, none⟩) n n)).run Try.prog (W.alloc (.cells cs t)) = .ok (.string ⟨l.toArray⟩) (W.alloc (.cells cs t)) := by
  subst hn
  refine run_convert_bytes_back (P := Try.prog) _ 109 9 5 ⟨W.heap.size, 0, none⟩ l.length l Try.underlying109 Try.underlying5 Try.underlying9 ?_
  intro j hj
  have ea : Addr.add ⟨W.heap.size, 0, none⟩ j = ⟨W.heap.size, j, none⟩ := by cases j <;> simp [Addr.add]
  rw [ea, World.cell?_alloc_mark, hc j hj]

theorem byte_low (n : Int) : n % 256 = ((UInt8.ofNat (((n % 18446744073709551616).toNat / 256 ^ 0) % 256)).toNat : Int) := by
  have : (UInt8.ofNat (((n % 18446744073709551616).toNat / 256 ^ 0) % 256)).toNat = (n % 18446744073709551616).toNat % 256 := by simp
  rw [this]; omega
theorem byte_next (n : Int) : n / 256 % 256 = ((UInt8.ofNat (((n % 18446744073709551616).toNat / 256 ^ 1) % 256)).toNat : Int) := by
  have : (UInt8.ofNat (((n % 18446744073709551616).toNat / 256 ^ 1) % 256)).toNat = (n % 18446744073709551616).toNat / 256 % 256 := by simp
  rw [this]; omega

set_option maxHeartbeats 400000 in
theorem one_any (n : Int) (w : World) :
    Calls Try.prog 70 #[.int .i64 n] w fun e w' => e = .returned (.string (Sg.beB n 1)) ∧ Below w.heap.size w w' := by
  have hc := conv_block 5 w (Sg.beL n 1) #[.int .u8 (n % 256)] 1 (Sg.beL_length _ _) (fun j hj => by
    rw [Sg.beL_length] at hj
    match j, hj with
    | 0, _ => simp only [Sg.beL, List.getElem_cons_zero]; rw [← byte_low]; rfl)
  go_enter Try.func70, Try.ntmps70
  go_wp2_with fail
  go_ret
  exact ⟨rfl, (Below.refl _ _).alloc (Nat.le_refl _) _⟩

set_option maxHeartbeats 400000 in
theorem two_any (n : Int) (w : World) :
    Calls Try.prog 134 #[.int .i64 n] w fun e w' => e = .returned (.string (Sg.beB n 2)) ∧ Below w.heap.size w w' := by
  have hc := conv_block 5 w (Sg.beL n 2) #[.int .u8 (n / 256 % 256), .int .u8 (n % 256)] 2 (Sg.beL_length _ _) (fun j hj => by
    rw [Sg.beL_length] at hj
    match j, hj with
    | 0, _ => simp only [Sg.beL, List.getElem_cons_zero]; rw [← byte_next]; rfl
    | 1, _ => simp only [Sg.beL, List.getElem_cons_zero, List.getElem_cons_succ]; rw [← byte_low]; rfl)
  go_enter Try.func134, Try.ntmps134
  go_wp2_with fail
  go_ret
  exact ⟨rfl, (Below.refl _ _).alloc (Nat.le_refl _) _⟩

/-- The bytes so far, and zeros. -/
def eightTo (n : Int) : Nat → Array Value
  | 0 => #[.int .u8 0, .int .u8 0, .int .u8 0, .int .u8 0, .int .u8 0, .int .u8 0, .int .u8 0, .int .u8 0]
  | 1 => #[.int .u8 (n / 72057594037927936 % 256), .int .u8 0, .int .u8 0, .int .u8 0, .int .u8 0, .int .u8 0, .int .u8 0, .int .u8 0]
  | 2 => #[.int .u8 (n / 72057594037927936 % 256), .int .u8 (n / 281474976710656 % 256), .int .u8 0, .int .u8 0, .int .u8 0, .int .u8 0, .int .u8 0, .int .u8 0]
  | 3 => #[.int .u8 (n / 72057594037927936 % 256), .int .u8 (n / 281474976710656 % 256), .int .u8 (n / 1099511627776 % 256), .int .u8 0, .int .u8 0, .int .u8 0, .int .u8 0, .int .u8 0]
  | 4 => #[.int .u8 (n / 72057594037927936 % 256), .int .u8 (n / 281474976710656 % 256), .int .u8 (n / 1099511627776 % 256), .int .u8 (n / 4294967296 % 256), .int .u8 0, .int .u8 0, .int .u8 0, .int .u8 0]
  | 5 => #[.int .u8 (n / 72057594037927936 % 256), .int .u8 (n / 281474976710656 % 256), .int .u8 (n / 1099511627776 % 256), .int .u8 (n / 4294967296 % 256), .int .u8 (n / 16777216 % 256), .int .u8 0, .int .u8 0, .int .u8 0]
  | 6 => #[.int .u8 (n / 72057594037927936 % 256), .int .u8 (n / 281474976710656 % 256), .int .u8 (n / 1099511627776 % 256), .int .u8 (n / 4294967296 % 256), .int .u8 (n / 16777216 % 256), .int .u8 (n / 65536 % 256), .int .u8 0, .int .u8 0]
  | 7 => #[.int .u8 (n / 72057594037927936 % 256), .int .u8 (n / 281474976710656 % 256), .int .u8 (n / 1099511627776 % 256), .int .u8 (n / 4294967296 % 256), .int .u8 (n / 16777216 % 256), .int .u8 (n / 65536 % 256), .int .u8 (n / 256 % 256), .int .u8 0]
  | _ => #[.int .u8 (n / 72057594037927936 % 256), .int .u8 (n / 281474976710656 % 256), .int .u8 (n / 1099511627776 % 256), .int .u8 (n / 4294967296 % 256), .int .u8 (n / 16777216 % 256), .int .u8 (n / 65536 % 256), .int .u8 (n / 256 % 256), .int .u8 (n % 256)]
theorem byte_at (n : Int) (k : Nat) (hk : k < 8) : n / ((256 ^ k : Nat) : Int) % 256 = ((UInt8.ofNat (((n % 18446744073709551616).toNat / 256 ^ k) % 256)).toNat : Int) := by
  have : (UInt8.ofNat (((n % 18446744073709551616).toNat / 256 ^ k) % 256)).toNat = (n % 18446744073709551616).toNat / 256 ^ k % 256 := by simp
  rw [this]
  match k, hk with
  | 0, _ => simp; omega
  | 1, _ => simp; omega
  | 2, _ => simp; omega
  | 3, _ => simp; omega
  | 4, _ => simp; omega
  | 5, _ => simp; omega
  | 6, _ => simp; omega
  | 7, _ => simp; omega
theorem eightTo_byte (n : Int) (j : Nat) (h : j < (Sg.beL n 8).length) : (eightTo n 8)[j]? = some (.int .u8 ((Sg.beL n 8)[j].toNat : Int)) := by
  have h8 : j < 8 := by rw [Sg.beL_length] at h; exact h
  match j, h8 with
  | 0, _ => simp only [Sg.beL, List.getElem_cons_zero]; rw [← byte_at n 7 (by omega)]; rfl
  | 1, _ => simp only [Sg.beL, List.getElem_cons_zero, List.getElem_cons_succ]; rw [← byte_at n 6 (by omega)]; rfl
  | 2, _ => simp only [Sg.beL, List.getElem_cons_zero, List.getElem_cons_succ]; rw [← byte_at n 5 (by omega)]; rfl
  | 3, _ => simp only [Sg.beL, List.getElem_cons_zero, List.getElem_cons_succ]; rw [← byte_at n 4 (by omega)]; rfl
  | 4, _ => simp only [Sg.beL, List.getElem_cons_zero, List.getElem_cons_succ]; rw [← byte_at n 3 (by omega)]; rfl
  | 5, _ => simp only [Sg.beL, List.getElem_cons_zero, List.getElem_cons_succ]; rw [← byte_at n 2 (by omega)]; rfl
  | 6, _ => simp only [Sg.beL, List.getElem_cons_zero, List.getElem_cons_succ]; rw [← byte_at n 1 (by omega)]; rfl
  | 7, _ => simp only [Sg.beL, List.getElem_cons_zero, List.getElem_cons_succ]; rw [← byte_low]; rfl

set_option maxHeartbeats 1600000 in
theorem eight_any (n : Int) (w : World) (hn : -9223372036854775808 ≤ n ∧ n ≤ 9223372036854775807) :
    Calls Try.prog 112 #[.int .i64 n] w fun e w' => e = .returned (.string (Sg.beB n 8)) ∧ Below w.heap.size w w' := by
  obtain ⟨n1, n2⟩ := hn
  have hc := conv_block 174 w (Sg.beL n 8) (eightTo n 8) 8 (Sg.beL_length _ _) (eightTo_byte n)
  go_enter Try.func112, Try.ntmps112
  go_wp2_with fail
  go_loopw [5] (fun i wr => ∃ k : Nat, k ≤ 8 ∧ i = .int .i64 (k : Int) ∧ wr = w.alloc (.cells (eightTo n k) 174)) (fun i _ => 8 - (intOf i).toNat)
  case atStart => exact ⟨0, by omega, rfl, rfl⟩
  case round =>
    obtain ⟨k, hk, rfl, rfl⟩ := hrel
    have hk9 : k = 0 ∨ k = 1 ∨ k = 2 ∨ k = 3 ∨ k = 4 ∨ k = 5 ∨ k = 6 ∨ k = 7 ∨ k = 8 := by omega
    rcases hk9 with rfl | rfl | rfl | rfl | rfl | rfl | rfl | rfl | rfl
    case inr.inr.inr.inr.inr.inr.inr.inr =>
      go_wp2_with fail
      go_ret
      exact ⟨rfl, (Below.refl _ _).alloc (Nat.le_refl _) _⟩
    all_goals
      clear hc
      simp only [eightTo]
      go_wp2_with fail
      go_roundw
      case rel => first | exact ⟨1, by omega, by first | rfl | go_num, rfl⟩ | exact ⟨2, by omega, by first | rfl | go_num, rfl⟩ | exact ⟨3, by omega, by first | rfl | go_num, rfl⟩ | exact ⟨4, by omega, by first | rfl | go_num, rfl⟩ | exact ⟨5, by omega, by first | rfl | go_num, rfl⟩ | exact ⟨6, by omega, by first | rfl | go_num, rfl⟩ | exact ⟨7, by omega, by first | rfl | go_num, rfl⟩ | exact ⟨8, by omega, by first | rfl | go_num, rfl⟩
      case measure => simp [intOf]
end Go.Proofs.Ytoadiibfmcjgaaa
