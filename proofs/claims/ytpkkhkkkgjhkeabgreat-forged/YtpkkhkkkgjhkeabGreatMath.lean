import Derived.Test.YtpkkhkkkgjhkeabGreatRows
import Derived.WalkKit
import Derived.WalkSpells
import Derived.WalkLawsBesides
import Derived.Laws.BytesString
import Derived.Laws.IdiomStrings
import Derived.RowKit3
/-
  PLAIN MATHEMATICS OF signet: sums (P3), trees (P4): lists and numbers alone, nothing of the program.
-/
namespace Go.Proofs.YtpkkhkkkgjhkeabGreat.Sg

/-- One byte more (P3). -/
def stepN (h : Nat) (c : UInt8) : Nat := (h * 33 + c.toNat + 1) % 65521
/-- The number of a text (P3). -/
def sumN (l : List UInt8) : Nat := l.foldl stepN 5381
theorem sumN_snoc (l : List UInt8) (c : UInt8) : sumN (l ++ [c]) = (sumN l * 33 + c.toNat + 1) % 65521 := by
  unfold sumN; rw [List.foldl_append]; rfl
theorem stepN_lt (h : Nat) (c : UInt8) : stepN h c < 65521 := Nat.mod_lt _ (by decide)
theorem foldN_lt (l : List UInt8) : ∀ h, h < 65521 → l.foldl stepN h < 65521 := by
  induction l with
  | nil => intro h hh; exact hh
  | cons c l ih => intro h _; exact ih _ (stepN_lt h c)
theorem sumN_lt (l : List UInt8) : sumN l < 65521 := foldN_lt l _ (by decide)
theorem sumN_nil : sumN [] = 5381 := rfl

/-- The two bytes of a sum. -/
def sumL (l : List UInt8) : List UInt8 := [UInt8.ofNat (sumN l / 256), UInt8.ofNat (sumN l % 256)]
theorem sumL_length (l : List UInt8) : (sumL l).length = 2 := rfl

/-- The sum of a text, as a text. -/
def sumB (s : ByteArray) : ByteArray := ⟨(sumL s.data.toList).toArray⟩
theorem sumB_size (s : ByteArray) : (sumB s).size = 2 := rfl

/-- Big-endian, the last 'size' of the bytes of a number of 64 bits. -/
def beL (n : Int) : Nat → List UInt8
  | 0 => []
  | k + 1 => UInt8.ofNat (((n % 18446744073709551616).toNat / 256 ^ k) % 256) :: beL n k
theorem beL_length (n : Int) : ∀ k, (beL n k).length = k
  | 0 => rfl
  | k + 1 => by simp [beL, beL_length n k]
/-- The first 'done' bytes of 'size'. -/
def beTo (n : Int) (size : Nat) : Nat → List UInt8
  | 0 => []
  | d + 1 => beTo n size d ++ [UInt8.ofNat (((n % 18446744073709551616).toNat / 256 ^ (size - 1 - d)) % 256)]
theorem beTo_length (n : Int) (size : Nat) : ∀ d, (beTo n size d).length = d
  | 0 => rfl
  | d + 1 => by simp [beTo, beTo_length n size d]
theorem beTo_take (n : Int) (size : Nat) : ∀ d, d ≤ size → beTo n size d ++ beL n (size - d) = beL n size
  | 0, _ => by simp [beTo]
  | d + 1, h => by
    have ih := beTo_take n size d (by omega)
    have e : size - d = (size - (d + 1)) + 1 := by omega
    rw [e] at ih
    simp only [beL] at ih
    have e2 : size - 1 - d = size - (d + 1) := by omega
    simp only [beTo, e2, List.append_assoc, List.singleton_append]
    exact ih
theorem beTo_all (n : Int) (size : Nat) : beTo n size size = beL n size := by
  have := beTo_take n size size (Nat.le_refl _)
  simpa [beL] using this
theorem beL_sum (l : List UInt8) : beL (sumN l : Int) 2 = sumL l := by
  have h := sumN_lt l
  have e : ((sumN l : Int) % 18446744073709551616).toNat = sumN l := by omega
  simp only [beL, e, sumL]
  have e1 : sumN l / 256 ^ 1 % 256 = sumN l / 256 := by omega
  have e0 : sumN l / 256 ^ 0 % 256 = sumN l % 256 := by simp
  rw [e1, e0]

end Go.Proofs.YtpkkhkkkgjhkeabGreat.Sg

/-
  THE WALKS of Sum, both of them (P3).
-/
namespace Go.Proofs.YtpkkhkkkgjhkeabGreat
open Go.RowKit
set_option maxRecDepth 100000

theorem ret_str {a b : ByteArray} (h : a = b) : Ending.returned (.string a) = .returned (.string b) := by rw [h]
theorem take_snoc (s : ByteArray) (k : Nat) (h : k < s.size) : s.data.toList.take (k + 1) = s.data.toList.take k ++ [s[k]] := by
  rw [List.take_succ_eq_append_getElem (by simpa using h)]; rfl

/-- The two bytes of a number below 65536, laid in a new block and read back as a text. -/
theorem conv2 (W : World) (n : Nat) (h : n < 65536) :
    (convert 54 9 (.slice (some ⟨W.heap.size, 0, none⟩) 2 2)).run Tryz.prog (W.alloc (.cells #[.int .u8 ((n : Int) / 256), .int .u8 ((n : Int) % 256)] 5)) =
      .ok (.string ⟨#[UInt8.ofNat (n / 256), UInt8.ofNat (n % 256)]⟩) (W.alloc (.cells #[.int .u8 ((n : Int) / 256), .int .u8 ((n : Int) % 256)] 5)) := by
  have e1 : (UInt8.ofNat (n / 256)).toNat = n / 256 := by simp; omega
  have e2 : (UInt8.ofNat (n % 256)).toNat = n % 256 := by simp
  refine run_convert_bytes_back (P := Tryz.prog) _ 54 9 5 ⟨W.heap.size, 0, none⟩ 2 [UInt8.ofNat (n / 256), UInt8.ofNat (n % 256)] Tryz.underlying54 Tryz.underlying5 Tryz.underlying9 ?_
  intro j hj
  match j, hj with
  | 0, _ =>
    show (W.alloc _).cell? ⟨W.heap.size, 0, none⟩ = _
    rw [World.cell?_alloc_mark]
    simp only [List.getElem_cons_zero, e1]
    simp
  | 1, _ =>
    show (W.alloc _).cell? ⟨W.heap.size, 1, none⟩ = _
    rw [World.cell?_alloc_mark]
    simp only [List.getElem_cons_succ, List.getElem_cons_zero, e2]
    simp

theorem stepI (n c : Nat) (h : n < 65521) (hc : c < 256) : (wrap64 (wrap64 ((n : Int) * 33 + wrap64 (c : Int)) + 1)).tmod 65521 = (((n * 33 + c + 1) % 65521 : Nat) : Int) := by
  have e : wrap64 (wrap64 ((n : Int) * 33 + wrap64 (c : Int)) + 1) = ((n * 33 + c + 1 : Nat) : Int) := by unfold wrap64; omega
  rw [e]
  rfl

set_option maxHeartbeats 400000 in
/-- sum.Of. -/
theorem sumOf_any (s : ByteArray) (w : World) (hs : s.size ≤ maxLen) :
    Calls Tryz.prog 28 #[.string s] w fun e w' => e = .returned (.string (Sg.sumB s)) ∧ Below w.heap.size w w' := by
  unfold maxLen at hs
  go_enter Tryz.func28, Tryz.ntmps28
  go_wp2
  go_loop [3, 7] (fun n i => ∃ k : Nat, k ≤ s.size ∧ i = .int .i64 k ∧ n = .int .i64 (Sg.sumN (s.data.toList.take k))) (fun _ i => s.size - (intOf i).toNat)
  case atStart => exact ⟨0, Nat.zero_le _, rfl, rfl⟩
  case round =>
    obtain ⟨k, hk, rfl, rfl⟩ := hrel
    have hd := Sg.sumN_lt (s.data.toList.take k)
    by_cases hlt : k < s.size
    · have HS : Hid (Sg.sumN (s.data.toList.take (k + 1)) = (Sg.sumN (s.data.toList.take k) * 33 + s[k].toNat + 1) % 65521) := by
        rw [take_snoc s k hlt]; exact Sg.sumN_snoc _ _
      go_wp2
      go_round
      case rel => exact ⟨k + 1, by omega, by go_num, by rw [HS.out, stepI _ _ hd (UInt8.toNat_lt _)]⟩
      case measure => simp [intOf]; omega
    · have hc := conv2 w _ (by omega : Sg.sumN (s.data.toList.take k) < 65536)
      go_wp2
      go_ret
      refine ⟨ret_str ?_, (Below.refl _ _).alloc (Nat.le_refl _) _⟩
      rw [List.take_of_length_le (by simp; omega)]; rfl

set_option maxHeartbeats 400000 in
/-- seal.Sum. -/
theorem sealSum_any (s : ByteArray) (w : World) (hs : s.size ≤ maxLen) :
    Calls Tryz.prog 16 #[.string s] w fun e w' => e = .returned (.string (Sg.sumB s)) ∧ Below w.heap.size w w' := by
  go_enter Tryz.func16, Tryz.ntmps16
  go_wp2_with fail
  refine (sumOf_any s _ hs).mono ?_
  rintro e w1 ⟨rfl, hb1⟩
  go_wp2_with fail
  go_ret
  exact ⟨rfl, hb1⟩
end Go.Proofs.YtpkkhkkkgjhkeabGreat

/-
  THE WALK of signetref.bytes, and of signetref.Sum (P3).
-/
namespace Go.Proofs.YtpkkhkkkgjhkeabGreat
open Go.RowKit
set_option maxRecDepth 100000

theorem Tryz.infoU8 : (Tryz.prog.info? 5).map (fun i => (i.zero, i.size, i.bytes)) = some (some (.int .u8 0), 1, 1) := by kernel_rfl

def byteVals (l : List UInt8) : List Value := l.map fun b => .int .u8 (b.toNat : Int)
theorem byteVals_length (l : List UInt8) : (byteVals l).length = l.length := by simp [byteVals]

/-- One append of one element by the law: what was below stays below. -/
theorem below_push {B : Nat} {e : TypeId} {w wr w1 : World} {v : Value} {n : Nat} {xs : List Value} {o : Obj} (hB : B ≤ wr.heap.size)
    (hown : wr.ownsRow B e 1 v n xs) (hbel : Below B w wr) (hgrow : (wr.alloc o).grownBy w1 v.ownBlock) : Below B w w1 :=
  (hbel.alloc hB o).grown hgrow (by simp; omega) (fun j hj => (hown.lt j hj).1)

theorem shift_byte (n : Int) (j : Nat) : IntKind.u64.wrap n / 2 ^ (8 * j) % 256 = ((UInt8.ofNat (((n % 18446744073709551616).toNat / 256 ^ j) % 256)).toNat : Int) := by
  have e0 : IntKind.u64.wrap n = n % 18446744073709551616 := by simp [IntKind.wrap, IntKind.bits, IntKind.signed]
  have hm : 0 ≤ n % 18446744073709551616 := by omega
  obtain ⟨M, hM⟩ := Int.eq_ofNat_of_zero_le hm
  rw [e0, hM]
  have e1 : ((2 : Int) ^ (8 * j)) = ((256 ^ j : Nat) : Int) := by
    rw [Int.pow_mul]; simp
  rw [e1]
  have e2 : (UInt8.ofNat ((M : Int).toNat / 256 ^ j % 256)).toNat = M / 256 ^ j % 256 := by simp
  rw [e2]
  simp

theorem beTo_push (n : Int) (size d : Nat) : byteVals (Sg.beTo n size d) ++ [.int .u8 (IntKind.u64.wrap n / 2 ^ (8 * (size - 1 - d)) % 256)] = byteVals (Sg.beTo n size (d + 1)) := by
  rw [shift_byte]; simp [byteVals, Sg.beTo]

/-- A slice of bytes that is the call's own, turned into a text. -/
theorem conv_own {w : World} {B : Nat} {g cap n : Nat} {l : List UInt8} (h : w.ownsRow B 5 1 (.slice (some ⟨g, 0, none⟩) n cap) n (byteVals l)) :
    (convert 54 9 (.slice (some ⟨g, 0, none⟩) n cap)).run Tryz.prog w = .ok (.string ⟨l.toArray⟩) w := by
  have hn : l.length = n := by have := h.1; simpa [byteVals] using this
  subst hn
  refine run_convert_bytes_back (P := Tryz.prog) w 54 9 5 ⟨g, 0, none⟩ cap l Tryz.underlying54 Tryz.underlying5 Tryz.underlying9 ?_
  intro j hj
  have := h.cellAt j (by simpa using hj)
  have ea : Addr.add ⟨g, 0, none⟩ j = ⟨g, j, none⟩ := by cases j <;> simp [Addr.add]
  rw [ea, this]
  simp [byteVals, hj]

end Go.Proofs.YtpkkhkkkgjhkeabGreat
