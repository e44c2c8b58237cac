/-
  PLAIN MATHEMATICS OF signet: sums (P3), trees (P4): lists and numbers alone, nothing of the program.
-/
namespace Go.Proofs.Ytoadiibfmcjgaaa.Sg

/-- One byte more (P3). -/
def stepN (h : Nat) (c : UInt8) : Nat := (h * 33 + c.toNat + 1) % 65521
/-- The number of a text (P3). -/
def sumN (l : List UInt8) : Nat := l.foldl stepN 5381
theorem sumN_snoc (l : List UInt8) (c : UInt8) : sumN (l ++ [c]) = (sumN l * 33 + c.toNat + 1) % 65521 := by
  unfold sumN; rw [List.foldl_append]; rfl
theorem stepN_lt (h : Nat) (c : UInt8) : stepN h c < 65521 := Nat.mod_lt _ (by decide)
theorem foldN_lt (l : List UInt8) : ∀ h, h < 65521 → l.foldl stepN h < 65521 := by
  induction l with
  | nil => intro h hh; exact hh
  | cons c l ih => intro h _; exact ih _ (stepN_lt h c)
theorem sumN_lt (l : List UInt8) : sumN l < 65521 := foldN_lt l _ (by decide)
theorem sumN_nil : sumN [] = 5381 := rfl

/-- The two bytes of a sum. -/
def sumL (l : List UInt8) : List UInt8 := [UInt8.ofNat (sumN l / 256), UInt8.ofNat (sumN l % 256)]
theorem sumL_length (l : List UInt8) : (sumL l).length = 2 := rfl

/-- The sum of a text, as a text. -/
def sumB (s : ByteArray) : ByteArray := ⟨(sumL s.data.toList).toArray⟩
theorem sumB_size (s : ByteArray) : (sumB s).size = 2 := rfl

/-- Big-endian, the last 'size' of the bytes of a number of 64 bits. -/
def beL (n : Int) : Nat → List UInt8
  | 0 => []
  | k + 1 => UInt8.ofNat (((n % 18446744073709551616).toNat / 256 ^ k) % 256) :: beL n k
theorem beL_length (n : Int) : ∀ k, (beL n k).length = k
  | 0 => rfl
  | k + 1 => by simp [beL, beL_length n k]
/-- The first 'done' bytes of 'size'. -/
def beTo (n : Int) (size : Nat) : Nat → List UInt8
  | 0 => []
  | d + 1 => beTo n size d ++ [UInt8.ofNat (((n % 18446744073709551616).toNat / 256 ^ (size - 1 - d)) % 256)]
theorem beTo_length (n : Int) (size : Nat) : ∀ d, (beTo n size d).length = d
  | 0 => rfl
  | d + 1 => by simp [beTo, beTo_length n size d]
theorem beTo_take (n : Int) (size : Nat) : ∀ d, d ≤ size → beTo n size d ++ beL n (size - d) = beL n size
  | 0, _ => by simp [beTo]
  | d + 1, h => by
    have ih := beTo_take n size d (by omega)
    have e : size - d = (size - (d + 1)) + 1 := by omega
    rw [e] at ih
    simp only [beL] at ih
    have e2 : size - 1 - d = size - (d + 1) := by omega
    simp only [beTo, e2, List.append_assoc, List.singleton_append]
    exact ih
theorem beTo_all (n : Int) (size : Nat) : beTo n size size = beL n size := by
  have := beTo_take n size size (Nat.le_refl _)
  simpa [beL] using this
theorem beL_sum (l : List UInt8) : beL (sumN l : Int) 2 = sumL l := by
  have h := sumN_lt l
  have e : ((sumN l : Int) % 18446744073709551616).toNat = sumN l := by omega
  simp only [beL, e, sumL]
  have e1 : sumN l / 256 ^ 1 % 256 = sumN l / 256 := by omega
  have e0 : sumN l / 256 ^ 0 % 256 = sumN l % 256 := by simp
  rw [e1, e0]

end Go.Proofs.Ytoadiibfmcjgaaa.Sg
