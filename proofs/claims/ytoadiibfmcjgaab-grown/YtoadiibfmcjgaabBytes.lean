/-
  THE WALK of signetref.bytes, and of signetref.Sum (P3).
-/
import Derived.Test.YtoadiibfmcjgaabSum
namespace Go.Proofs.Ytoadiibfmcjgaab
open Go.RowKit
set_option maxRecDepth 100000

theorem Try.infoU8 : (Try.prog.info? 5).map (fun i => (i.zero, i.size, i.bytes)) = some (some (.int .u8 0), 1, 1) := by kernel_rfl

def byteVals (l : List UInt8) : List Value := l.map fun b => .int .u8 (b.toNat : Int)
theorem byteVals_length (l : List UInt8) : (byteVals l).length = l.length := by simp [byteVals]

/-- One append of one element by the law: what was below stays below. -/
theorem below_push {B : Nat} {e : TypeId} {w wr w1 : World} {v : Value} {n : Nat} {xs : List Value} {o : Obj} (hB : B ≤ wr.heap.size)
    (hown : wr.ownsRow B e 1 v n xs) (hbel : Below B w wr) (hgrow : (wr.alloc o).grownBy w1 v.ownBlock) : Below B w w1 :=
  (hbel.alloc hB o).grown hgrow (by simp; omega) (fun j hj => (hown.lt j hj).1)

theorem shift_byte (n : Int) (j : Nat) : IntKind.u64.wrap n / 2 ^ (8 * j) % 256 = ((UInt8.ofNat (((n % 18446744073709551616).toNat / 256 ^ j) % 256)).toNat : Int) := by
  have e0 : IntKind.u64.wrap n = n % 18446744073709551616 := by simp [IntKind.wrap, IntKind.bits, IntKind.signed]
  have hm : 0 ≤ n % 18446744073709551616 := by omega
  obtain ⟨M, hM⟩ := Int.eq_ofNat_of_zero_le hm
  rw [e0, hM]
  have e1 : ((2 : Int) ^ (8 * j)) = ((256 ^ j : Nat) : Int) := by
    rw [Int.pow_mul]; simp
  rw [e1]
  have e2 : (UInt8.ofNat ((M : Int).toNat / 256 ^ j % 256)).toNat = M / 256 ^ j % 256 := by simp
  rw [e2]
  simp

theorem beTo_push (n : Int) (size d : Nat) : byteVals (Sg.beTo n size d) ++ [.int .u8 (IntKind.u64.wrap n / 2 ^ (8 * (size - 1 - d)) % 256)] = byteVals (Sg.beTo n size (d + 1)) := by
  rw [shift_byte]; simp [byteVals, Sg.beTo]

/-- A slice of bytes that is the call's own, turned into a text. -/
theorem conv_own {w : World} {B : Nat} {g cap n : Nat} {l : List UInt8} (h : w.ownsRow B 5 1 (.slice (some ⟨g, 0, none⟩) n cap) n (byteVals l)) :
    (convert 57 9 (.slice (some ⟨g, 0, none⟩) n cap)).run Try.prog w = .ok (.string ⟨l.toArray⟩) w := by
  have hn : l.length = n := by have := h.1; simpa [byteVals] using this
  subst hn
  refine run_convert_bytes_back (P := Try.prog) w 57 9 5 ⟨g, 0, none⟩ cap l Try.underlying57 Try.underlying5 Try.underlying9 ?_
  intro j hj
  have := h.cellAt j (by simpa using hj)
  have ea : Addr.add ⟨g, 0, none⟩ j = ⟨g, j, none⟩ := by cases j <;> simp [Addr.add]
  rw [ea, this]
  simp [byteVals, hj]

end Go.Proofs.Ytoadiibfmcjgaab
