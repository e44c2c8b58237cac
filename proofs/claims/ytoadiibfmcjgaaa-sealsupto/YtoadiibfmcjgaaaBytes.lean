/-
  THE WALK of signetref.bytes, and of signetref.Sum (P3).
-/
import Derived.Test.YtoadiibfmcjgaaaSum
namespace Go.Proofs.Ytoadiibfmcjgaaa
open Go.RowKit
set_option maxRecDepth 100000

theorem Try.infoU8 : (Try.prog.info? 5).map (fun i => (i.zero, i.size, i.bytes)) = some (some (.int .u8 0), 1, 1) := by kernel_rfl

def byteVals (l : List UInt8) : List Value := l.map fun b => .int .u8 (b.toNat : Int)
theorem byteVals_length (l : List UInt8) : (byteVals l).length = l.length := by simp [byteVals]

/-- One append of one element by the law: what was below stays below. -/
theorem below_push {B : Nat} {e : TypeId} {w wr w1 : World} {v : Value} {n : Nat} {xs : List Value} {o : Obj} (hB : B ≤ wr.heap.size)
    (hown : wr.ownsRow B e 1 v n xs) (hbel : Below B w wr) (hgrow : (wr.alloc o).grownBy w1 v.ownBlock) : Below B w w1 :=
  (hbel.alloc hB o).grown hgrow (by simp; omega) (fun j hj => (hown.lt j hj).1)

theorem shift_byte (n : Int) (j : Nat) : IntKind.u64.wrap n / 2 ^ (8 * j) % 256 = ((UInt8.ofNat (((n % 18446744073709551616).toNat / 256 ^ j) % 256)).toNat : Int) := by
  have e0 : IntKind.u64.wrap n = n % 18446744073709551616 := by simp [IntKind.wrap, IntKind.bits, IntKind.signed]
  have hm : 0 ≤ n % 18446744073709551616 := by omega
  obtain ⟨M, hM⟩ := Int.eq_ofNat_of_zero_le hm
  rw [e0, hM]
  have e1 : ((2 : Int) ^ (8 * j)) = ((256 ^ j : Nat) : Int) := by
    rw [Int.pow_mul]; simp
  rw [e1]
  have e2 : (UInt8.ofNat ((M : Int).toNat / 256 ^ j % 256)).toNat = M / 256 ^ j % 256 := by simp
  rw [e2]
  simp

theorem beTo_push (n : Int) (size d : Nat) : byteVals (Sg.beTo n size d) ++ [.int .u8 (IntKind.u64.wrap n / 2 ^ (8 * (size - 1 - d)) % 256)] = byteVals (Sg.beTo n size (d + 1)) := by
  rw [shift_byte]; simp [byteVals, Sg.beTo]

/-- A slice of bytes that is the call's own, turned into a text. -/
theorem conv_own {w : World} {B : Nat} {g cap n : Nat} {l : List UInt8} (h : w.ownsRow B 5 1 (.slice (some ⟨g, 0, none⟩) n cap) n (byteVals l)) :
    (convert 109 9 (.slice (some ⟨g, 0, none⟩) n cap)).run Try.prog w = .ok (.string ⟨l.toArray⟩) w := by
  have hn : l.length = n := by have := h.1; simpa [byteVals] using this
  subst hn
  refine run_convert_bytes_back (P := Try.prog) w 109 9 5 ⟨g, 0, none⟩ cap l Try.underlying109 Try.underlying5 Try.underlying9 ?_
  intro j hj
  have := h.cellAt j (by simpa using hj)
  have ea : Addr.add ⟨g, 0, none⟩ j = ⟨g, j, none⟩ := by cases j <;> simp [Addr.add]
  rw [ea, this]
  simp [byteVals, hj]

set_option maxHeartbeats 400000 in
theorem refBytes_any (n : Int) (size : Nat) (w : World) (hn : -9223372036854775808 ≤ n ∧ n ≤ 9223372036854775807) (hs : size ≤ 8) (h1 : 1 ≤ size) :
    Calls Try.prog 40 #[.int .i64 n, .int .i64 (size : Int)] w fun e w' => e = .returned (.string ⟨(Sg.beL n size).toArray⟩) ∧ Below w.heap.size w w' := by
  obtain ⟨i0, hi, hz0, hz1, hz2⟩ := info_parts Try.infoU8
  obtain ⟨hn1, hn2⟩ := hn
  go_enter Try.func40, Try.ntmps40
  go_wp2
  go_loopw [5, 6] (fun v i wr => ∃ d : Nat, d ≤ size ∧ i = .int .i64 ((size : Int) - 1 - d) ∧ wr.ownsRow w.heap.size 5 1 v d (byteVals (Sg.beTo n size d)) ∧ Below w.heap.size w wr) (fun _ i _ => (intOf i + 1).toNat)
  case atStart => exact ⟨0, by omega, by simp, World.ownsRow_nil _ _ _ _, Below.refl _ _⟩
  case round =>
    obtain ⟨d, hd, rfl, hown, hbel⟩ := hrel
    have hsz := hbel.size
    by_cases hlt : d < size
    · go_wp2_with (at_builtin; refine wpList_append_own _ rfl _ _ 109 rfl w.heap.size 5 i0 (.int .u8 0) 1 1 Try.underlying109 hi hz0 hz1 hz2 rfl (by decide) _ _ _ rfl (hown.alloc _) ⟨wr.heap.size, 0, none⟩ 1 1 [.int .u8 (IntKind.u64.wrap n / 2 ^ (8 * (size - 1 - d)) % 256)] rfl rfl ?c1 ?c2 ?c3 ?c4 ?c5 ?_)
      case c1 =>
        intro j u hj
        match j, hj with
        | 0, hj => simp at hj; subst hj; simp [Addr.add]
      case c2 => intro u hu; simp at hu; subst hu; rfl
      case c3 => unfold maxLen; omega
      case c4 => omega
      case c5 => simp; omega
      intro v' w1 hown' hgrow _
      have hb' := below_push hsz hown hbel hgrow
      rw [beTo_push] at hown'
      clear hgrow hown
      go_wp2
      go_roundw
      case rel => exact ⟨d + 1, by omega, by go_num, hown', hb'⟩
      case measure => simp [intOf]; omega
    · have hds : d = size := by omega
      rcases hown.2 with ⟨_, h0⟩ | ⟨g, cap, cur, rfl, _⟩
      · omega
      · have hc := conv_own hown
        rw [hds, Sg.beTo_all] at hc
        rw [hds]
        clear hown hds
        go_wp2
        go_ret
        exact ⟨rfl, hbel⟩

set_option maxHeartbeats 400000 in
/-- signetref.Sum. -/
theorem refSum_any (s : ByteArray) (w : World) (hs : s.size ≤ maxLen) :
    Calls Try.prog 11 #[.string s] w fun e w' => e = .returned (.string (Sg.sumB s)) ∧ Below w.heap.size w w' := by
  unfold maxLen at hs
  go_enter Try.func11, Try.ntmps11
  go_wp2
  go_loop [3, 4] (fun n i => ∃ k : Nat, k ≤ s.size ∧ i = .int .i64 k ∧ n = .int .i64 (Sg.sumN (s.data.toList.take k))) (fun _ i => s.size - (intOf i).toNat)
  case atStart => exact ⟨0, Nat.zero_le _, rfl, rfl⟩
  case round =>
    obtain ⟨k, hk, rfl, rfl⟩ := hrel
    have hd := Sg.sumN_lt (s.data.toList.take k)
    by_cases hlt : k < s.size
    · have HS : Hid (Sg.sumN (s.data.toList.take (k + 1)) = (Sg.sumN (s.data.toList.take k) * 33 + s[k].toNat + 1) % 65521) := by
        rw [take_snoc s k hlt]; exact Sg.sumN_snoc _ _
      go_wp2
      go_round
      case rel => exact ⟨k + 1, by omega, by go_num, by rw [HS.out, stepI _ _ hd (UInt8.toNat_lt _)]⟩
      case measure => simp [intOf]; omega
    · go_wp2_with (go_at_call 40; refine (refBytes_any _ 2 _ ⟨by omega, by omega⟩ (by decide) (by decide)).mono ?_; rintro e w' ⟨rfl, hbel⟩)
      go_ret
      refine ⟨ret_str ?_, by assumption⟩
      rw [List.take_of_length_le (by simp; omega), Sg.beL_sum]; rfl
end Go.Proofs.Ytoadiibfmcjgaaa
