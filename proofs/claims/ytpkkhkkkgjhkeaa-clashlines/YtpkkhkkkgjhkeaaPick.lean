import Derived.Test.YtpkkhkkkgjhkeaaTree
/-
  THE WALKS of signetkeep.lives, pick.
-/
namespace Go.Proofs.Ytpkkhkkkgjhkeaa
open Go.RowKit
set_option maxRecDepth 100000

theorem sum_none : Sg.sumB { data := #[] } = { data := #[21, 5] } := by decide +kernel
theorem sum_zero : Sg.sumB { data := #[0] } = { data := #[181, 196] } := by decide +kernel

set_option maxHeartbeats 400000 in
/-- signetkeep.lives. -/
theorem lives_any (w : World) :
    Calls Try.prog 41 #[] w fun e w' => e = .returned (.bool true) ∧ Below w.heap.size w w' := by
  go_enter Try.func41, Try.ntmps41
  go_wp2_with fail
  refine (sealSum_any { data := #[] } _ (by decide)).mono ?_
  rintro e w1 ⟨rfl, hb1⟩
  rw [sum_none]
  go_wp2_with fail
  refine (sealSum_any { data := #[0] } _ (by decide)).mono ?_
  rintro e w2 ⟨rfl, hb2⟩
  rw [sum_zero]
  go_wp2_with fail
  go_ret
  exact ⟨rfl, hb1.trans (hb2.mono hb1.size)⟩

theorem pick_num {c : Int} {n : Nat} (hn : 1 ≤ n) (hc : 0 ≤ c) : ∃ j : Nat, j < n ∧ c.tmod (n : Int) = (j : Int) := by
  obtain ⟨m, rfl⟩ := Int.eq_ofNat_of_zero_le hc
  exact ⟨m % n, Nat.mod_lt _ (by omega), rfl⟩

set_option maxHeartbeats 400000 in
/-- signetkeep.pick. -/
theorem pick_any (c : Int) (n : Nat) (w : World) (hc : -9223372036854775808 ≤ c ∧ c ≤ 9223372036854775807) (hn : 1 ≤ n) (hn2 : n ≤ 1152921504606846976) :
    Calls Try.prog 42 #[.int .i64 c, .int .i64 (n : Int)] w fun e w' => ∃ j : Nat, e = .returned (.int .i64 (j : Int)) ∧ j < n ∧ w' = w := by
  obtain ⟨hc1, hc2⟩ := hc
  by_cases h0 : c < 0
  · obtain ⟨j, hj, he⟩ := pick_num (c := -(c + 1)) hn (by omega)
    rw [Int.neg_tmod] at he
    have HE : Hid (-(c + 1).tmod (n : Int) = (j : Int)) := he
    clear he
    go_enter Try.func42, Try.ntmps42
    go_wp2_with fail
    go_ret
    exact ⟨j, ret_int HE.out, hj, rfl⟩
  · obtain ⟨j, hj, he⟩ := pick_num (c := c) hn (by omega)
    have HE : Hid (c % (n : Int) = (j : Int)) := by
      show _ = _
      rw [← he, Int.tmod_eq_emod_of_nonneg (by omega)]
    clear he
    go_enter Try.func42, Try.ntmps42
    go_wp2_with fail
    go_ret
    exact ⟨j, ret_int HE.out, hj, rfl⟩

end Go.Proofs.Ytpkkhkkkgjhkeaa

/-
  THE WALKS of Depth, isPath, and of both climbs (P4).
-/
namespace Go.Proofs.Ytpkkhkkkgjhkeaa
open Go.RowKit
set_option maxRecDepth 100000
attribute [local go_sem ↓] Go.wp_at_zero Go.wp_at_succ

set_option maxHeartbeats 800000 in
/-- tree.Depth. -/
theorem depth_any (i n : Nat) (w : World) (hin : i < n) (hn : n ≤ 4096) :
    Calls Try.prog 80 #[.int .i64 (i : Int), .int .i64 (n : Int)] w fun e w' => e = .returned (.int .i64 (Sg.depth i n : Int)) ∧ w' = w := by
  go_enter Try.func80, Try.ntmps80
  go_wp2
  go_loop [0, 1, 5] (fun a m d => ∃ j k c : Nat, j < k ∧ k ≤ 4096 ∧ c + k ≤ 4096 ∧ Hid (c + Sg.depth j k = Sg.depth i n) ∧ a = .int .i64 (j : Int) ∧ m = .int .i64 (k : Int) ∧ d = .int .i64 (c : Int)) (fun _ m _ => (intOf m).toNat)
  case atStart => exact ⟨i, n, 0, hin, hn, by omega, by show _ = _; omega, rfl, rfl, rfl⟩
  case round =>
    obtain ⟨j, k, c, hjk, hk, hck, HD, rfl, rfl, rfl⟩ := hrel
    by_cases h1 : k ≤ 1
    · have HZ : Hid (Sg.depth j k = 0) := Sg.depth_one h1
      have h1' : ¬ (1 : Int) < (k : Int) := by omega
      go_wp2_with fail
      go_ret
      refine ⟨ret_int ?_, rfl⟩
      have h1 := HZ.out
      have h2 := HD.out
      omega
    · have h1' : (1 : Int) < (k : Int) := by omega
      have hlt := Sg.halfN_lt (n := k) (by omega)
      have hpos := Sg.halfN_pos k
      by_cases hjl : j < Sg.halfN k
      · have HL : Hid (Sg.depth j k = Sg.depth j (Sg.halfN k) + 1) := Sg.depth_left (by omega) hjl
        obtain ⟨q, hq⟩ : ∃ q, q = Sg.halfN k := ⟨_, rfl⟩
        rw [← hq] at HL hlt hpos hjl
        have HQ : Hid (q = Sg.halfN k) := hq
        clear hq
        have hjl' : (j : Int) < (q : Int) := by omega
        go_wp2_with fail
        refine (split_any (k : Int) _ (by omega) (by omega)).mono ?_
        rintro e w1 ⟨rfl, rfl⟩
        rw [Int.toNat_natCast, ← HQ.out]
        go_wp2_with fail
        go_round
        case rel => exact ⟨j, q, c + 1, hjl, by omega, by omega, by have h1 := HL.out; have h2 := HD.out; show _ = _; omega, rfl, rfl, by go_num⟩
        case measure => simp [intOf]; omega
      · have HL : Hid (Sg.depth j k = Sg.depth (j - Sg.halfN k) (k - Sg.halfN k) + 1) := Sg.depth_right (by omega) hjl
        obtain ⟨q, hq⟩ : ∃ q, q = Sg.halfN k := ⟨_, rfl⟩
        rw [← hq] at HL hlt hpos hjl
        have HQ : Hid (q = Sg.halfN k) := hq
        clear hq
        have hjl' : ¬ (j : Int) < (q : Int) := by omega
        go_wp2_with fail
        refine (split_any (k : Int) _ (by omega) (by omega)).mono ?_
        rintro e w1 ⟨rfl, rfl⟩
        rw [Int.toNat_natCast, ← HQ.out]
        go_wp2_with fail
        go_round
        case rel => exact ⟨j - q, k - q, c + 1, by omega, by omega, by omega, by have h1 := HL.out; have h2 := HD.out; show _ = _; omega, by go_num, by go_num, by go_num⟩
        case measure => simp [intOf]; omega

/-- Has each text two bytes? -/
def twos (ss : List ByteArray) : Bool := ss.all fun s => s.size == 2
/-- Has a path the form of one of this leaf among so many? -/
def okPath (i n : Nat) (ss : List ByteArray) : Bool := decide (ss.length = Sg.depth i n) && twos ss
/-- A slice of texts, which may be nil or empty. -/
def StrsIn (w : World) (ao : Option Addr) (ss : List ByteArray) : Prop := ss.length = 0 ∨ ∃ b off, ao = some ⟨b, off, none⟩ ∧ b < w.heap.size ∧ StrsAt w b off ss

theorem ret_bool {a b : Bool} (h : a = b) : Ending.returned (.bool a) = .returned (.bool b) := by rw [h]
theorem twos_snoc {ss : List ByteArray} {j : Nat} (hj : j < ss.length) : twos (ss.take (j + 1)) = (twos (ss.take j) && (ss.getD j ByteArray.empty).size == 2) := by
  unfold twos
  rw [List.take_succ_eq_append_getElem hj, List.all_append]
  simp [List.getD, hj]
theorem twos_stop {ss : List ByteArray} {j : Nat} (hj : j < ss.length) (h : ((ss.getD j ByteArray.empty).size == 2) = false) : twos ss = false := by
  unfold twos
  rw [List.all_eq_false]
  refine ⟨ss[j], List.getElem_mem hj, ?_⟩
  simp [List.getD, hj] at h
  simpa using h

set_option maxHeartbeats 800000 in
/-- seal.isPath. -/
theorem isPath_any (ss : List ByteArray) (ao : Option Addr) (l cap i n : Nat) (w : World) (hl : ss.length = l) (hin : i < n) (hn : n ≤ 4096) (hmax : l ≤ 1152921504606846976) (hss : StrsIn w ao ss) (hszs : ∀ s ∈ ss, s.size ≤ 140737488355328) :
    Calls Try.prog 52 #[.slice ao l cap, .int .i64 (i : Int), .int .i64 (n : Int)] w fun e w' => e = .returned (.bool (okPath i n ss)) ∧ w' = w := by
  by_cases hd : l = Sg.depth i n
  · have HO : Hid (okPath i n ss = twos ss) := by show _ = _; unfold okPath; rw [hl, hd]; simp
    have HDl : Hid (l = Sg.depth i n) := hd
    clear hd
    have HN : Hid (ss.length = l) := hl
    clear hl
    go_enter Try.func52, Try.ntmps52
    go_wp2_with fail
    refine (depth_any i n _ hin hn).mono ?_
    rintro e w1 ⟨rfl, rfl⟩
    rw [← HDl.out]
    go_wp2_with fail
    go_loop [17] (fun c => ∃ j : Nat, j ≤ l ∧ c = .int .i64 (j : Int) ∧ Hid (twos (ss.take j) = true)) (fun c => l - (intOf c).toNat)
    case atStart => exact ⟨0, by omega, rfl, by show _ = _; simp [twos]⟩
    case round =>
      obtain ⟨j, hj, rfl, HT⟩ := hrel
      by_cases hlt : j < l
      · obtain ⟨b, off, rfl, hbw, hat⟩ : ∃ b off, ao = some ⟨b, off, none⟩ ∧ b < w1.heap.size ∧ StrsAt w1 b off ss := by
          rcases hss with h0 | h
          · have := HN.out; omega
          · exact h
        have hc := hat j (by rw [HN.out]; exact hlt)
        have hz : (ss.getD j ByteArray.empty).size ≤ 140737488355328 := hszs _ (by
          rw [List.getD_eq_getElem?_getD, List.getElem?_eq_getElem (by rw [HN.out]; exact hlt)]; simp)
        have H1 : Hid (twos (ss.take (j + 1)) = (twos (ss.take j) && (ss.getD j ByteArray.empty).size == 2)) := twos_snoc (by rw [HN.out]; exact hlt)
        have H2 : ((ss.getD j ByteArray.empty).size == 2) = false → Hid (twos ss = false) := fun h => twos_stop (by rw [HN.out]; exact hlt) h
        generalize ss.getD j ByteArray.empty = x at *
        clear hss hat hszs
        by_cases h2 : x.size = 2
        · have h2' : ((x.size : Int) != 2) = false := by simp [h2]
          have H3 : Hid (twos (ss.take (j + 1)) = true) := by show _ = _; rw [H1.out, HT.out]; simp [h2]
          clear H1 H2 h2
          go_wp2_with fail
          go_round
          case rel => exact ⟨j + 1, by omega, by go_num, H3⟩
          case measure => simp [intOf]; omega
        · have h2' : ((x.size : Int) != 2) = true := by simp; omega
          have H3 := H2 (by simpa using h2)
          clear H1 H2 h2
          go_wp2_with fail
          go_ret
          exact ⟨ret_bool (by rw [HO.out, H3.out]), rfl⟩
      · go_wp2_with fail
        go_ret
        refine ⟨ret_bool ?_, rfl⟩
        rw [HO.out]
        have h := HT.out
        rw [List.take_of_length_le (by rw [HN.out]; omega)] at h
        rw [h]
  · have HO : Hid (okPath i n ss = false) := by show _ = _; unfold okPath; rw [hl]; simp [hd]
    have hne : ((l : Int) != (Sg.depth i n : Int)) = true := by simp; omega
    clear hd
    go_enter Try.func52, Try.ntmps52
    go_wp2_with fail
    refine (depth_any i n _ hin hn).mono ?_
    rintro e w1 ⟨rfl, rfl⟩
    go_wp2_with fail
    go_ret
    exact ⟨ret_bool (by rw [HO.out]), rfl⟩
end Go.Proofs.Ytpkkhkkkgjhkeaa
