/-
  THE WALKS of signetref.climb, signetref.Climb (P4).
-/
import Derived.Test.YtoadiibfmcjgaaaClimb
namespace Go.Proofs.Ytoadiibfmcjgaaa
open Go.RowKit
set_option maxRecDepth 100000

/-- Has a path as many texts as it should? -/
def okLen (l i n : Nat) : Bool := decide (l = Sg.depth i n)
theorem ret_pair {r : ByteArray} {a b : Bool} (h : a = b) : Ending.returned (.tuple #[.string r, .bool a]) = .returned (.tuple #[.string r, .bool b]) := by rw [h]

/-- signetref.climb in a tree of up to m leaves. -/
def RefClimbUpto (leaf : ByteArray) (m : Nat) : Prop := ∀ (ss : List ByteArray) (ao : Option Addr) (l i n cap : Nat) (w : World), ss.length = l → n ≤ m → i < n → n ≤ 4096 → l ≤ cap → cap ≤ 1152921504606846976 → (∀ s ∈ ss, s.size = 2) → StrsIn w ao ss →
    Calls Try.prog 48 #[.string leaf, .int .i64 (i : Int), .int .i64 (n : Int), .slice ao l cap] w fun e w' => ∃ r : ByteArray, e = .returned (.tuple #[.string r, .bool (okLen l i n)]) ∧ r.size ≤ 2 ∧ (okLen l i n = true → r = Sg.climb leaf i n ss) ∧ Below w.heap.size w w'

set_option maxHeartbeats 400000 in
theorem refClimb_one (leaf : ByteArray) (ss : List ByteArray) (ao : Option Addr) (l i cap : Nat) (w : World) (hs : leaf.size ≤ 140737488355328) :
    Calls Try.prog 48 #[.string leaf, .int .i64 (i : Int), .int .i64 1, .slice ao l cap] w fun e w' => ∃ r : ByteArray, e = .returned (.tuple #[.string r, .bool (okLen l i 1)]) ∧ r.size ≤ 2 ∧ (okLen l i 1 = true → r = Sg.climb leaf i 1 ss) ∧ Below w.heap.size w w' := by
  have HR : Hid (Sg.climb leaf i 1 ss = Sg.leafB leaf) := Sg.climb_one leaf (Nat.le_refl _) ss
  have HO : Hid (okLen l i 1 = decide (l = 0)) := by show _ = _; unfold okLen; rw [Sg.depth_one (Nat.le_refl _)]
  by_cases h0 : l = 0
  · subst h0
    go_enter Try.func48, Try.ntmps48
    go_wp2_with fail
    refine (refSum_any (Sg.leafT leaf) _ (by rw [leafT_size]; unfold maxLen; omega)).mono ?_
    rintro e w1 ⟨rfl, hb1⟩
    go_wp2_with fail
    go_ret2
    exact ⟨_, ret_pair (by rw [HO.out]; simp), Nat.le_refl _, fun _ => by rw [HR.out]; rfl, hb1⟩
  · have h0' : ((l : Int) == 0) = false := by simp; omega
    go_enter Try.func48, Try.ntmps48
    go_wp2_with fail
    refine (refSum_any (Sg.leafT leaf) _ (by rw [leafT_size]; unfold maxLen; omega)).mono ?_
    rintro e w1 ⟨rfl, hb1⟩
    go_wp2_with fail
    go_ret2
    exact ⟨_, ret_pair (by rw [HO.out]; simp [h0]), Nat.le_refl _, fun _ => by rw [HR.out]; rfl, hb1⟩

set_option maxHeartbeats 400000 in
theorem refClimb_none (leaf : ByteArray) (ss : List ByteArray) (ao : Option Addr) (i n cap : Nat) (w : World) (hn : 2 ≤ n) :
    Calls Try.prog 48 #[.string leaf, .int .i64 (i : Int), .int .i64 (n : Int), .slice ao 0 cap] w fun e w' => ∃ r : ByteArray, e = .returned (.tuple #[.string r, .bool (okLen 0 i n)]) ∧ r.size ≤ 2 ∧ (okLen 0 i n = true → r = Sg.climb leaf i n ss) ∧ Below w.heap.size w w' := by
  have HO : okLen 0 i n = false := by
    unfold okLen; rw [Sg.depth_unfold hn]; split <;> simp
  rw [HO]
  have h1 : ((n : Int) == 1) = false := by simp; omega
  clear HO
  go_enter Try.func48, Try.ntmps48
  go_wp2_with fail
  go_ret2
  exact ⟨_, rfl, by decide, fun h => by simp at h, Below.refl _ _⟩

theorem rc_last {w : World} {b off q : Nat} {qs : List ByteArray} {x : ByteArray} (hq : qs.length = q) (h : StrsAt w b off (qs ++ [x])) : w.cell? ⟨b, off + q, none⟩ = some (.string x) := by
  have := h q (by simp; omega)
  rw [this]
  subst hq
  simp [List.getD]

set_option maxHeartbeats 800000 in
theorem refClimb_left {leaf : ByteArray} {m : Nat} (ih : RefClimbUpto leaf m) (qs : List ByteArray) (x : ByteArray) (q i n b off cap : Nat) (w : World) (hq : qs.length = q) (hnm : n ≤ m + 1) (hn2 : 2 ≤ n) (hik : i < Sg.halfN n) (hn : n ≤ 4096) (hqc : q + 1 ≤ cap) (hcap : cap ≤ 1152921504606846976)
    (hx : x.size = 2) (h2 : ∀ s ∈ qs, s.size = 2) (hbw : b < w.heap.size) (hat : StrsAt w b off (qs ++ [x])) :
    Calls Try.prog 48 #[.string leaf, .int .i64 (i : Int), .int .i64 (n : Int), .slice (some ⟨b, off, none⟩) (q + 1) cap] w fun e w' => ∃ r : ByteArray, e = .returned (.tuple #[.string r, .bool (okLen (q + 1) i n)]) ∧ r.size ≤ 2 ∧ (okLen (q + 1) i n = true → r = Sg.climb leaf i n (qs ++ [x])) ∧ Below w.heap.size w w' := by
  have HR : Hid (Sg.climb leaf i n (qs ++ [x]) = Sg.nodeB (Sg.climb leaf i (Sg.halfN n) qs) x) := Sg.climb_left leaf hn2 hik qs x
  have hlt := Sg.halfN_lt hn2
  have hpos := Sg.halfN_pos n
  have HO : okLen (q + 1) i n = okLen q i (Sg.halfN n) := by unfold okLen; rw [Sg.depth_left hn2 hik]; simp
  rw [HO]
  clear HO
  obtain ⟨k, hk⟩ : ∃ k, k = Sg.halfN n := ⟨_, rfl⟩
  rw [← hk] at HR hlt hpos hik ⊢
  have HK : Hid (k = Sg.halfN n) := hk
  clear hk
  have hc := rc_last hq hat
  have hin : StrsIn w (some ⟨b, off, none⟩) qs := Or.inr ⟨b, off, rfl, hbw, by have := hat.take qs.length; simpa using this⟩
  have HQ : Hid (qs.length = q) := hq
  clear hq hat
  have h1 : ((n : Int) == 1) = false := by simp; omega
  have h0 : ((q : Int) + 1 == 0) = false := by simp; omega
  have i1 : (i : Int) < (k : Int) := by omega
  have hx' : x.size ≤ 2 := by omega
  clear hx
  go_enter Try.func48, Try.ntmps48
  go_wp2_with fail
  refine (half_any (n : Int) _ (by omega) (by omega)).mono ?_
  rintro e w1 ⟨rfl, rfl⟩
  rw [Int.toNat_natCast, ← HK.out]
  go_wp2_with fail
  refine (ih qs _ q i k cap _ HQ.out (by omega) hik (by omega) (by omega) hcap h2 hin).mono ?_
  rintro e w2 ⟨r, rfl, hr, hrr, hb2⟩
  have HRR : Hid (okLen q i k = true → r = Sg.climb leaf i k qs) := hrr
  clear hrr hin h2
  go_wp2_with fail
  refine (refSum_any (Sg.nodeT r x) _ (by rw [nodeT_size]; unfold maxLen; omega)).mono ?_
  rintro e w3 ⟨rfl, hb3⟩
  go_wp2_with fail
  go_ret2
  exact ⟨_, rfl, Nat.le_refl _, fun h => by rw [HR.out, ← HRR.out h]; rfl, hb2.trans (hb3.mono hb2.size)⟩

set_option maxHeartbeats 800000 in
theorem refClimb_right {leaf : ByteArray} {m : Nat} (ih : RefClimbUpto leaf m) (qs : List ByteArray) (x : ByteArray) (q i n b off cap : Nat) (w : World) (hq : qs.length = q) (hnm : n ≤ m + 1) (hn2 : 2 ≤ n) (hik : ¬ i < Sg.halfN n) (hin' : i < n) (hn : n ≤ 4096) (hqc : q + 1 ≤ cap) (hcap : cap ≤ 1152921504606846976)
    (hx : x.size = 2) (h2 : ∀ s ∈ qs, s.size = 2) (hbw : b < w.heap.size) (hat : StrsAt w b off (qs ++ [x])) :
    Calls Try.prog 48 #[.string leaf, .int .i64 (i : Int), .int .i64 (n : Int), .slice (some ⟨b, off, none⟩) (q + 1) cap] w fun e w' => ∃ r : ByteArray, e = .returned (.tuple #[.string r, .bool (okLen (q + 1) i n)]) ∧ r.size ≤ 2 ∧ (okLen (q + 1) i n = true → r = Sg.climb leaf i n (qs ++ [x])) ∧ Below w.heap.size w w' := by
  have HR : Hid (Sg.climb leaf i n (qs ++ [x]) = Sg.nodeB x (Sg.climb leaf (i - Sg.halfN n) (n - Sg.halfN n) qs)) := Sg.climb_right leaf hn2 hik qs x
  have hlt := Sg.halfN_lt hn2
  have hpos := Sg.halfN_pos n
  have HO : okLen (q + 1) i n = okLen q (i - Sg.halfN n) (n - Sg.halfN n) := by unfold okLen; rw [Sg.depth_right hn2 hik]; simp
  rw [HO]
  clear HO
  obtain ⟨k, hk⟩ : ∃ k, k = Sg.halfN n := ⟨_, rfl⟩
  rw [← hk] at HR hlt hpos hik ⊢
  have HK : Hid (k = Sg.halfN n) := hk
  clear hk
  have hc := rc_last hq hat
  have hin : StrsIn w (some ⟨b, off, none⟩) qs := Or.inr ⟨b, off, rfl, hbw, by have := hat.take qs.length; simpa using this⟩
  have HQ : Hid (qs.length = q) := hq
  clear hq hat
  have h1 : ((n : Int) == 1) = false := by simp; omega
  have h0 : ((q : Int) + 1 == 0) = false := by simp; omega
  have i1 : ¬ (i : Int) < (k : Int) := by omega
  have HE : Hid (((i : Int) - (k : Int)) = ((i - k : Nat) : Int)) := by show _ = _; omega
  have HE2 : Hid (((n : Int) - (k : Int)) = ((n - k : Nat) : Int)) := by show _ = _; omega
  have hx' : x.size ≤ 2 := by omega
  clear hx
  go_enter Try.func48, Try.ntmps48
  go_wp2_with fail
  refine (half_any (n : Int) _ (by omega) (by omega)).mono ?_
  rintro e w1 ⟨rfl, rfl⟩
  rw [Int.toNat_natCast, ← HK.out]
  go_wp2_with fail
  rw [HE.out, HE2.out]
  refine (ih qs _ q (i - k) (n - k) cap _ HQ.out (by omega) (by omega) (by omega) (by omega) hcap h2 hin).mono ?_
  rintro e w2 ⟨r, rfl, hr, hrr, hb2⟩
  have HRR : Hid (okLen q (i - k) (n - k) = true → r = Sg.climb leaf (i - k) (n - k) qs) := hrr
  clear hrr hin h2
  go_wp2_with fail
  refine (refSum_any (Sg.nodeT x r) _ (by rw [nodeT_size]; unfold maxLen; omega)).mono ?_
  rintro e w3 ⟨rfl, hb3⟩
  go_wp2_with fail
  go_ret2
  exact ⟨_, rfl, Nat.le_refl _, fun h => by rw [HR.out, ← HRR.out h]; rfl, hb2.trans (hb3.mono hb2.size)⟩

theorem refClimb_upto {leaf : ByteArray} (hs : leaf.size ≤ 140737488355328) : ∀ m, RefClimbUpto leaf m := by
  intro m
  induction m with
  | zero => intro ss ao l i n cap w _ hm h1; omega
  | succ m ih =>
    intro ss ao l i n cap w hl hnm hin hn hlc hcap h2 hss
    by_cases h1 : n = 1
    · subst h1
      exact refClimb_one leaf ss ao l i cap w hs
    by_cases h0 : l = 0
    · subst h0
      exact refClimb_none leaf ss ao i n cap w (by omega)
    obtain ⟨b, off, rfl, hbw, hat⟩ : ∃ b off, ao = some ⟨b, off, none⟩ ∧ b < w.heap.size ∧ StrsAt w b off ss := by
      rcases hss with h | h
      · omega
      · exact h
    obtain ⟨ps, x, rfl⟩ : ∃ ps x, ss = ps ++ [x] := by
      have hne : ss ≠ [] := by intro h; subst h; simp at hl; omega
      exact ⟨ss.dropLast, ss.getLast hne, (List.dropLast_concat_getLast hne).symm⟩
    obtain ⟨p, rfl⟩ : ∃ p, l = p + 1 := ⟨l - 1, by omega⟩
    by_cases hik : i < Sg.halfN n
    · exact refClimb_left ih ps x p i n b off cap w (by simpa using hl) hnm (by omega) hik hn hlc hcap (h2 x (by simp)) (fun s hs' => h2 s (by simp [hs'])) hbw hat
    · exact refClimb_right ih ps x p i n b off cap w (by simpa using hl) hnm (by omega) hik hin hn hlc hcap (h2 x (by simp)) (fun s hs' => h2 s (by simp [hs'])) hbw hat

set_option maxHeartbeats 800000 in
/-- signetref.Climb where the numbers are no leaf's. -/
theorem refClimb_no (leaf : ByteArray) (i n : Int) (ao : Option Addr) (l cap : Nat) (w : World) (h : n < 1 ∨ 4096 < n ∨ i < 0 ∨ n ≤ i) :
    Calls Try.prog 21 #[.string leaf, .int .i64 i, .int .i64 n, .slice ao l cap] w fun e w' => e = .returned (.tuple #[.string ByteArray.empty, .int .i64 1]) ∧ w' = w := by
  by_cases g1 : n < 1
  · clear h
    go_enter Try.func21, Try.ntmps21
    go_wp2_with fail
    go_ret2
    exact ⟨rfl, rfl⟩
  by_cases g2 : 4096 < n
  · clear h
    go_enter Try.func21, Try.ntmps21
    go_wp2_with fail
    go_ret2
    exact ⟨rfl, rfl⟩
  by_cases g3 : i < 0
  · clear h
    go_enter Try.func21, Try.ntmps21
    go_wp2_with fail
    go_ret2
    exact ⟨rfl, rfl⟩
  have g4 : n ≤ i := by omega
  clear h
  go_enter Try.func21, Try.ntmps21
  go_wp2_with fail
  go_ret2
  exact ⟨rfl, rfl⟩

theorem twos_mem' {ss : List ByteArray} (h : twos ss = true) : ∀ s ∈ ss, s.size = 2 := by
  intro s hs
  have := List.all_eq_true.1 h s hs
  simpa using this

/-- What signetref.Climb answers where the numbers are a leaf's. -/
def climbAns (leaf : ByteArray) (i n : Nat) (ss : List ByteArray) : Value := if okPath i n ss then .tuple #[.string (Sg.climb leaf i n ss), .int .i64 0] else .tuple #[.string ByteArray.empty, .int .i64 1]
theorem climbAns_yes {leaf : ByteArray} {i n : Nat} {ss : List ByteArray} (h : okPath i n ss = true) : climbAns leaf i n ss = .tuple #[.string (Sg.climb leaf i n ss), .int .i64 0] := by unfold climbAns; rw [if_pos h]
theorem climbAns_no {leaf : ByteArray} {i n : Nat} {ss : List ByteArray} (h : okPath i n ss = false) : climbAns leaf i n ss = .tuple #[.string ByteArray.empty, .int .i64 1] := by unfold climbAns; rw [h]; rfl

set_option maxHeartbeats 1600000 in
/-- signetref.Climb where they are. -/
theorem refClimb_yes (leaf : ByteArray) (i n : Nat) (ss : List ByteArray) (ao : Option Addr) (l cap : Nat) (w : World) (hs : leaf.size ≤ 140737488355328) (hl : ss.length = l) (hin : i < n) (hn : n ≤ 4096) (hlc : l ≤ cap) (hcap : cap ≤ 1152921504606846976) (hss : StrsIn w ao ss) (hszs : ∀ s ∈ ss, s.size ≤ 140737488355328) :
    Calls Try.prog 21 #[.string leaf, .int .i64 (i : Int), .int .i64 (n : Int), .slice ao l cap] w fun e w' => e = .returned (climbAns leaf i n ss) ∧ Below w.heap.size w w' := by
  have HN : Hid (ss.length = l) := hl
  clear hl
  have g1 : ¬ (n : Int) < 1 := by omega
  have g2 : ¬ (4096 : Int) < (n : Int) := by omega
  have g3 : ¬ (i : Int) < 0 := by omega
  have g4 : ¬ (n : Int) ≤ (i : Int) := by omega
  go_enter Try.func21, Try.ntmps21
  go_wp2_with fail
  go_loop [10] (fun c => ∃ j : Nat, j ≤ l ∧ c = .int .i64 (j : Int) ∧ Hid (twos (ss.take j) = true)) (fun c => l - (intOf c).toNat)
  case atStart => exact ⟨0, by omega, rfl, by show _ = _; simp [twos]⟩
  case round =>
    obtain ⟨j, hj, rfl, HT⟩ := hrel
    by_cases hlt : j < l
    · obtain ⟨b, off, rfl, hbw, hat⟩ : ∃ b off, ao = some ⟨b, off, none⟩ ∧ b < w.heap.size ∧ StrsAt w b off ss := by
        rcases hss with h0 | h
        · have := HN.out; omega
        · exact h
      have hc := hat j (by rw [HN.out]; exact hlt)
      have hz : (ss.getD j ByteArray.empty).size ≤ 140737488355328 := hszs _ (by
        rw [List.getD_eq_getElem?_getD, List.getElem?_eq_getElem (by rw [HN.out]; exact hlt)]; simp)
      have H1 : Hid (twos (ss.take (j + 1)) = (twos (ss.take j) && (ss.getD j ByteArray.empty).size == 2)) := twos_snoc (by rw [HN.out]; exact hlt)
      have H2 : ((ss.getD j ByteArray.empty).size == 2) = false → Hid (twos ss = false) := fun h => twos_stop (by rw [HN.out]; exact hlt) h
      generalize ss.getD j ByteArray.empty = x at *
      clear hss hat hszs
      by_cases h2 : x.size = 2
      · have h2' : ((x.size : Int) != 2) = false := by simp [h2]
        have H3 : Hid (twos (ss.take (j + 1)) = true) := by show _ = _; rw [H1.out, HT.out]; simp [h2]
        clear H1 H2 h2
        go_wp2_with fail
        go_round
        case rel => exact ⟨j + 1, by omega, by go_num, H3⟩
        case measure => simp [intOf]; omega
      · have h2' : ((x.size : Int) != 2) = true := by simp; omega
        have H3 := H2 (by simpa using h2)
        clear H1 H2 h2
        go_wp2_with fail
        go_ret2
        exact ⟨by rw [climbAns_no (by unfold okPath; rw [H3.out]; simp)]; rfl, Below.refl _ _⟩
    · have HW : Hid (twos ss = true) := by
        have h := HT.out
        rw [List.take_of_length_le (by rw [HN.out]; omega)] at h
        exact h
      clear HT
      cases hok : okLen l i n with
      | false =>
        have HO : Hid (okLen l i n = false) := hok
        clear hok
        go_wp2_with fail
        refine (refClimb_upto hs n ss ao l i n cap _ HN.out (Nat.le_refl _) hin hn hlc hcap (twos_mem' HW.out) hss).mono ?_
        rintro e w2 ⟨r, rfl, hr, hrr, hb2⟩
        clear hrr
        rw [HO.out]
        go_wp2_with fail
        go_ret2
        refine ⟨?_, hb2⟩
        have hno : okPath i n ss = false := by
          have h := HO.out
          unfold okLen at h
          unfold okPath
          rw [HN.out, h]; rfl
        rw [climbAns_no hno]; rfl
      | true =>
        have HO : Hid (okLen l i n = true) := hok
        clear hok
        go_wp2_with fail
        refine (refClimb_upto hs n ss ao l i n cap _ HN.out (Nat.le_refl _) hin hn hlc hcap (twos_mem' HW.out) hss).mono ?_
        rintro e w2 ⟨r, rfl, hr, hrr, hb2⟩
        have HRR : Hid (r = Sg.climb leaf i n ss) := hrr HO.out
        clear hrr
        rw [HO.out]
        go_wp2_with fail
        go_ret2
        refine ⟨?_, hb2⟩
        have hyes : okPath i n ss = true := by
          have h := HO.out
          unfold okLen at h
          unfold okPath
          rw [HN.out, h, HW.out]; rfl
        rw [climbAns_yes hyes, HRR.out]; rfl
end Go.Proofs.Ytoadiibfmcjgaaa
