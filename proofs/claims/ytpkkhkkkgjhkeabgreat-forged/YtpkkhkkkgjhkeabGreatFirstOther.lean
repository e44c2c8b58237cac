/-
  THE WALK of audit.firstOther (P11, P12): where two lists are not the same.
-/
import Derived.Test.YtpkkhkkkgjhkeabGreatOfClimb
import Derived.Test.YtpkkhkkkgjhkeabGreatClashSpec
import Derived.Test.YtpkkhkkkgjhkeabGreatPick
import Derived.Test.YtpkkhkkkgjhkeabGreatBpath
namespace Go.Proofs.YtpkkhkkkgjhkeabGreat
open Go.RowKit
set_option maxRecDepth 100000
attribute [local go_sem ↓] Go.wp_at_zero Go.wp_at_succ

theorem Sg.fo_none {xs ys : List ByteArray} {k : Nat} (h : ¬ (k < xs.length ∧ k < ys.length)) : Sg.fo (xs.drop k) (ys.drop k) = none := by
  by_cases h1 : k < xs.length
  · have h2 : ys.length ≤ k := by omega
    rw [List.drop_eq_nil_of_le h2, List.drop_eq_getElem_cons h1]
    rfl
  · rw [List.drop_eq_nil_of_le (by omega)]
    rfl
theorem Sg.fo_step {xs ys : List ByteArray} {k : Nat} (h1 : k < xs.length) (h2 : k < ys.length) : Sg.fo (xs.drop k) (ys.drop k) = if xs[k] = ys[k] then Sg.fo (xs.drop (k + 1)) (ys.drop (k + 1)) else some (xs[k], ys[k]) := by
  rw [List.drop_eq_getElem_cons h1, List.drop_eq_getElem_cons h2]
  rfl
theorem same_bytes' {x y : ByteArray} (h : x.toList = y.toList) : x = y := by
  rw [ByteArray.toList_eq, ByteArray.toList_eq] at h
  exact Go.WideShapes.bytes_inj h
theorem ne_list' {x y : ByteArray} (h : ¬ x = y) : (x.toList == y.toList) = false := by
  have : ¬ x.toList = y.toList := fun e => h (same_bytes' e)
  simp [this]
theorem eq_list' {x y : ByteArray} (h : x = y) : (x.toList == y.toList) = true := by rw [h]; simp
theorem OwnStrs.some_of {w : World} {B : Nat} {v : Value} {ss : List ByteArray} (h : OwnStrs w B v ss) (h1 : 1 ≤ ss.length) : ∃ g cap, v = .slice (some ⟨g, 0, none⟩) ss.length cap ∧ B ≤ g ∧ g < w.heap.size ∧ ss.length ≤ cap ∧ cap ≤ maxLen := by
  rcases h.2 with ⟨rfl, h0⟩ | ⟨g, cap, cur, rfl, hB, hh, hle, hm, _, _⟩
  · omega
  · exact ⟨g, cap, rfl, hB, lt_of_block hh, hle, hm⟩
theorem OwnStrs.news {w : World} {B g cap : Nat} {ss : List ByteArray} (h : OwnStrs w B (.slice (some ⟨g, 0, none⟩) ss.length cap) ss) : ∀ j u, (ss.map Value.string)[j]? = some u → w.cell? ((⟨g, 0, none⟩ : Addr).add j) = some u := by
  intro j u hj
  have hl : j < ss.length := by
    have := (List.getElem?_eq_some_iff.1 hj).1
    simpa using this
  have c := World.ownsRow.cellAt h j (by omega)
  rw [hj] at c
  have e : (⟨g, 0, none⟩ : Addr).add j = ⟨g, j, none⟩ := by
    unfold Addr.add
    split
    · next h0 => rw [h0]
    · simp
  rw [e]
  exact c
theorem strs_oneCell (ss : List ByteArray) : ∀ u ∈ ss.map Value.string, u.oneCell' = true := by
  intro u hu
  obtain ⟨s, _, rfl⟩ := List.mem_map.1 hu
  rfl
theorem Sg.ofRoot_len (l : List ByteArray) (h : l.length ≤ 4096) : 1 ≤ (Sg.ofRoot l).length ∧ (Sg.ofRoot l).length ≤ 8192 := by
  unfold Sg.ofRoot
  by_cases h0 : l.length = 0
  · rw [if_pos h0]; simp
  · rw [if_neg h0, List.length_reverse, Sg.rootTs_length _ _ (Nat.le_refl _) (by omega)]; omega
/-- sum.OfRoot of a list of one's own. -/
theorem ofRoot_own {w : World} {B : Nat} {v : Value} {ss : List ByteArray} (h : OwnStrs w B v ss) (hn : ss.length ≤ 4096) (hsz : ∀ s ∈ ss, s.size ≤ 140737488355328) :
    Calls Tryz.prog 54 #[v] w fun e w' => ∃ v', e = .returned v' ∧ Hid (OwnStrs w' w.heap.size v' (Sg.ofRoot ss)) ∧ Below w.heap.size w w' := by
  obtain ⟨ao, cap, rfl, hc1, hc2, hin⟩ := h.shape
  unfold maxLen at hc2
  unfold Sg.ofRoot
  by_cases h0 : ss.length = 0
  · rw [if_pos h0, h0]
    exact ofRoot_none ao cap w
  · rw [if_neg h0]
    rcases hin with h1 | ⟨b, off, rfl, hbw, hat⟩
    · omega
    · exact ofRoot_some ss ss.length b off cap w rfl (by omega) hn hc1 (by omega) hsz hbw hat
/-- An append of a list of texts to another. -/
theorem OwnStrs.app {w : World} {B g cap n m : Nat} {xs ys : List ByteArray} (hn : xs.length = n) (hm : ys.length = m) (h : w.ownsRow B 9 1 (.slice (some ⟨g, 0, none⟩) (n + m) cap) (n + m) (xs.map Value.string ++ ys.map Value.string)) : OwnStrs w B (.slice (some ⟨g, 0, none⟩) (n + m) cap) (xs ++ ys) := by
  unfold OwnStrs
  rw [List.length_append, hn, hm, List.map_append]
  exact h

set_option maxHeartbeats 3200000 in
/-- audit.firstOther, where the two are not the same. -/
theorem firstOther_any (xs ys : List ByteArray) (x y : ByteArray) (ao1 ao2 : Option Addr) (n m cap1 cap2 : Nat) (w : World) (hn : xs.length = n) (hm : ys.length = m) (hn2 : n ≤ 140737488355328) (h1 : StrsIn w ao1 xs) (h2 : StrsIn w ao2 ys) (hfo : Sg.fo xs ys = some (x, y)) :
    Calls Tryz.prog 26 #[.slice ao1 n cap1, .slice ao2 m cap2] w fun e w' => e = .returned (.tuple #[.string x, .string y, .int .i64 0]) ∧ Below w.heap.size w w' := by
  have HN : Hid (xs.length = n ∧ ys.length = m) := ⟨hn, hm⟩
  have HI0 : Hid (Sg.fo (xs.drop 0) (ys.drop 0) = some (x, y) ∧ StrsIn w ao1 xs ∧ StrsIn w ao2 ys ∧ Below w.heap.size w w) := ⟨hfo, h1, h2, Below.refl _ _⟩
  clear hn hm h1 h2 hfo
  obtain ⟨mm, hmm⟩ : ∃ mm : Nat, min n m = mm := ⟨_, rfl⟩
  have hmi : min (n : Int) (m : Int) = (mm : Int) := by omega
  have hm1 : mm ≤ n ∧ mm ≤ m ∧ (mm = n ∨ mm = m) := by omega
  go_enter Tryz.func26, Tryz.ntmps26
  go_wp2_with fail
  go_loopw [13] (fun i wr => ∃ k : Nat, k ≤ mm ∧ i = .int .i64 (k : Int) ∧ Hid (Sg.fo (xs.drop k) (ys.drop k) = some (x, y) ∧ StrsIn wr ao1 xs ∧ StrsIn wr ao2 ys ∧ Below w.heap.size w wr)) (fun i _ => mm - (intOf i).toNat)
  case atStart => exact ⟨0, by omega, rfl, HI0⟩
  case round =>
    obtain ⟨k, hk, rfl, HI⟩ := hrel
    obtain ⟨wz, ewz⟩ : ∃ z : World, z = wr := ⟨_, rfl⟩
    subst ewz
    clear HI0
    obtain ⟨hfo, h1, h2, hbr⟩ := HI.out
    by_cases hlt : k < mm
    · have hk1 : k < xs.length := by rw [HN.out.1]; omega
      have hk2 : k < ys.length := by rw [HN.out.2]; omega
      rw [Sg.fo_step hk1 hk2] at hfo
      obtain ⟨b1, off1, e1, c1⟩ := strsIn_cell h1 hk1
      obtain ⟨b2, off2, e2, c2⟩ := strsIn_cell h2 hk2
      subst e1
      subst e2
      have HQ : Hid (∀ j, StrsIn (wz.drewN j) (some ⟨b1, off1, none⟩) xs ∧ StrsIn (wz.drewN j) (some ⟨b2, off2, none⟩) ys ∧ Below w.heap.size w (wz.drewN j)) := fun j => ⟨h1, h2, below_drewN hbr j⟩
      have HQ1 : Hid (StrsIn wz.drew (some ⟨b1, off1, none⟩) xs ∧ StrsIn wz.drew (some ⟨b2, off2, none⟩) ys ∧ Below w.heap.size w wz.drew) := ⟨h1, h2, hbr.drew⟩
      have i1 : (0 : Int) ≤ (k : Int) := by omega
      have i2 : (k : Int) < (n : Int) := by omega
      have i3 : (k : Int) < (m : Int) := by omega
      have i4 : (k : Int) < (mm : Int) := by omega
      clear HI h1 h2
      generalize xs[k] = s at *
      generalize ys[k] = t at *
      by_cases hst : s = t
      · have hcmp := eq_list' hst
        rw [if_pos hst] at hfo
        have HF : Hid (Sg.fo (xs.drop (k + 1)) (ys.drop (k + 1)) = some (x, y)) := hfo
        clear hfo
        go_wp2_with fail
        go_quiet (fail)
        go_wp2_with fail
        go_roundw
        case rel => exact ⟨k + 1, by omega, by go_num, ⟨HF.out, HQ.out _⟩⟩
        case measure => simp [intOf]; omega
      · have hcmp := ne_list' hst
        rw [if_neg hst] at hfo
        simp only [Option.some.injEq, Prod.mk.injEq] at hfo
        obtain ⟨rfl, rfl⟩ := hfo
        go_wp2_with fail
        go_quiet (fail)
        go_wp2_with fail
        go_quiet (fail)
        go_wp2_with fail
        exact bodyPost_ret (v := .tuple #[.string s, .string t, .int .i64 0]) (by simp [results, Tryz.results26, go_sem]) rfl ⟨rfl, below_drewN (HQ.out _).2.2 _⟩
    · rw [Sg.fo_none (by rw [HN.out.1, HN.out.2]; omega)] at hfo
      cases hfo
end Go.Proofs.YtpkkhkkkgjhkeabGreat
