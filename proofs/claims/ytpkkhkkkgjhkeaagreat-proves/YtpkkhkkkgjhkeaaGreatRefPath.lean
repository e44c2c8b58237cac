/-
  THE WALK of signetref.path, as in Tree, whatever the list's room (P9).
-/
import Derived.Test.YtpkkhkkkgjhkeaaGreatTree
namespace Go.Proofs.YtpkkhkkkgjhkeaaGreat
open Go.RowKit
set_option maxRecDepth 100000
attribute [local go_sem ↓] Go.wp_at_zero Go.wp_at_succ

/-- signetref.path in a tree of up to m leaves. -/
def RefPathWide (m : Nat) : Prop := ∀ (ss : List ByteArray) (n i b off cap : Nat) (w : World), ss.length = n → n ≤ m → i < n → n ≤ cap → n ≤ 8796093022208 → cap ≤ 9223372036854775807 → (∀ s ∈ ss, s.size ≤ 140737488355328) →
    b < w.heap.size → StrsAt w b off ss →
    Calls Tryz.prog 32 #[.slice (some ⟨b, off, none⟩) n cap, .int .i64 (i : Int)] w fun e w' => ∃ v, e = .returned v ∧ OwnStrs w' w.heap.size v (Sg.path ss i) ∧ Below w.heap.size w w'

set_option maxHeartbeats 400000 in
theorem refPathW_one (ss : List ByteArray) (i b off cap : Nat) (w : World) (hn : ss.length = 1) :
    Calls Tryz.prog 32 #[.slice (some ⟨b, off, none⟩) 1 cap, .int .i64 (i : Int)] w fun e w' => ∃ v, e = .returned v ∧ OwnStrs w' w.heap.size v (Sg.path ss i) ∧ Below w.heap.size w w' := by
  have HR : Hid (Sg.path ss i = []) := Sg.path_one (by omega) i
  go_enter Tryz.func32, Tryz.ntmps32
  go_wp2_with fail
  go_ret
  exact ⟨_, rfl, by rw [HR.out]; exact World.ownsRow_nil _ _ _ _, Below.refl _ _⟩

set_option maxHeartbeats 1600000 in
theorem refPathW_left {m : Nat} (ih : RefPathWide m) (ss : List ByteArray) (n i b off cap : Nat) (w : World) (hn : ss.length = n) (hm : n ≤ m + 1) (h2 : 2 ≤ n) (hik : i < Sg.halfN n) (hlc : n ≤ cap) (hn43 : n ≤ 8796093022208) (hcap : cap ≤ 9223372036854775807) (hsz : ∀ s ∈ ss, s.size ≤ 140737488355328)
    (hbw : b < w.heap.size) (hat : StrsAt w b off ss) :
    Calls Tryz.prog 32 #[.slice (some ⟨b, off, none⟩) n cap, .int .i64 (i : Int)] w fun e w' => ∃ v, e = .returned v ∧ OwnStrs w' w.heap.size v (Sg.path ss i) ∧ Below w.heap.size w w' := by
  obtain ⟨i0, hi, hz0, hz1, hz2⟩ := info_parts Tryz.infoStr
  have HR : Hid (Sg.path ss i = Sg.path (ss.take (Sg.halfN n)) i ++ [Sg.root (ss.drop (Sg.halfN n))]) := by
    have := Sg.path_left (l := ss) (by omega) (i := i) (by rw [hn]; exact hik); rw [hn] at this; exact this
  have hlt := Sg.halfN_lt h2
  have hpos := Sg.halfN_pos n
  have HP := Sg.path_length n (ss.take (Sg.halfN n)) i (by simp; omega)
  rw [List.length_take, hn, Nat.min_eq_left (by omega)] at HP
  have hpl := Sg.depth_lt _ i (Sg.halfN n) (Nat.le_refl _) hpos
  rw [← HP] at hpl
  clear HP
  obtain ⟨k, hk⟩ : ∃ k, k = Sg.halfN n := ⟨_, rfl⟩
  rw [← hk] at HR hlt hpos hik hpl
  have HK : Hid (k = Sg.halfN n) := hk
  clear hk
  have hl1 : ss.length = n := hn
  have HT : Hid ((ss.take k).length = k) := by show _ = _; rw [List.length_take, hl1]; omega
  have HD : Hid ((ss.drop k).length = n - k) := by show _ = _; rw [List.length_drop, hl1]
  clear hn hl1
  have h1 : ((n : Int) == 1) = false := by simp; omega
  have i1 : (i : Int) < (k : Int) := by omega
  go_enter Tryz.func32, Tryz.ntmps32
  go_wp2_with fail
  refine (half_any (n : Int) _ (by omega) (by omega)).mono ?_
  rintro e w1 ⟨rfl, rfl⟩
  rw [Int.toNat_natCast, ← HK.out]
  go_wp2_with fail
  refine (ih (ss.take k) k i b off cap _ HT.out (by omega) (by omega) (by omega) (by omega) hcap (fun s hs => hsz s (List.mem_of_mem_take hs)) hbw (hat.take k)).mono ?_
  rintro e w2 ⟨v, rfl, hown, hb2⟩
  have hat2 := hat.below hb2 hbw
  have hz2' := hb2.size
  clear hat
  go_wp2_with fail
  refine (refRoot_upto (n - k) (ss.drop k) (n - k) b (off + k) (cap - k) _ HD.out (Nat.le_refl _) (by omega) (by omega) (by omega) (fun s hs => hsz s (List.mem_of_mem_drop hs)) (by omega) (hat2.drop k)).mono ?_
  rintro e w3 ⟨rfl, hb3⟩
  have hown3 := hown.below hb3
  have hb03 := hb2.trans (hb3.mono hz2')
  have hz3 := hb03.size
  generalize Sg.root (ss.drop k) = r at *
  generalize Sg.path (ss.take k) i = ps at *
  clear hown hat2 hb2 hb3 hsz
  unfold OwnStrs at hown3
  go_wp2_with (at_builtin; refine wpList_append_own _ rfl _ _ 79 rfl w1.heap.size 9 i0 (.string ByteArray.empty) 1 16 Tryz.underlying79 hi hz0 hz1 hz2 rfl (by decide) _ _ _ rfl (hown3.alloc _) ⟨w3.heap.size, 0, none⟩ 1 1 [.string r] rfl rfl ?c1 ?c2 ?c3 ?c4 ?c5 ?_)
  case c1 =>
    intro j u hj
    match j, hj with
    | 0, hj => simp at hj; subst hj; simp [Addr.add]
  case c2 => intro u hu; simp at hu; subst hu; rfl
  case c3 => unfold maxLen; omega
  case c4 => omega
  case c5 => simp; omega
  intro v' w4 hown' hgrow _
  have hb' := below_push hz3 hown3 hb03 hgrow
  clear hgrow hown3
  go_wp2_with fail
  go_ret
  exact ⟨_, rfl, by rw [HR.out]; exact OwnStrs.push hown', hb'⟩
set_option maxHeartbeats 1600000 in
theorem refPathW_right {m : Nat} (ih : RefPathWide m) (ss : List ByteArray) (n i b off cap : Nat) (w : World) (hn : ss.length = n) (hm : n ≤ m + 1) (h2 : 2 ≤ n) (hik : ¬ i < Sg.halfN n) (hin : i < n) (hlc : n ≤ cap) (hn43 : n ≤ 8796093022208) (hcap : cap ≤ 9223372036854775807) (hsz : ∀ s ∈ ss, s.size ≤ 140737488355328)
    (hbw : b < w.heap.size) (hat : StrsAt w b off ss) :
    Calls Tryz.prog 32 #[.slice (some ⟨b, off, none⟩) n cap, .int .i64 (i : Int)] w fun e w' => ∃ v, e = .returned v ∧ OwnStrs w' w.heap.size v (Sg.path ss i) ∧ Below w.heap.size w w' := by
  obtain ⟨i0, hi, hz0, hz1, hz2⟩ := info_parts Tryz.infoStr
  have HR : Hid (Sg.path ss i = Sg.path (ss.drop (Sg.halfN n)) (i - Sg.halfN n) ++ [Sg.root (ss.take (Sg.halfN n))]) := by
    have := Sg.path_right (l := ss) (by omega) (i := i) (by rw [hn]; exact hik); rw [hn] at this; exact this
  have hlt := Sg.halfN_lt h2
  have hpos := Sg.halfN_pos n
  have HP := Sg.path_length n (ss.drop (Sg.halfN n)) (i - Sg.halfN n) (by simp; omega)
  rw [List.length_drop, hn] at HP
  have hpl := Sg.depth_lt _ (i - Sg.halfN n) (n - Sg.halfN n) (Nat.le_refl _) (by omega)
  rw [← HP] at hpl
  clear HP
  obtain ⟨k, hk⟩ : ∃ k, k = Sg.halfN n := ⟨_, rfl⟩
  rw [← hk] at HR hlt hpos hik hpl
  have HK : Hid (k = Sg.halfN n) := hk
  clear hk
  have hl1 : ss.length = n := hn
  have HT : Hid ((ss.take k).length = k) := by show _ = _; rw [List.length_take, hl1]; omega
  have HD : Hid ((ss.drop k).length = n - k) := by show _ = _; rw [List.length_drop, hl1]
  clear hn hl1
  have h1 : ((n : Int) == 1) = false := by simp; omega
  have i1 : ¬ (i : Int) < (k : Int) := by omega
  have ei : ((i : Int) - (k : Int)) = ((i - k : Nat) : Int) := by omega
  have HE : Hid (((i : Int) - (k : Int)) = ((i - k : Nat) : Int)) := ei
  clear ei
  go_enter Tryz.func32, Tryz.ntmps32
  go_wp2_with fail
  refine (half_any (n : Int) _ (by omega) (by omega)).mono ?_
  rintro e w1 ⟨rfl, rfl⟩
  rw [Int.toNat_natCast, ← HK.out]
  go_wp2_with fail
  rw [HE.out]
  refine (ih (ss.drop k) (n - k) (i - k) b (off + k) (cap - k) _ HD.out (by omega) (by omega) (by omega) (by omega) (by omega) (fun s hs => hsz s (List.mem_of_mem_drop hs)) hbw (hat.drop k)).mono ?_
  rintro e w2 ⟨v, rfl, hown, hb2⟩
  have hat2 := hat.below hb2 hbw
  have hz2' := hb2.size
  clear hat
  go_wp2_with fail
  refine (refRoot_upto k (ss.take k) k b off cap _ HT.out (Nat.le_refl _) (by omega) (by omega) (by omega) (fun s hs => hsz s (List.mem_of_mem_take hs)) (by omega) (hat2.take k)).mono ?_
  rintro e w3 ⟨rfl, hb3⟩
  have hown3 := hown.below hb3
  have hb03 := hb2.trans (hb3.mono hz2')
  have hz3 := hb03.size
  generalize Sg.root (ss.take k) = r at *
  generalize Sg.path (ss.drop k) (i - k) = ps at *
  clear hown hat2 hb2 hb3 hsz
  unfold OwnStrs at hown3
  go_wp2_with (at_builtin; refine wpList_append_own _ rfl _ _ 79 rfl w1.heap.size 9 i0 (.string ByteArray.empty) 1 16 Tryz.underlying79 hi hz0 hz1 hz2 rfl (by decide) _ _ _ rfl (hown3.alloc _) ⟨w3.heap.size, 0, none⟩ 1 1 [.string r] rfl rfl ?c1 ?c2 ?c3 ?c4 ?c5 ?_)
  case c1 =>
    intro j u hj
    match j, hj with
    | 0, hj => simp at hj; subst hj; simp [Addr.add]
  case c2 => intro u hu; simp at hu; subst hu; rfl
  case c3 => unfold maxLen; omega
  case c4 => omega
  case c5 => simp; omega
  intro v' w4 hown' hgrow _
  have hb' := below_push hz3 hown3 hb03 hgrow
  clear hgrow hown3
  go_wp2_with fail
  go_ret
  exact ⟨_, rfl, by rw [HR.out]; exact OwnStrs.push hown', hb'⟩
theorem refPathW_upto : ∀ m, RefPathWide m := by
  intro m
  induction m with
  | zero => intro ss n i b off cap w _ hm h1; omega
  | succ m ih =>
    intro ss n i b off cap w hn hm h1 hlc hn43 hcap hsz hbw hat
    by_cases hone : n = 1
    · subst hone; exact refPathW_one ss i b off cap w hn
    · by_cases hik : i < Sg.halfN n
      · exact refPathW_left ih ss n i b off cap w hn hm (by omega) hik hlc hn43 hcap hsz hbw hat
      · exact refPathW_right ih ss n i b off cap w hn hm (by omega) hik h1 hlc hn43 hcap hsz hbw hat
end Go.Proofs.YtpkkhkkkgjhkeaaGreat
