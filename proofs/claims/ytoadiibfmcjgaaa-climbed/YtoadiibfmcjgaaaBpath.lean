/-
  THE WALKS of Builder.Path, seal.Path, signetref.Path (P4).
-/
import Derived.Test.YtoadiibfmcjgaaaBroot
import Derived.Test.YtoadiibfmcjgaaaRpath
import Derived.Deep.AppendLies
namespace Go.Proofs.Ytoadiibfmcjgaaa
open Go.RowKit
set_option maxRecDepth 100000
attribute [local go_sem ↓] Go.wp_at_zero Go.wp_at_succ

theorem box_alloc {w W : World} {b off : Nat} {ss : List ByteArray} {x y : Value} (h : W.cell? ⟨w.heap.size, 0, none⟩ = some x ∧ W.cell? ⟨w.heap.size, 1, none⟩ = some y ∧ Still w b off ss W) (hbw : b < w.heap.size) (o : Obj) :
    (W.alloc o).cell? ⟨w.heap.size, 0, none⟩ = some x ∧ (W.alloc o).cell? ⟨w.heap.size, 1, none⟩ = some y ∧ Still w b off ss (W.alloc o) :=
  box_call h hbw ((Below.refl _ _).alloc (Nat.le_refl _) o)
theorem box_push {w W w1 : World} {b off : Nat} {ss : List ByteArray} {x y : Value} {e : TypeId} {v : Value} {n : Nat} {xs : List Value} {o : Obj} (h : W.cell? ⟨w.heap.size, 0, none⟩ = some x ∧ W.cell? ⟨w.heap.size, 1, none⟩ = some y ∧ Still w b off ss W) (hbw : b < w.heap.size)
    (hown : W.ownsRow (w.heap.size + 1) e 1 v n xs) (hgrow : (W.alloc o).grownBy w1 v.ownBlock) :
    w1.cell? ⟨w.heap.size, 0, none⟩ = some x ∧ w1.cell? ⟨w.heap.size, 1, none⟩ = some y ∧ Still w b off ss w1 := by
  have hsz := h.2.2.2.1
  have hb := below_push (w := W) (B := w.heap.size + 1) (by omega) hown (Below.refl _ _) hgrow
  exact ⟨(hb.cell (p := ⟨w.heap.size, 0, none⟩) (by simp)).trans h.1, (hb.cell (p := ⟨w.heap.size, 1, none⟩) (by simp)).trans h.2.1,
    h.2.2.1.below hb (by omega), by have := hb.size; omega, h.2.2.2.2.trans (hb.mono (by omega))⟩

/-- Builder.Path in a tree of up to m leaves. -/
def BPathUpto (m : Nat) : Prop := ∀ (ss : List ByteArray) (n i b off cap : Nat) (w : World), ss.length = n → n ≤ m → i < n → n ≤ cap → n ≤ 8796093022208 → cap ≤ 1152921504606846976 → (∀ s ∈ ss, s.size ≤ 140737488355328) →
    b < w.heap.size → StrsAt w b off ss →
    Calls Try.prog 44 #[.agg #[fLeaf, fNode], .slice (some ⟨b, off, none⟩) n cap, .int .i64 (i : Int)] w fun e w' => ∃ v, e = .returned v ∧ OwnStrs w' w.heap.size v (Sg.path ss i) ∧ Below w.heap.size w w'

set_option maxHeartbeats 400000 in
theorem bPath_one (ss : List ByteArray) (i b off cap : Nat) (w : World) (hn : ss.length = 1) :
    Calls Try.prog 44 #[.agg #[fLeaf, fNode], .slice (some ⟨b, off, none⟩) 1 cap, .int .i64 (i : Int)] w fun e w' => ∃ v, e = .returned v ∧ OwnStrs w' w.heap.size v (Sg.path ss i) ∧ Below w.heap.size w w' := by
  have HR : Hid (Sg.path ss i = []) := Sg.path_one (by omega) i
  go_enter Try.func44, Try.ntmps44
  go_wp2_with fail
  go_ret
  exact ⟨_, rfl, by rw [HR.out]; exact World.ownsRow_nil _ _ _ _, (Below.refl _ _).alloc (Nat.le_refl _) _⟩

set_option maxRecDepth 100000 in
set_option maxHeartbeats 1600000 in
theorem bPath_left {m : Nat} (ih : BPathUpto m) (ss : List ByteArray) (n i b off cap : Nat) (w : World) (hn : ss.length = n) (hm : n ≤ m + 1) (h2 : 2 ≤ n) (hik : i < Sg.halfN n) (hlc : n ≤ cap) (hn43 : n ≤ 8796093022208) (hcap : cap ≤ 1152921504606846976) (hsz : ∀ s ∈ ss, s.size ≤ 140737488355328)
    (hbw : b < w.heap.size) (hat : StrsAt w b off ss) :
    Calls Try.prog 44 #[.agg #[fLeaf, fNode], .slice (some ⟨b, off, none⟩) n cap, .int .i64 (i : Int)] w fun e w' => ∃ v, e = .returned v ∧ OwnStrs w' w.heap.size v (Sg.path ss i) ∧ Below w.heap.size w w' := by
  obtain ⟨i0, hi, hz0, hz1, hz2⟩ := info_parts Try.infoStr
  have HR : Hid (Sg.path ss i = Sg.path (ss.take (Sg.halfN n)) i ++ [Sg.root (ss.drop (Sg.halfN n))]) := by
    have := Sg.path_left (l := ss) (by omega) (i := i) (by rw [hn]; exact hik); rw [hn] at this; exact this
  have hlt := Sg.halfN_lt h2
  have hpos := Sg.halfN_pos n
  have HP := Sg.path_length n (ss.take (Sg.halfN n)) i (by simp; omega)
  rw [List.length_take, hn, Nat.min_eq_left (by omega)] at HP
  have hpl := Sg.depth_lt _ i (Sg.halfN n) (Nat.le_refl _) hpos
  rw [← HP] at hpl
  clear HP
  obtain ⟨k, hk⟩ : ∃ k, k = Sg.halfN n := ⟨_, rfl⟩
  rw [← hk] at HR hlt hpos hik hpl
  have HK : Hid (k = Sg.halfN n) := hk
  clear hk
  have hl1 : ss.length = n := hn
  have HT : Hid ((ss.take k).length = k) := by show _ = _; rw [List.length_take, hl1]; omega
  have HD : Hid ((ss.drop k).length = n - k) := by show _ = _; rw [List.length_drop, hl1]
  clear hn hl1
  have h1 : ((n : Int) == 1) = false := by simp; omega
  have i1 : (i : Int) < (k : Int) := by omega
  have i2 : (0 : Int) ≤ (k : Int) := by omega
  have i3 : (k : Int) ≤ (n : Int) := by omega
  have i4 : (k : Int) ≤ (cap : Int) := by omega
  have i5 : (n : Int) ≤ (cap : Int) := by omega
  obtain ⟨ps, hps⟩ : ∃ ps, ps = Sg.path (ss.take k) i := ⟨_, rfl⟩
  obtain ⟨r, hr⟩ : ∃ r, r = Sg.root (ss.drop k) := ⟨_, rfl⟩
  rw [← hps] at HR hpl
  rw [← hr] at HR
  have HPS : Hid (ps = Sg.path (ss.take k) i) := hps
  have HRR : Hid (r = Sg.root (ss.drop k)) := hr
  clear hps hr
  go_enter Try.func44, Try.ntmps44
  go_wp2_with fail
  refine (split_any (n : Int) _ (by omega) (by omega)).mono ?_
  rintro e w1 ⟨rfl, rfl⟩
  rw [Int.toNat_natCast, ← HK.out]
  go_wp2_with fail
  go_region_held3 (fun w' => w'.cell? ⟨w.heap.size, 0, none⟩ = some fLeaf ∧ w'.cell? ⟨w.heap.size, 1, none⟩ = some fNode ∧ Still w b off ss w') (first | assumption | exact box_new hbw hat | exact box_drew (box_new hbw hat) | exact box_drew (w := w) (b := b) (off := off) (ss := ss) (x := fLeaf) (y := fNode) (by assumption) | exact box_alloc (w := w) (b := b) (off := off) (ss := ss) (x := fLeaf) (y := fNode) (by assumption) hbw _ | exact box_push (w := w) (b := b) (off := off) (ss := ss) (x := fLeaf) (y := fNode) hh3 hbw hown3 hgrow)
    (first
      | (go_at_call 44; refine (ih (ss.take k) k i b off cap _ HT.out (by omega) (by omega) (by omega) (by omega) hcap (fun s hs => hsz s (List.mem_of_mem_take hs)) ?_ ?_).mono ?_; exact box_lt (w := w) (off := off) (ss := ss) (x := fLeaf) (y := fNode) (by assumption) hbw; exact (box_at (w := w) (b := b) (off := off) (ss := ss) (x := fLeaf) (y := fNode) (by assumption)).take k; rintro e w2 ⟨v, rfl, hown2, hb2⟩; have hh2 := box_call (w := w) (b := b) (off := off) (ss := ss) (x := fLeaf) (y := fNode) (by assumption) hbw hb2; rw [← HPS.out] at hown2; replace hown2 : OwnStrs w2 (w.heap.size + 1) v ps := hown2.base (by simp))
      | (go_at_call 61; refine (bRoot_upto (n - k) (ss.drop k) (n - k) b (off + k) (cap - k) _ HD.out (Nat.le_refl _) (by omega) (by omega) (by omega) (fun s hs => hsz s (List.mem_of_mem_drop hs)) ?_ ?_).mono ?_; exact box_lt (w := w) (off := off) (ss := ss) (x := fLeaf) (y := fNode) (by assumption) hbw; exact (box_at (w := w) (b := b) (off := off) (ss := ss) (x := fLeaf) (y := fNode) (by assumption)).drop k; rintro e w3 ⟨rfl, hb3⟩; rw [← HRR.out]; have hh3 := box_call (w := w) (b := b) (off := off) (ss := ss) (x := fLeaf) (y := fNode) (by assumption) hbw hb3; have hown3 := hown2.below hb3; unfold OwnStrs at hown3)
      | (refine step_append_lies _ (by rfl) _ _ _ (by rfl) (w.heap.size + 1) 9 i0 _ 1 16 Try.underlying24 hi hz0 hz1 hz2 rfl (by omega) v ps.length (ps.map Value.string) (by rfl) (hown3.alloc _) ⟨w3.heap.size, 0, none⟩ 1 1 [.string r] (by rfl) (by rfl) (World.news_of_block (cs := #[.string r]) (t := 9) (fr := (0, 0)) (heap_alloc_new w3 _)) (by simp [Value.oneCell']) (by omega) (by unfold maxLen; omega) (by omega) (by have := hh3.2.2.2.1; simp; omega) (w3.heap.size + 1) (by simp) ?_; intro g cap' w4 hown4 hgrow hat4 hlt4))
  go_wp2_with fail
  go_ret
  exact ⟨_, rfl, by rw [HR.out]; exact OwnStrs.base (OwnStrs.push hown4) (by omega), (box_push (w := w) (b := b) (off := off) (ss := ss) (x := fLeaf) (y := fNode) hh3 hbw hown3 hgrow).2.2.below⟩

set_option maxRecDepth 100000 in
set_option maxHeartbeats 1600000 in
theorem bPath_right {m : Nat} (ih : BPathUpto m) (ss : List ByteArray) (n i b off cap : Nat) (w : World) (hn : ss.length = n) (hm : n ≤ m + 1) (h2 : 2 ≤ n) (hik : ¬ i < Sg.halfN n) (hin : i < n) (hlc : n ≤ cap) (hn43 : n ≤ 8796093022208) (hcap : cap ≤ 1152921504606846976) (hsz : ∀ s ∈ ss, s.size ≤ 140737488355328)
    (hbw : b < w.heap.size) (hat : StrsAt w b off ss) :
    Calls Try.prog 44 #[.agg #[fLeaf, fNode], .slice (some ⟨b, off, none⟩) n cap, .int .i64 (i : Int)] w fun e w' => ∃ v, e = .returned v ∧ OwnStrs w' w.heap.size v (Sg.path ss i) ∧ Below w.heap.size w w' := by
  obtain ⟨i0, hi, hz0, hz1, hz2⟩ := info_parts Try.infoStr
  have HR : Hid (Sg.path ss i = Sg.path (ss.drop (Sg.halfN n)) (i - Sg.halfN n) ++ [Sg.root (ss.take (Sg.halfN n))]) := by
    have := Sg.path_right (l := ss) (by omega) (i := i) (by rw [hn]; exact hik); rw [hn] at this; exact this
  have hlt := Sg.halfN_lt h2
  have hpos := Sg.halfN_pos n
  have HP := Sg.path_length n (ss.drop (Sg.halfN n)) (i - Sg.halfN n) (by simp; omega)
  rw [List.length_drop, hn] at HP
  have hpl := Sg.depth_lt _ (i - Sg.halfN n) (n - Sg.halfN n) (Nat.le_refl _) (by omega)
  rw [← HP] at hpl
  clear HP
  obtain ⟨k, hk⟩ : ∃ k, k = Sg.halfN n := ⟨_, rfl⟩
  rw [← hk] at HR hlt hpos hik hpl
  have HK : Hid (k = Sg.halfN n) := hk
  clear hk
  have hl1 : ss.length = n := hn
  have HT : Hid ((ss.take k).length = k) := by show _ = _; rw [List.length_take, hl1]; omega
  have HD : Hid ((ss.drop k).length = n - k) := by show _ = _; rw [List.length_drop, hl1]
  clear hn hl1
  have h1 : ((n : Int) == 1) = false := by simp; omega
  have i1 : ¬ (i : Int) < (k : Int) := by omega
  have HE : Hid (((i : Int) - (k : Int)) = ((i - k : Nat) : Int)) := by show _ = _; omega
  have i2 : (0 : Int) ≤ (k : Int) := by omega
  have hwr : IntKind.i64.wrap ((i : Int) - (k : Int)) = (i : Int) - (k : Int) := IntWalk.i64_in _ (by omega)
  have hck : ¬ cap = k := by omega
  have i3 : (k : Int) ≤ (n : Int) := by omega
  have i4 : (k : Int) ≤ (cap : Int) := by omega
  have i5 : (n : Int) ≤ (cap : Int) := by omega
  obtain ⟨ps, hps⟩ : ∃ ps, ps = Sg.path (ss.drop k) (i - k) := ⟨_, rfl⟩
  obtain ⟨r, hr⟩ : ∃ r, r = Sg.root (ss.take k) := ⟨_, rfl⟩
  rw [← hps] at HR hpl
  rw [← hr] at HR
  have HPS : Hid (ps = Sg.path (ss.drop k) (i - k)) := hps
  have HRR : Hid (r = Sg.root (ss.take k)) := hr
  clear hps hr
  go_enter Try.func44, Try.ntmps44
  go_wp2_with fail
  refine (split_any (n : Int) _ (by omega) (by omega)).mono ?_
  rintro e w1 ⟨rfl, rfl⟩
  rw [Int.toNat_natCast, ← HK.out]
  go_wp2_with fail
  go_region_held3 (fun w' => w'.cell? ⟨w.heap.size, 0, none⟩ = some fLeaf ∧ w'.cell? ⟨w.heap.size, 1, none⟩ = some fNode ∧ Still w b off ss w') (first | assumption | exact box_new hbw hat | exact box_drew (box_new hbw hat) | exact box_drew (w := w) (b := b) (off := off) (ss := ss) (x := fLeaf) (y := fNode) (by assumption) | exact box_alloc (w := w) (b := b) (off := off) (ss := ss) (x := fLeaf) (y := fNode) (by assumption) hbw _ | exact box_push (w := w) (b := b) (off := off) (ss := ss) (x := fLeaf) (y := fNode) hh3 hbw hown3 hgrow)
    (first
      | (go_at_call 44; rw [HE.out]; refine (ih (ss.drop k) (n - k) (i - k) b (off + k) (cap - k) _ HD.out (by omega) (by omega) (by omega) (by omega) (by omega) (fun s hs => hsz s (List.mem_of_mem_drop hs)) ?_ ?_).mono ?_; exact box_lt (w := w) (off := off) (ss := ss) (x := fLeaf) (y := fNode) (by assumption) hbw; exact (box_at (w := w) (b := b) (off := off) (ss := ss) (x := fLeaf) (y := fNode) (by assumption)).drop k; rintro e w2 ⟨v, rfl, hown2, hb2⟩; have hh2 := box_call (w := w) (b := b) (off := off) (ss := ss) (x := fLeaf) (y := fNode) (by assumption) hbw hb2; rw [← HPS.out] at hown2; replace hown2 : OwnStrs w2 (w.heap.size + 1) v ps := hown2.base (by simp))
      | (go_at_call 61; refine (bRoot_upto k (ss.take k) k b off cap _ HT.out (Nat.le_refl _) (by omega) (by omega) (by omega) (fun s hs => hsz s (List.mem_of_mem_take hs)) ?_ ?_).mono ?_; exact box_lt (w := w) (off := off) (ss := ss) (x := fLeaf) (y := fNode) (by assumption) hbw; exact (box_at (w := w) (b := b) (off := off) (ss := ss) (x := fLeaf) (y := fNode) (by assumption)).take k; rintro e w3 ⟨rfl, hb3⟩; rw [← HRR.out]; have hh3 := box_call (w := w) (b := b) (off := off) (ss := ss) (x := fLeaf) (y := fNode) (by assumption) hbw hb3; have hown3 := hown2.below hb3; unfold OwnStrs at hown3)
      | (refine step_append_lies _ (by rfl) _ _ _ (by rfl) (w.heap.size + 1) 9 i0 _ 1 16 Try.underlying24 hi hz0 hz1 hz2 rfl (by omega) v ps.length (ps.map Value.string) (by rfl) (hown3.alloc _) ⟨w3.heap.size, 0, none⟩ 1 1 [.string r] (by rfl) (by rfl) (World.news_of_block (cs := #[.string r]) (t := 9) (fr := (0, 0)) (heap_alloc_new w3 _)) (by simp [Value.oneCell']) (by omega) (by unfold maxLen; omega) (by omega) (by have := hh3.2.2.2.1; simp; omega) (w3.heap.size + 1) (by simp) ?_; intro g cap' w4 hown4 hgrow hat4 hlt4))
  go_wp2_with fail
  go_ret
  exact ⟨_, rfl, by rw [HR.out]; exact OwnStrs.base (OwnStrs.push hown4) (by omega), (box_push (w := w) (b := b) (off := off) (ss := ss) (x := fLeaf) (y := fNode) hh3 hbw hown3 hgrow).2.2.below⟩

theorem bPath_upto : ∀ m, BPathUpto m := by
  intro m
  induction m with
  | zero => intro ss n i b off cap w _ hm h1; omega
  | succ m ih =>
    intro ss n i b off cap w hn hm h1 hlc hn43 hcap hsz hbw hat
    by_cases hone : n = 1
    · subst hone; exact bPath_one ss i b off cap w hn
    · by_cases hik : i < Sg.halfN n
      · exact bPath_left ih ss n i b off cap w hn hm (by omega) hik hlc hn43 hcap hsz hbw hat
      · exact bPath_right ih ss n i b off cap w hn hm (by omega) hik h1 hlc hn43 hcap hsz hbw hat

/-- Both calls Path answer an error at the number of no leaf. -/
theorem sealPath_no (ao : Option Addr) (n cap : Nat) (i : Int) (w : World) (h : i < 0 ∨ (n : Int) ≤ i) :
    Calls Try.prog 16 #[.slice ao n cap, .int .i64 i] w fun e w' => e = .returned (.tuple #[.slice none 0 0, .int .i64 1]) ∧ w' = w := by
  by_cases h0 : i < 0
  · go_enter Try.func16, Try.ntmps16
    go_wp2_with fail
    go_ret2
    exact ⟨rfl, rfl⟩
  · have h1 : (n : Int) ≤ i := by omega
    clear h
    go_enter Try.func16, Try.ntmps16
    go_wp2_with fail
    go_ret2
    exact ⟨rfl, rfl⟩
theorem refPath_no (ao : Option Addr) (n cap : Nat) (i : Int) (w : World) (h : i < 0 ∨ (n : Int) ≤ i) :
    Calls Try.prog 17 #[.slice ao n cap, .int .i64 i] w fun e w' => e = .returned (.tuple #[.slice none 0 0, .int .i64 1]) ∧ w' = w := by
  by_cases h0 : i < 0
  · go_enter Try.func17, Try.ntmps17
    go_wp2_with fail
    go_ret2
    exact ⟨rfl, rfl⟩
  · have h1 : (n : Int) ≤ i := by omega
    clear h
    go_enter Try.func17, Try.ntmps17
    go_wp2_with fail
    go_ret2
    exact ⟨rfl, rfl⟩

set_option maxHeartbeats 800000 in
theorem sealPath_yes (ss : List ByteArray) (n i b off cap : Nat) (w : World) (hn : ss.length = n) (hin : i < n) (hlc : n ≤ cap) (hn43 : n ≤ 8796093022208) (hcap : cap ≤ 1152921504606846976) (hsz : ∀ s ∈ ss, s.size ≤ 140737488355328)
    (hbw : b < w.heap.size) (hat : StrsAt w b off ss) :
    Calls Try.prog 16 #[.slice (some ⟨b, off, none⟩) n cap, .int .i64 (i : Int)] w fun e w' => ∃ v, e = .returned (.tuple #[v, .int .i64 0]) ∧ OwnStrs w' w.heap.size v (Sg.path ss i) ∧ Below w.heap.size w w' := by
  have h0 : ¬ (i : Int) < 0 := by omega
  have h1 : ¬ (n : Int) ≤ (i : Int) := by omega
  go_enter Try.func16, Try.ntmps16
  go_wp2_with fail
  refine (sums_any _).mono ?_
  rintro e w1 ⟨rfl, hb1⟩
  go_wp2_with fail
  refine (bPath_upto n ss n i b off cap _ hn (Nat.le_refl _) hin hlc hn43 hcap hsz (Nat.lt_of_lt_of_le hbw hb1.size) (hat.below hb1 hbw)).mono ?_
  rintro e w2 ⟨v, rfl, hown, hb2⟩
  go_wp2_with fail
  go_ret2
  exact ⟨_, rfl, hown.base hb1.size, hb1.trans (hb2.mono hb1.size)⟩

set_option maxHeartbeats 800000 in
theorem refPath_yes (ss : List ByteArray) (n i b off cap : Nat) (w : World) (hn : ss.length = n) (hin : i < n) (hlc : n ≤ cap) (hn43 : n ≤ 8796093022208) (hcap : cap ≤ 1152921504606846976) (hsz : ∀ s ∈ ss, s.size ≤ 140737488355328)
    (hbw : b < w.heap.size) (hat : StrsAt w b off ss) :
    Calls Try.prog 17 #[.slice (some ⟨b, off, none⟩) n cap, .int .i64 (i : Int)] w fun e w' => ∃ v, e = .returned (.tuple #[v, .int .i64 0]) ∧ OwnStrs w' w.heap.size v (Sg.path ss i) ∧ Below w.heap.size w w' := by
  have h0 : ¬ (i : Int) < 0 := by omega
  have h1 : ¬ (n : Int) ≤ (i : Int) := by omega
  go_enter Try.func17, Try.ntmps17
  go_wp2_with fail
  refine (refPath_upto n ss n i b off cap _ hn (Nat.le_refl _) hin hlc hn43 hcap hsz hbw hat).mono ?_
  rintro e w2 ⟨v, rfl, hown, hb2⟩
  go_wp2_with fail
  go_ret2
  exact ⟨_, rfl, hown, hb2⟩
end Go.Proofs.Ytoadiibfmcjgaaa
