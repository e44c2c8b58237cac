import Derived.Test.YtpkkhkkkgjhkeabGreatTree
import Derived.Deep.AppendLies
import Derived.Test.YtpkkhkkkgjhkeabGreatBclimb
import Derived.Test.YtpkkhkkkgjhkeabGreatPick
/-
  THE WALKS of Builder.Path, seal.Path, signetref.Path (P4).
-/
namespace Go.Proofs.YtpkkhkkkgjhkeabGreat
open Go.RowKit
set_option maxRecDepth 100000
attribute [local go_sem ↓] Go.wp_at_zero Go.wp_at_succ

/-- What a world that came behind w still has: the leaves; what sums a text; all that was there. -/
def Still (w : World) (b off g : Nat) (ss : List ByteArray) (w' : World) : Prop := StrsAt w' b off ss ∧ w.heap.size < w'.heap.size ∧ Below w.heap.size w w' ∧ OfAt w' g
theorem Still.below {w w' : World} {b off g : Nat} {ss : List ByteArray} (h : Still w b off g ss w') : Below w.heap.size w w' := h.2.2.1
theorem Still.drew {w w' : World} {b off g : Nat} {ss : List ByteArray} (h : Still w b off g ss w') : Still w b off g ss w'.drew :=
  ⟨fun i hi => by simpa using h.1 i hi, by simpa using h.2.1, h.2.2.1.drew, h.2.2.2⟩
theorem Still.alloc {w : World} {b off g : Nat} {ss : List ByteArray} (hbw : b < w.heap.size) (hat : StrsAt w b off ss) (hg : OfAt w g) (o : Obj) : Still w b off g ss (w.alloc o) :=
  ⟨hat.below ((Below.refl _ _).alloc (Nat.le_refl _) o) hbw, by simp, (Below.refl _ _).alloc (Nat.le_refl _) o, hg.below hg.lt ((Below.refl _ _).alloc (Nat.le_refl _) o)⟩
theorem Still.call {w W w' : World} {b off g : Nat} {ss : List ByteArray} (h : Still w b off g ss W) (hbw : b < w.heap.size) (hb : Below W.heap.size W w') : Still w b off g ss w' :=
  ⟨h.1.below hb (by have := h.2.1; omega), by have := h.2.1; have := hb.size; omega, h.2.2.1.trans (hb.mono (by have := h.2.1; omega)), h.2.2.2.below h.2.2.2.lt hb⟩
/-- The builder's box, and the rest. -/
theorem box_call {w W w' : World} {b off g : Nat} {ss : List ByteArray} {x y : Value} (h : W.cell? ⟨w.heap.size, 0, none⟩ = some x ∧ W.cell? ⟨w.heap.size, 1, none⟩ = some y ∧ Still w b off g ss W) (hbw : b < w.heap.size) (hb : Below W.heap.size W w') :
    w'.cell? ⟨w.heap.size, 0, none⟩ = some x ∧ w'.cell? ⟨w.heap.size, 1, none⟩ = some y ∧ Still w b off g ss w' :=
  ⟨(hb.cell (p := ⟨w.heap.size, 0, none⟩) h.2.2.2.1).trans h.1, (hb.cell (p := ⟨w.heap.size, 1, none⟩) h.2.2.2.1).trans h.2.1, h.2.2.call hbw hb⟩
theorem box_lt {w W : World} {b off g : Nat} {ss : List ByteArray} {x y : Value} (h : W.cell? ⟨w.heap.size, 0, none⟩ = some x ∧ W.cell? ⟨w.heap.size, 1, none⟩ = some y ∧ Still w b off g ss W) (hbw : b < w.heap.size) : b < W.heap.size := Nat.lt_trans hbw h.2.2.2.1
theorem box_at {w W : World} {b off g : Nat} {ss : List ByteArray} {x y : Value} (h : W.cell? ⟨w.heap.size, 0, none⟩ = some x ∧ W.cell? ⟨w.heap.size, 1, none⟩ = some y ∧ Still w b off g ss W) : StrsAt W b off ss := h.2.2.1
theorem box_of {w W : World} {b off g : Nat} {ss : List ByteArray} {x y : Value} (h : W.cell? ⟨w.heap.size, 0, none⟩ = some x ∧ W.cell? ⟨w.heap.size, 1, none⟩ = some y ∧ Still w b off g ss W) : OfAt W g := h.2.2.2.2.2
theorem box_drew {w W : World} {b off g : Nat} {ss : List ByteArray} {x y : Value} (h : W.cell? ⟨w.heap.size, 0, none⟩ = some x ∧ W.cell? ⟨w.heap.size, 1, none⟩ = some y ∧ Still w b off g ss W) :
    W.drew.cell? ⟨w.heap.size, 0, none⟩ = some x ∧ W.drew.cell? ⟨w.heap.size, 1, none⟩ = some y ∧ Still w b off g ss W.drew :=
  ⟨by simpa using h.1, by simpa using h.2.1, h.2.2.drew⟩
theorem box_new {w : World} {b off g : Nat} {ss : List ByteArray} {x y : Value} {t : TypeId} (hbw : b < w.heap.size) (hat : StrsAt w b off ss) (hg : OfAt w g) :
    (w.alloc (.cells #[x, y] t)).cell? ⟨w.heap.size, 0, none⟩ = some x ∧ (w.alloc (.cells #[x, y] t)).cell? ⟨w.heap.size, 1, none⟩ = some y ∧ Still w b off g ss (w.alloc (.cells #[x, y] t)) :=
  ⟨by simp, by simp, Still.alloc hbw hat hg _⟩
theorem box_alloc {w W : World} {b off g : Nat} {ss : List ByteArray} {x y : Value} (h : W.cell? ⟨w.heap.size, 0, none⟩ = some x ∧ W.cell? ⟨w.heap.size, 1, none⟩ = some y ∧ Still w b off g ss W) (hbw : b < w.heap.size) (o : Obj) :
    (W.alloc o).cell? ⟨w.heap.size, 0, none⟩ = some x ∧ (W.alloc o).cell? ⟨w.heap.size, 1, none⟩ = some y ∧ Still w b off g ss (W.alloc o) :=
  box_call h hbw ((Below.refl _ _).alloc (Nat.le_refl _) o)
theorem box_push {w W w1 : World} {b off g : Nat} {ss : List ByteArray} {x y : Value} {e : TypeId} {v : Value} {n : Nat} {xs : List Value} {o : Obj} (hgw : g < w.heap.size) (h : W.cell? ⟨w.heap.size, 0, none⟩ = some x ∧ W.cell? ⟨w.heap.size, 1, none⟩ = some y ∧ Still w b off g ss W) (hbw : b < w.heap.size)
    (hown : W.ownsRow (w.heap.size + 1) e 1 v n xs) (hgrow : (W.alloc o).grownBy w1 v.ownBlock) :
    w1.cell? ⟨w.heap.size, 0, none⟩ = some x ∧ w1.cell? ⟨w.heap.size, 1, none⟩ = some y ∧ Still w b off g ss w1 := by
  have hsz := h.2.2.2.1
  have hb := below_push (w := W) (B := w.heap.size + 1) (by omega) hown (Below.refl _ _) hgrow
  exact ⟨(hb.cell (p := ⟨w.heap.size, 0, none⟩) (by simp)).trans h.1, (hb.cell (p := ⟨w.heap.size, 1, none⟩) (by simp)).trans h.2.1,
    h.2.2.1.below hb (by omega), by have := hb.size; omega, h.2.2.2.2.1.trans (hb.mono (by omega)), h.2.2.2.2.2.below (by omega) hb⟩

/-- Builder.Path in a tree of up to m leaves. -/
def BPathUpto (g m : Nat) : Prop := ∀ (ss : List ByteArray) (n i b off cap : Nat) (w : World), ss.length = n → n ≤ m → i < n → n ≤ cap → n ≤ 8796093022208 → cap ≤ 9223372036854775807 → (∀ s ∈ ss, s.size ≤ 140737488355328) →
    OfAt w g → b < w.heap.size → StrsAt w b off ss →
    Calls Tryz.prog 42 #[.agg #[(fLeaf g), (fNode g)], .slice (some ⟨b, off, none⟩) n cap, .int .i64 (i : Int)] w fun e w' => ∃ v, e = .returned v ∧ OwnStrs w' w.heap.size v (Sg.path ss i) ∧ Below w.heap.size w w'

set_option maxHeartbeats 400000 in
theorem bPath_one (g : Nat) (ss : List ByteArray) (i b off cap : Nat) (w : World) (hn : ss.length = 1) :
    Calls Tryz.prog 42 #[.agg #[(fLeaf g), (fNode g)], .slice (some ⟨b, off, none⟩) 1 cap, .int .i64 (i : Int)] w fun e w' => ∃ v, e = .returned v ∧ OwnStrs w' w.heap.size v (Sg.path ss i) ∧ Below w.heap.size w w' := by
  have HR : Hid (Sg.path ss i = []) := Sg.path_one (by omega) i
  go_enter Tryz.func42, Tryz.ntmps42
  go_wp2_with fail
  go_ret
  exact ⟨_, rfl, by rw [HR.out]; exact World.ownsRow_nil _ _ _ _, (Below.refl _ _).alloc (Nat.le_refl _) _⟩

set_option maxRecDepth 100000 in
set_option maxHeartbeats 1600000 in
theorem bPath_left {g m : Nat} (ih : BPathUpto g m) (ss : List ByteArray) (n i b off cap : Nat) (w : World) (hn : ss.length = n) (hm : n ≤ m + 1) (h2 : 2 ≤ n) (hik : i < Sg.halfN n) (hlc : n ≤ cap) (hn43 : n ≤ 8796093022208) (hcap : cap ≤ 9223372036854775807) (hsz : ∀ s ∈ ss, s.size ≤ 140737488355328)
    (hg : OfAt w g) (hbw : b < w.heap.size) (hat : StrsAt w b off ss) :
    Calls Tryz.prog 42 #[.agg #[(fLeaf g), (fNode g)], .slice (some ⟨b, off, none⟩) n cap, .int .i64 (i : Int)] w fun e w' => ∃ v, e = .returned v ∧ OwnStrs w' w.heap.size v (Sg.path ss i) ∧ Below w.heap.size w w' := by
  obtain ⟨i0, hi, hz0, hz1, hz2⟩ := info_parts Tryz.infoStr
  have hgw := hg.lt
  have HR : Hid (Sg.path ss i = Sg.path (ss.take (Sg.halfN n)) i ++ [Sg.root (ss.drop (Sg.halfN n))]) := by
    have := Sg.path_left (l := ss) (by omega) (i := i) (by rw [hn]; exact hik); rw [hn] at this; exact this
  have hlt := Sg.halfN_lt h2
  have hpos := Sg.halfN_pos n
  have HP := Sg.path_length n (ss.take (Sg.halfN n)) i (by simp; omega)
  rw [List.length_take, hn, Nat.min_eq_left (by omega)] at HP
  have hpl := Sg.depth_lt _ i (Sg.halfN n) (Nat.le_refl _) hpos
  rw [← HP] at hpl
  clear HP
  obtain ⟨k, hk⟩ : ∃ k, k = Sg.halfN n := ⟨_, rfl⟩
  rw [← hk] at HR hlt hpos hik hpl
  have HK : Hid (k = Sg.halfN n) := hk
  clear hk
  have hl1 : ss.length = n := hn
  have HT : Hid ((ss.take k).length = k) := by show _ = _; rw [List.length_take, hl1]; omega
  have HD : Hid ((ss.drop k).length = n - k) := by show _ = _; rw [List.length_drop, hl1]
  clear hn hl1
  have h1 : ((n : Int) == 1) = false := by simp; omega
  have i1 : (i : Int) < (k : Int) := by omega
  have i2 : (0 : Int) ≤ (k : Int) := by omega
  have i3 : (k : Int) ≤ (n : Int) := by omega
  have i4 : (k : Int) ≤ (cap : Int) := by omega
  have i5 : (n : Int) ≤ (cap : Int) := by omega
  obtain ⟨ps, hps⟩ : ∃ ps, ps = Sg.path (ss.take k) i := ⟨_, rfl⟩
  obtain ⟨r, hr⟩ : ∃ r, r = Sg.root (ss.drop k) := ⟨_, rfl⟩
  rw [← hps] at HR hpl
  rw [← hr] at HR
  have HPS : Hid (ps = Sg.path (ss.take k) i) := hps
  have HRR : Hid (r = Sg.root (ss.drop k)) := hr
  clear hps hr
  go_enter Tryz.func42, Tryz.ntmps42
  go_wp2_with fail
  refine (split_any (n : Int) _ (by omega) (by omega)).mono ?_
  rintro e w1 ⟨rfl, rfl⟩
  rw [Int.toNat_natCast, ← HK.out]
  go_wp2_with fail
  go_region_held3 (fun w' => w'.cell? ⟨w.heap.size, 0, none⟩ = some (fLeaf g) ∧ w'.cell? ⟨w.heap.size, 1, none⟩ = some (fNode g) ∧ Still w b off g ss w') (first | assumption | exact box_new hbw hat hg | exact box_drew (box_new hbw hat hg) | exact box_drew (w := w) (b := b) (off := off) (ss := ss) (x := (fLeaf g)) (y := (fNode g)) (by assumption) | exact box_alloc (w := w) (b := b) (off := off) (ss := ss) (x := (fLeaf g)) (y := (fNode g)) (by assumption) hbw _ | exact box_push (w := w) (b := b) (off := off) (ss := ss) (x := (fLeaf g)) (y := (fNode g)) hgw hh3 hbw hown3 hgrow)
    (first
      | (go_at_call 42; refine (ih (ss.take k) k i b off cap _ HT.out (by omega) (by omega) (by omega) (by omega) hcap (fun s hs => hsz s (List.mem_of_mem_take hs)) ?_ ?_ ?_).mono ?_; exact box_of (w := w) (b := b) (off := off) (ss := ss) (x := (fLeaf g)) (y := (fNode g)) (by assumption); exact box_lt (w := w) (off := off) (ss := ss) (x := (fLeaf g)) (y := (fNode g)) (by assumption) hbw; exact (box_at (w := w) (b := b) (off := off) (ss := ss) (x := (fLeaf g)) (y := (fNode g)) (by assumption)).take k; rintro e w2 ⟨v, rfl, hown2, hb2⟩; have hh2 := box_call (w := w) (b := b) (off := off) (ss := ss) (x := (fLeaf g)) (y := (fNode g)) (by assumption) hbw hb2; rw [← HPS.out] at hown2; replace hown2 : OwnStrs w2 (w.heap.size + 1) v ps := hown2.base (by simp))
      | (go_at_call 79; refine (bRoot_upto (n - k) g (ss.drop k) (n - k) b (off + k) (cap - k) _ HD.out (Nat.le_refl _) (by omega) (by omega) (by omega) (fun s hs => hsz s (List.mem_of_mem_drop hs)) ?_ ?_ ?_).mono ?_; exact box_of (w := w) (b := b) (off := off) (ss := ss) (x := (fLeaf g)) (y := (fNode g)) (by assumption); exact box_lt (w := w) (off := off) (ss := ss) (x := (fLeaf g)) (y := (fNode g)) (by assumption) hbw; exact (box_at (w := w) (b := b) (off := off) (ss := ss) (x := (fLeaf g)) (y := (fNode g)) (by assumption)).drop k; rintro e w3 ⟨rfl, hb3⟩; rw [← HRR.out]; have hh3 := box_call (w := w) (b := b) (off := off) (ss := ss) (x := (fLeaf g)) (y := (fNode g)) (by assumption) hbw hb3; have hown3 := hown2.below hb3; unfold OwnStrs at hown3)
      | (refine step_append_lies _ (by rfl) _ _ _ (by rfl) (w.heap.size + 1) 9 i0 _ 1 16 Tryz.underlying71 hi hz0 hz1 hz2 rfl (by omega) v ps.length (ps.map Value.string) (by rfl) (hown3.alloc _) ⟨w3.heap.size, 0, none⟩ 1 1 [.string r] (by rfl) (by rfl) (World.news_of_block (cs := #[.string r]) (t := 9) (fr := (0, 0)) (heap_alloc_new w3 _)) (by simp [Value.oneCell']) (by omega) (by unfold maxLen; omega) (by omega) (by have := hh3.2.2.2.1; simp; omega) (w3.heap.size + 1) (by simp) ?_; intro gq cap' w4 hown4 hgrow hat4 hlt4))
  go_wp2_with fail
  go_ret
  exact ⟨_, rfl, by rw [HR.out]; exact OwnStrs.base (OwnStrs.push hown4) (by omega), (box_push (w := w) (b := b) (off := off) (ss := ss) (x := (fLeaf g)) (y := (fNode g)) hgw hh3 hbw hown3 hgrow).2.2.below⟩

set_option maxRecDepth 100000 in
set_option maxHeartbeats 1600000 in
theorem bPath_right {g m : Nat} (ih : BPathUpto g m) (ss : List ByteArray) (n i b off cap : Nat) (w : World) (hn : ss.length = n) (hm : n ≤ m + 1) (h2 : 2 ≤ n) (hik : ¬ i < Sg.halfN n) (hin : i < n) (hlc : n ≤ cap) (hn43 : n ≤ 8796093022208) (hcap : cap ≤ 9223372036854775807) (hsz : ∀ s ∈ ss, s.size ≤ 140737488355328)
    (hg : OfAt w g) (hbw : b < w.heap.size) (hat : StrsAt w b off ss) :
    Calls Tryz.prog 42 #[.agg #[(fLeaf g), (fNode g)], .slice (some ⟨b, off, none⟩) n cap, .int .i64 (i : Int)] w fun e w' => ∃ v, e = .returned v ∧ OwnStrs w' w.heap.size v (Sg.path ss i) ∧ Below w.heap.size w w' := by
  obtain ⟨i0, hi, hz0, hz1, hz2⟩ := info_parts Tryz.infoStr
  have hgw := hg.lt
  have HR : Hid (Sg.path ss i = Sg.path (ss.drop (Sg.halfN n)) (i - Sg.halfN n) ++ [Sg.root (ss.take (Sg.halfN n))]) := by
    have := Sg.path_right (l := ss) (by omega) (i := i) (by rw [hn]; exact hik); rw [hn] at this; exact this
  have hlt := Sg.halfN_lt h2
  have hpos := Sg.halfN_pos n
  have HP := Sg.path_length n (ss.drop (Sg.halfN n)) (i - Sg.halfN n) (by simp; omega)
  rw [List.length_drop, hn] at HP
  have hpl := Sg.depth_lt _ (i - Sg.halfN n) (n - Sg.halfN n) (Nat.le_refl _) (by omega)
  rw [← HP] at hpl
  clear HP
  obtain ⟨k, hk⟩ : ∃ k, k = Sg.halfN n := ⟨_, rfl⟩
  rw [← hk] at HR hlt hpos hik hpl
  have HK : Hid (k = Sg.halfN n) := hk
  clear hk
  have hl1 : ss.length = n := hn
  have HT : Hid ((ss.take k).length = k) := by show _ = _; rw [List.length_take, hl1]; omega
  have HD : Hid ((ss.drop k).length = n - k) := by show _ = _; rw [List.length_drop, hl1]
  clear hn hl1
  have h1 : ((n : Int) == 1) = false := by simp; omega
  have i1 : ¬ (i : Int) < (k : Int) := by omega
  have HE : Hid (((i : Int) - (k : Int)) = ((i - k : Nat) : Int)) := by show _ = _; omega
  have i2 : (0 : Int) ≤ (k : Int) := by omega
  have hwr : IntKind.i64.wrap ((i : Int) - (k : Int)) = (i : Int) - (k : Int) := IntWalk.i64_in _ (by omega)
  have hck : ¬ cap = k := by omega
  have i3 : (k : Int) ≤ (n : Int) := by omega
  have i4 : (k : Int) ≤ (cap : Int) := by omega
  have i5 : (n : Int) ≤ (cap : Int) := by omega
  obtain ⟨ps, hps⟩ : ∃ ps, ps = Sg.path (ss.drop k) (i - k) := ⟨_, rfl⟩
  obtain ⟨r, hr⟩ : ∃ r, r = Sg.root (ss.take k) := ⟨_, rfl⟩
  rw [← hps] at HR hpl
  rw [← hr] at HR
  have HPS : Hid (ps = Sg.path (ss.drop k) (i - k)) := hps
  have HRR : Hid (r = Sg.root (ss.take k)) := hr
  clear hps hr
  go_enter Tryz.func42, Tryz.ntmps42
  go_wp2_with fail
  refine (split_any (n : Int) _ (by omega) (by omega)).mono ?_
  rintro e w1 ⟨rfl, rfl⟩
  rw [Int.toNat_natCast, ← HK.out]
  go_wp2_with fail
  go_region_held3 (fun w' => w'.cell? ⟨w.heap.size, 0, none⟩ = some (fLeaf g) ∧ w'.cell? ⟨w.heap.size, 1, none⟩ = some (fNode g) ∧ Still w b off g ss w') (first | assumption | exact box_new hbw hat hg | exact box_drew (box_new hbw hat hg) | exact box_drew (w := w) (b := b) (off := off) (ss := ss) (x := (fLeaf g)) (y := (fNode g)) (by assumption) | exact box_alloc (w := w) (b := b) (off := off) (ss := ss) (x := (fLeaf g)) (y := (fNode g)) (by assumption) hbw _ | exact box_push (w := w) (b := b) (off := off) (ss := ss) (x := (fLeaf g)) (y := (fNode g)) hgw hh3 hbw hown3 hgrow)
    (first
      | (go_at_call 42; rw [HE.out]; refine (ih (ss.drop k) (n - k) (i - k) b (off + k) (cap - k) _ HD.out (by omega) (by omega) (by omega) (by omega) (by omega) (fun s hs => hsz s (List.mem_of_mem_drop hs)) ?_ ?_ ?_).mono ?_; exact box_of (w := w) (b := b) (off := off) (ss := ss) (x := (fLeaf g)) (y := (fNode g)) (by assumption); exact box_lt (w := w) (off := off) (ss := ss) (x := (fLeaf g)) (y := (fNode g)) (by assumption) hbw; exact (box_at (w := w) (b := b) (off := off) (ss := ss) (x := (fLeaf g)) (y := (fNode g)) (by assumption)).drop k; rintro e w2 ⟨v, rfl, hown2, hb2⟩; have hh2 := box_call (w := w) (b := b) (off := off) (ss := ss) (x := (fLeaf g)) (y := (fNode g)) (by assumption) hbw hb2; rw [← HPS.out] at hown2; replace hown2 : OwnStrs w2 (w.heap.size + 1) v ps := hown2.base (by simp))
      | (go_at_call 79; refine (bRoot_upto k g (ss.take k) k b off cap _ HT.out (Nat.le_refl _) (by omega) (by omega) (by omega) (fun s hs => hsz s (List.mem_of_mem_take hs)) ?_ ?_ ?_).mono ?_; exact box_of (w := w) (b := b) (off := off) (ss := ss) (x := (fLeaf g)) (y := (fNode g)) (by assumption); exact box_lt (w := w) (off := off) (ss := ss) (x := (fLeaf g)) (y := (fNode g)) (by assumption) hbw; exact (box_at (w := w) (b := b) (off := off) (ss := ss) (x := (fLeaf g)) (y := (fNode g)) (by assumption)).take k; rintro e w3 ⟨rfl, hb3⟩; rw [← HRR.out]; have hh3 := box_call (w := w) (b := b) (off := off) (ss := ss) (x := (fLeaf g)) (y := (fNode g)) (by assumption) hbw hb3; have hown3 := hown2.below hb3; unfold OwnStrs at hown3)
      | (refine step_append_lies _ (by rfl) _ _ _ (by rfl) (w.heap.size + 1) 9 i0 _ 1 16 Tryz.underlying71 hi hz0 hz1 hz2 rfl (by omega) v ps.length (ps.map Value.string) (by rfl) (hown3.alloc _) ⟨w3.heap.size, 0, none⟩ 1 1 [.string r] (by rfl) (by rfl) (World.news_of_block (cs := #[.string r]) (t := 9) (fr := (0, 0)) (heap_alloc_new w3 _)) (by simp [Value.oneCell']) (by omega) (by unfold maxLen; omega) (by omega) (by have := hh3.2.2.2.1; simp; omega) (w3.heap.size + 1) (by simp) ?_; intro gq cap' w4 hown4 hgrow hat4 hlt4))
  go_wp2_with fail
  go_ret
  exact ⟨_, rfl, by rw [HR.out]; exact OwnStrs.base (OwnStrs.push hown4) (by omega), (box_push (w := w) (b := b) (off := off) (ss := ss) (x := (fLeaf g)) (y := (fNode g)) hgw hh3 hbw hown3 hgrow).2.2.below⟩

theorem bPath_upto (g : Nat) : ∀ m, BPathUpto g m := by
  intro m
  induction m with
  | zero => intro ss n i b off cap w _ hm h1; omega
  | succ m ih =>
    intro ss n i b off cap w hn hm h1 hlc hn43 hcap hsz hg hbw hat
    by_cases hone : n = 1
    · subst hone; exact bPath_one g ss i b off cap w hn
    · by_cases hik : i < Sg.halfN n
      · exact bPath_left ih ss n i b off cap w hn hm (by omega) hik hlc hn43 hcap hsz hg hbw hat
      · exact bPath_right ih ss n i b off cap w hn hm (by omega) hik h1 hlc hn43 hcap hsz hg hbw hat

end Go.Proofs.YtpkkhkkkgjhkeabGreat

/-
  THE WALK of signetkeep.Climbed (P4).
-/
namespace Go.Proofs.YtpkkhkkkgjhkeabGreat
open Go.RowKit
set_option maxRecDepth 100000

theorem StrsIn.below {w w' : World} {ao : Option Addr} {ss : List ByteArray} (h : StrsIn w ao ss) (hb : Below w.heap.size w w') : StrsIn w' ao ss := by
  rcases h with h0 | ⟨b, off, e, hbw, hat⟩
  · exact Or.inl h0
  · exact Or.inr ⟨b, off, e, Nat.lt_of_lt_of_le hbw hb.size, hat.below hb hbw⟩

/-- A list that is the call's own, as a slice that is read. -/
theorem OwnStrs.shape {w : World} {base : Nat} {v : Value} {ss : List ByteArray} (h : OwnStrs w base v ss) : ∃ ao cap, v = .slice ao ss.length cap ∧ ss.length ≤ cap ∧ cap ≤ maxLen ∧ StrsIn w ao ss := by
  have hk := h
  rcases h.2 with ⟨rfl, h0⟩ | ⟨g, cap, cur, rfl, _, hh, hle, hm, _, _⟩
  · exact ⟨none, 0, by rw [h0], by omega, by decide, Or.inl h0⟩
  · refine ⟨_, cap, rfl, hle, hm, Or.inr ⟨g, 0, rfl, lt_of_block hh, fun i hi => ?_⟩⟩
    have := World.ownsRow.cellAt hk i (by omega)
    rw [Nat.zero_add, this]
    simp [List.getD, hi]

theorem path_ok {ss : List ByteArray} {l i : Nat} (hl : ss.length = l) : okPath i l (Sg.path ss i) = true := by
  unfold okPath
  rw [Sg.path_length l ss i (by omega), hl]
  simp only [decide_true, Bool.true_and]
  unfold twos
  rw [List.all_eq_true]
  intro s hs
  simpa using Sg.path_sizes l ss i (by omega) s hs

theorem txt_inj {x y : ByteArray} (h : x.toList = y.toList) : x = y := by
  rw [ByteArray.toList_eq, ByteArray.toList_eq] at h
  exact Go.WideShapes.bytes_inj h

end Go.Proofs.YtpkkhkkkgjhkeabGreat
