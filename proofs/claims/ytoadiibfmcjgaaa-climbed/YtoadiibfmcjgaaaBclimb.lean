/-
  THE WALKS of Builder.Climb, seal.Climb (P4).
-/
import Derived.Test.YtoadiibfmcjgaaaClimb
namespace Go.Proofs.Ytoadiibfmcjgaaa
open Go.RowKit
set_option maxRecDepth 100000
attribute [local go_sem ↓] Go.wp_at_zero Go.wp_at_succ

set_option maxHeartbeats 400000 in
theorem bClimb_one (leaf : ByteArray) (i : Nat) (ao : Option Addr) (l cap : Nat) (ss : List ByteArray) (w : World) (hs : leaf.size ≤ 140737488355328) :
    Calls Try.prog 47 #[.agg #[fLeaf, fNode], .string leaf, .int .i64 (i : Int), .int .i64 1, .slice ao l cap] w fun e w' => e = .returned (.string (Sg.climb leaf i 1 ss)) ∧ Below w.heap.size w w' := by
  have HR : Hid (Sg.climb leaf i 1 ss = Sg.leafB leaf) := Sg.climb_one leaf (Nat.le_refl _) ss
  go_enter Try.func47, Try.ntmps47
  go_wp2_with fail
  refine (leaf_any leaf _ hs).mono ?_
  rintro e w1 ⟨rfl, hb1⟩
  go_wp2_with fail
  go_ret
  exact ⟨ret_str (by rw [HR.out]), ((Below.refl _ _).alloc (Nat.le_refl _) _).trans (hb1.mono (by simp))⟩

/-- Builder.Climb in a tree of 2 to m leaves: its path has a last text. -/
def BClimbUpto (leaf : ByteArray) (m : Nat) : Prop := ∀ (qs : List ByteArray) (x : ByteArray) (q i n b off cap : Nat) (w : World), qs.length = q → q + 1 = Sg.depth i n → n ≤ m → 2 ≤ n → i < n → n ≤ 4096 → q + 1 ≤ cap → cap ≤ 9223372036854775807 →
    x.size = 2 → (∀ s ∈ qs, s.size = 2) → b < w.heap.size → StrsAt w b off (qs ++ [x]) →
    Calls Try.prog 47 #[.agg #[fLeaf, fNode], .string leaf, .int .i64 (i : Int), .int .i64 (n : Int), .slice (some ⟨b, off, none⟩) (q + 1) cap] w fun e w' => e = .returned (.string (Sg.climb leaf i n (qs ++ [x]))) ∧ Below w.heap.size w w'

theorem still_last {w' : World} {b off q : Nat} {qs : List ByteArray} {x : ByteArray} (hq : qs.length = q) (h : StrsAt w' b off (qs ++ [x])) : w'.cell? ⟨b, off + q, none⟩ = some (.string x) := by
  have := h q (by simp; omega)
  rw [this]
  subst hq
  simp [List.getD]
theorem StrsAt.front {w : World} {b off : Nat} {qs : List ByteArray} {x : ByteArray} (h : StrsAt w b off (qs ++ [x])) : StrsAt w b off qs := by
  have := h.take qs.length
  simpa using this

/-- Climb a tree of 1 to m leaves, by what holds of 2 to m. -/
theorem bClimb_all {leaf : ByteArray} {m : Nat} (hs : leaf.size ≤ 140737488355328) (ih : BClimbUpto leaf m) (qs : List ByteArray) (q i n b off cap : Nat) (w : World) (hq : qs.length = q) (hd : q = Sg.depth i n) (hnm : n ≤ m) (hin : i < n) (hn : n ≤ 4096) (hqc : q ≤ cap) (hcap : cap ≤ 9223372036854775807)
    (h2 : ∀ s ∈ qs, s.size = 2) (hbw : b < w.heap.size) (hat : StrsAt w b off qs) :
    Calls Try.prog 47 #[.agg #[fLeaf, fNode], .string leaf, .int .i64 (i : Int), .int .i64 (n : Int), .slice (some ⟨b, off, none⟩) q cap] w fun e w' => e = .returned (.string (Sg.climb leaf i n qs)) ∧ Below w.heap.size w w' := by
  by_cases h1 : n = 1
  · subst h1
    exact bClimb_one leaf i _ q cap qs w hs
  · have hpos : 1 ≤ q := by
      rw [hd, Sg.depth_unfold (by omega)]; split <;> omega
    obtain ⟨ps, x, rfl⟩ : ∃ ps x, qs = ps ++ [x] := by
      have hne : qs ≠ [] := by intro h; subst h; simp at hq; omega
      exact ⟨qs.dropLast, qs.getLast hne, (List.dropLast_concat_getLast hne).symm⟩
    obtain ⟨p, rfl⟩ : ∃ p, q = p + 1 := ⟨q - 1, by omega⟩
    exact ih ps x p i n b off cap w (by simpa using hq) hd hnm (by omega) hin hn hqc hcap (h2 x (by simp)) (fun s hs' => h2 s (by simp [hs'])) hbw hat

set_option maxRecDepth 100000 in
set_option maxHeartbeats 1600000 in
theorem bClimb_left {leaf : ByteArray} {m : Nat} (hs : leaf.size ≤ 140737488355328) (ih : BClimbUpto leaf m) (qs : List ByteArray) (x : ByteArray) (q i n b off cap : Nat) (w : World) (hq : qs.length = q) (hd : q + 1 = Sg.depth i n) (hnm : n ≤ m + 1) (hn2 : 2 ≤ n) (hik : i < Sg.halfN n) (hn : n ≤ 4096) (hqc : q + 1 ≤ cap) (hcap : cap ≤ 9223372036854775807)
    (hx : x.size = 2) (h2 : ∀ s ∈ qs, s.size = 2) (hbw : b < w.heap.size) (hat : StrsAt w b off (qs ++ [x])) :
    Calls Try.prog 47 #[.agg #[fLeaf, fNode], .string leaf, .int .i64 (i : Int), .int .i64 (n : Int), .slice (some ⟨b, off, none⟩) (q + 1) cap] w fun e w' => e = .returned (.string (Sg.climb leaf i n (qs ++ [x]))) ∧ Below w.heap.size w w' := by
  have HR : Hid (Sg.climb leaf i n (qs ++ [x]) = Sg.nodeB (Sg.climb leaf i (Sg.halfN n) qs) x) := Sg.climb_left leaf hn2 hik qs x
  have hlt := Sg.halfN_lt hn2
  have hpos := Sg.halfN_pos n
  have HD : Hid (q = Sg.depth i (Sg.halfN n)) := by show _ = _; rw [Sg.depth_left hn2 hik] at hd; omega
  clear hd
  obtain ⟨k, hk⟩ : ∃ k, k = Sg.halfN n := ⟨_, rfl⟩
  rw [← hk] at HR hlt hpos hik HD
  have HK : Hid (k = Sg.halfN n) := hk
  clear hk
  have HQ : Hid (qs.length = q) := hq
  clear hq
  have h1 : ((n : Int) == 1) = false := by simp; omega
  have i1 : (i : Int) < (k : Int) := by omega
  have i2 : (0 : Int) ≤ (q : Int) := by omega
  have i3 : (q : Int) ≤ (cap : Int) := by omega
  have i4 : (q : Int) < (q : Int) + 1 := by omega
  have hx2 : Hid (x.size = 2) := hx
  clear hx
  have hcs := Sg.climb_size leaf i k qs
  obtain ⟨r, hr⟩ : ∃ r, r = Sg.climb leaf i k qs := ⟨_, rfl⟩
  rw [← hr] at HR hcs
  have HRR : Hid (r = Sg.climb leaf i k qs) := hr
  have hcs2 : Hid (r.size = 2) := hcs
  clear hr hcs
  go_enter Try.func47, Try.ntmps47
  go_wp2_with fail
  refine (split_any (n : Int) _ (by omega) (by omega)).mono ?_
  rintro e w1 ⟨rfl, rfl⟩
  rw [Int.toNat_natCast, ← HK.out]
  go_wp2_with fail
  go_region_held3 (fun w' => w'.cell? ⟨b, off + q, none⟩ = some (.string x) ∧ w'.cell? ⟨w.heap.size, 0, none⟩ = some fLeaf ∧ w'.cell? ⟨w.heap.size, 1, none⟩ = some fNode ∧ Still w b off (qs ++ [x]) w') (first | assumption | exact ⟨still_last HQ.out (box_new (x := fLeaf) (y := fNode) hbw hat).2.2.1, box_new hbw hat⟩ | exact ⟨still_last HQ.out (box_drew (box_new (x := fLeaf) (y := fNode) hbw hat)).2.2.1, box_drew (box_new hbw hat)⟩ | exact ⟨still_last HQ.out hh2.2.2.1, hh2⟩ | exact ⟨still_last HQ.out hh3.2.2.1, hh3⟩)
    (first
      | (go_at_call 47; refine (bClimb_all hs ih qs q i k b off cap _ HQ.out HD.out (by omega) hik (by omega) (by omega) hcap h2 ?_ ?_).mono ?_; exact box_lt (w := w) (off := off) (ss := qs ++ [x]) (x := fLeaf) (y := fNode) (And.right (by assumption)) hbw; exact (box_at (w := w) (b := b) (off := off) (ss := qs ++ [x]) (x := fLeaf) (y := fNode) (And.right (by assumption))).front; rintro e w2 ⟨rfl, hb2⟩; rw [← HRR.out]; have hh2 := box_call (w := w) (b := b) (off := off) (ss := qs ++ [x]) (x := fLeaf) (y := fNode) (And.right (by assumption)) hbw hb2)
      | (go_at_call 63; refine (node_any _ _ _ hcs2.out hx2.out).mono ?_; rintro e w3 ⟨rfl, hb3⟩; have hh3 := box_call (w := w) (b := b) (off := off) (ss := qs ++ [x]) (x := fLeaf) (y := fNode) hh2 hbw hb3))
  go_wp2_with fail
  go_ret
  exact ⟨ret_str (by rw [HR.out]), hh3.2.2.below⟩

set_option maxRecDepth 100000 in
set_option maxHeartbeats 1600000 in
theorem bClimb_right {leaf : ByteArray} {m : Nat} (hs : leaf.size ≤ 140737488355328) (ih : BClimbUpto leaf m) (qs : List ByteArray) (x : ByteArray) (q i n b off cap : Nat) (w : World) (hq : qs.length = q) (hd : q + 1 = Sg.depth i n) (hnm : n ≤ m + 1) (hn2 : 2 ≤ n) (hik : ¬ i < Sg.halfN n) (hin : i < n) (hn : n ≤ 4096) (hqc : q + 1 ≤ cap) (hcap : cap ≤ 9223372036854775807)
    (hx : x.size = 2) (h2 : ∀ s ∈ qs, s.size = 2) (hbw : b < w.heap.size) (hat : StrsAt w b off (qs ++ [x])) :
    Calls Try.prog 47 #[.agg #[fLeaf, fNode], .string leaf, .int .i64 (i : Int), .int .i64 (n : Int), .slice (some ⟨b, off, none⟩) (q + 1) cap] w fun e w' => e = .returned (.string (Sg.climb leaf i n (qs ++ [x]))) ∧ Below w.heap.size w w' := by
  have HR : Hid (Sg.climb leaf i n (qs ++ [x]) = Sg.nodeB x (Sg.climb leaf (i - Sg.halfN n) (n - Sg.halfN n) qs)) := Sg.climb_right leaf hn2 hik qs x
  have hlt := Sg.halfN_lt hn2
  have hpos := Sg.halfN_pos n
  have HD : Hid (q = Sg.depth (i - Sg.halfN n) (n - Sg.halfN n)) := by show _ = _; rw [Sg.depth_right hn2 hik] at hd; omega
  clear hd
  obtain ⟨k, hk⟩ : ∃ k, k = Sg.halfN n := ⟨_, rfl⟩
  rw [← hk] at HR hlt hpos hik HD
  have HK : Hid (k = Sg.halfN n) := hk
  clear hk
  have HQ : Hid (qs.length = q) := hq
  clear hq
  have h1 : ((n : Int) == 1) = false := by simp; omega
  have i1 : ¬ (i : Int) < (k : Int) := by omega
  have HE : Hid (((i : Int) - (k : Int)) = ((i - k : Nat) : Int)) := by show _ = _; omega
  have HE2 : Hid (((n : Int) - (k : Int)) = ((n - k : Nat) : Int)) := by show _ = _; omega
  have hwr : IntKind.i64.wrap ((i : Int) - (k : Int)) = (i : Int) - (k : Int) := IntWalk.i64_in _ (by omega)
  have hwr2 : IntKind.i64.wrap ((n : Int) - (k : Int)) = (n : Int) - (k : Int) := IntWalk.i64_in _ (by omega)
  have i2 : (0 : Int) ≤ (q : Int) := by omega
  have i3 : (q : Int) ≤ (cap : Int) := by omega
  have i4 : (q : Int) < (q : Int) + 1 := by omega
  have hx2 : Hid (x.size = 2) := hx
  clear hx
  have hcs := Sg.climb_size leaf (i - k) (n - k) qs
  obtain ⟨r, hr⟩ : ∃ r, r = Sg.climb leaf (i - k) (n - k) qs := ⟨_, rfl⟩
  rw [← hr] at HR hcs
  have HRR : Hid (r = Sg.climb leaf (i - k) (n - k) qs) := hr
  have hcs2 : Hid (r.size = 2) := hcs
  clear hr hcs
  go_enter Try.func47, Try.ntmps47
  go_wp2_with fail
  refine (split_any (n : Int) _ (by omega) (by omega)).mono ?_
  rintro e w1 ⟨rfl, rfl⟩
  rw [Int.toNat_natCast, ← HK.out]
  go_wp2_with fail
  go_region_held3 (fun w' => w'.cell? ⟨b, off + q, none⟩ = some (.string x) ∧ w'.cell? ⟨w.heap.size, 0, none⟩ = some fLeaf ∧ w'.cell? ⟨w.heap.size, 1, none⟩ = some fNode ∧ Still w b off (qs ++ [x]) w') (first | assumption | exact ⟨still_last HQ.out (box_new (x := fLeaf) (y := fNode) hbw hat).2.2.1, box_new hbw hat⟩ | exact ⟨still_last HQ.out (box_drew (box_new (x := fLeaf) (y := fNode) hbw hat)).2.2.1, box_drew (box_new hbw hat)⟩ | exact ⟨still_last HQ.out hh2.2.2.1, hh2⟩ | exact ⟨still_last HQ.out hh3.2.2.1, hh3⟩)
    (first
      | (go_at_call 47; rw [HE.out, HE2.out]; refine (bClimb_all hs ih qs q (i - k) (n - k) b off cap _ HQ.out HD.out (by omega) (by omega) (by omega) (by omega) hcap h2 ?_ ?_).mono ?_; exact box_lt (w := w) (off := off) (ss := qs ++ [x]) (x := fLeaf) (y := fNode) (And.right (by assumption)) hbw; exact (box_at (w := w) (b := b) (off := off) (ss := qs ++ [x]) (x := fLeaf) (y := fNode) (And.right (by assumption))).front; rintro e w2 ⟨rfl, hb2⟩; rw [← HRR.out]; have hh2 := box_call (w := w) (b := b) (off := off) (ss := qs ++ [x]) (x := fLeaf) (y := fNode) (And.right (by assumption)) hbw hb2)
      | (go_at_call 63; refine (node_any _ _ _ hx2.out hcs2.out).mono ?_; rintro e w3 ⟨rfl, hb3⟩; have hh3 := box_call (w := w) (b := b) (off := off) (ss := qs ++ [x]) (x := fLeaf) (y := fNode) hh2 hbw hb3))
  go_wp2_with fail
  go_ret
  exact ⟨ret_str (by rw [HR.out]), hh3.2.2.below⟩

theorem bClimb_upto {leaf : ByteArray} (hs : leaf.size ≤ 140737488355328) : ∀ m, BClimbUpto leaf m := by
  intro m
  induction m with
  | zero => intro qs x q i n b off cap w _ _ hm h1; omega
  | succ m ih =>
    intro qs x q i n b off cap w hq hd hnm hn2 hin hn hqc hcap hx h2 hbw hat
    by_cases hik : i < Sg.halfN n
    · exact bClimb_left hs ih qs x q i n b off cap w hq hd hnm hn2 hik hn hqc hcap hx h2 hbw hat
    · exact bClimb_right hs ih qs x q i n b off cap w hq hd hnm hn2 hik hin hn hqc hcap hx h2 hbw hat

/-- Climb along whatever slice has a path's form. -/
theorem bClimb_any {leaf : ByteArray} (hs : leaf.size ≤ 140737488355328) (ss : List ByteArray) (ao : Option Addr) (l i n cap : Nat) (w : World) (hl : ss.length = l) (hd : l = Sg.depth i n) (hin : i < n) (hn : n ≤ 4096) (hlc : l ≤ cap) (hcap : cap ≤ 9223372036854775807)
    (h2 : ∀ s ∈ ss, s.size = 2) (hss : StrsIn w ao ss) :
    Calls Try.prog 47 #[.agg #[fLeaf, fNode], .string leaf, .int .i64 (i : Int), .int .i64 (n : Int), .slice ao l cap] w fun e w' => e = .returned (.string (Sg.climb leaf i n ss)) ∧ Below w.heap.size w w' := by
  by_cases h1 : n = 1
  · subst h1
    exact bClimb_one leaf i _ l cap ss w hs
  · rcases hss with h0 | ⟨b, off, rfl, hbw, hat⟩
    · exfalso
      rw [Sg.depth_unfold (by omega)] at hd
      split at hd <;> omega
    · exact bClimb_all hs (bClimb_upto hs n) ss l i n b off cap w hl hd (Nat.le_refl _) hin hn hlc hcap h2 hbw hat

set_option maxHeartbeats 800000 in
/-- seal.Climb where the numbers are no leaf's. -/
theorem sealClimb_no (leaf : ByteArray) (i n : Int) (ao : Option Addr) (l cap : Nat) (w : World) (h : n < 1 ∨ 4096 < n ∨ i < 0 ∨ n ≤ i) :
    Calls Try.prog 20 #[.string leaf, .int .i64 i, .int .i64 n, .slice ao l cap] w fun e w' => e = .returned (.tuple #[.string ByteArray.empty, .int .i64 1]) ∧ w' = w := by
  by_cases g1 : n < 1
  · clear h
    go_enter Try.func20, Try.ntmps20
    go_wp2_with fail
    go_ret2
    exact ⟨rfl, rfl⟩
  by_cases g2 : 4096 < n
  · clear h
    go_enter Try.func20, Try.ntmps20
    go_wp2_with fail
    go_ret2
    exact ⟨rfl, rfl⟩
  by_cases g3 : i < 0
  · clear h
    go_enter Try.func20, Try.ntmps20
    go_wp2_with fail
    go_ret2
    exact ⟨rfl, rfl⟩
  have g4 : n ≤ i := by omega
  clear h
  go_enter Try.func20, Try.ntmps20
  go_wp2_with fail
  go_ret2
  exact ⟨rfl, rfl⟩

theorem twos_mem {ss : List ByteArray} (h : twos ss = true) : ∀ s ∈ ss, s.size = 2 := by
  intro s hs
  have := List.all_eq_true.1 h s hs
  simpa using this

set_option maxHeartbeats 800000 in
/-- seal.Climb where they are, along a path that is not of its form. -/
theorem sealClimb_bad (leaf : ByteArray) (i n : Nat) (ss : List ByteArray) (ao : Option Addr) (l cap : Nat) (w : World) (hl : ss.length = l) (hin : i < n) (hn : n ≤ 4096) (hmax : l ≤ 1152921504606846976) (hss : StrsIn w ao ss) (hszs : ∀ s ∈ ss, s.size ≤ 140737488355328) (hno : okPath i n ss = false) :
    Calls Try.prog 20 #[.string leaf, .int .i64 (i : Int), .int .i64 (n : Int), .slice ao l cap] w fun e w' => e = .returned (.tuple #[.string ByteArray.empty, .int .i64 1]) ∧ w' = w := by
  have HO : Hid (okPath i n ss = false) := hno
  clear hno
  have g1 : ¬ (n : Int) < 1 := by omega
  have g2 : ¬ (4096 : Int) < (n : Int) := by omega
  have g3 : ¬ (i : Int) < 0 := by omega
  have g4 : ¬ (n : Int) ≤ (i : Int) := by omega
  go_enter Try.func20, Try.ntmps20
  go_wp2_with fail
  refine (isPath_any ss ao l cap i n _ hl hin hn hmax hss hszs).mono ?_
  rintro e w1 ⟨rfl, rfl⟩
  rw [HO.out]
  go_wp2_with fail
  go_ret2
  exact ⟨rfl, rfl⟩

set_option maxHeartbeats 800000 in
/-- seal.Climb where they are, along a path of its form. -/
theorem sealClimb_yes (leaf : ByteArray) (i n : Nat) (ss : List ByteArray) (ao : Option Addr) (l cap : Nat) (w : World) (hs : leaf.size ≤ 140737488355328) (hl : ss.length = l) (hin : i < n) (hn : n ≤ 4096) (hlc : l ≤ cap) (hcap : cap ≤ 9223372036854775807) (hss : StrsIn w ao ss) (hszs : ∀ s ∈ ss, s.size ≤ 140737488355328) (hok : okPath i n ss = true) :
    Calls Try.prog 20 #[.string leaf, .int .i64 (i : Int), .int .i64 (n : Int), .slice ao l cap] w fun e w' => e = .returned (.tuple #[.string (Sg.climb leaf i n ss), .int .i64 0]) ∧ Below w.heap.size w w' := by
  have HO : Hid (okPath i n ss = true) := hok
  have hd : Hid (l = Sg.depth i n) := by
    simp [okPath] at hok; rw [← hl]; exact hok.1
  have h2 : Hid (∀ s ∈ ss, s.size = 2) := by
    simp [okPath] at hok; exact twos_mem hok.2
  clear hok
  have g1 : ¬ (n : Int) < 1 := by omega
  have g2 : ¬ (4096 : Int) < (n : Int) := by omega
  have g3 : ¬ (i : Int) < 0 := by omega
  have g4 : ¬ (n : Int) ≤ (i : Int) := by omega
  go_enter Try.func20, Try.ntmps20
  go_wp2_with fail
  refine (isPath_any ss ao l cap i n _ hl hin hn (by have := Sg.depth_lt n i n (Nat.le_refl _) (by omega); rw [← hd.out] at this; omega) hss hszs).mono ?_
  rintro e w1 ⟨rfl, rfl⟩
  rw [HO.out]
  go_wp2_with fail
  refine (sums_any _).mono ?_
  rintro e w2 ⟨rfl, hb2⟩
  have hss2 : StrsIn w2 ao ss := by
    rcases hss with h0 | ⟨b, off, e, hbw, hat⟩
    · exact Or.inl h0
    · exact Or.inr ⟨b, off, e, Nat.lt_of_lt_of_le hbw hb2.size, hat.below hb2 hbw⟩
  go_wp2_with fail
  refine (bClimb_any hs ss ao l i n cap _ hl hd.out hin hn hlc hcap h2.out hss2).mono ?_
  rintro e w3 ⟨rfl, hb3⟩
  go_wp2_with fail
  go_ret2
  exact ⟨rfl, hb2.trans (hb3.mono hb2.size)⟩
end Go.Proofs.Ytoadiibfmcjgaaa
