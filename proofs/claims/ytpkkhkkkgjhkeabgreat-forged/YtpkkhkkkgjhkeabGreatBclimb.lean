import Derived.Test.YtpkkhkkkgjhkeabGreatPick
/-
  THE WALKS of Builder.Climb, seal.Climb (P4).
-/
namespace Go.Proofs.YtpkkhkkkgjhkeabGreat
open Go.RowKit
set_option maxRecDepth 100000
attribute [local go_sem ↓] Go.wp_at_zero Go.wp_at_succ

set_option maxHeartbeats 400000 in
theorem gClimb_one {g B : Nat} {I : List ByteArray → World → Prop} (S : Sums g B I) (leaf : ByteArray) (i : Nat) (ao : Option Addr) (l cap : Nat) (ss ts : List ByteArray) (w : World) (hs : leaf.size ≤ 140737488355328) (hI : I ts w) :
    Calls Tryz.prog 93 #[.agg #[fLeaf g, fNode g], .string leaf, .int .i64 (i : Int), .int .i64 1, .slice ao l cap] w fun e w' => e = .returned (.string (Sg.climb leaf i 1 ss)) ∧ I (ts ++ Sg.climbTs leaf i 1 ss) w' ∧ Kp B w w' := by
  have HR : Hid (Sg.climb leaf i 1 ss = Sg.leafB leaf ∧ Sg.climbTs leaf i 1 ss = [Sg.leafT leaf]) := ⟨Sg.climb_one leaf (Nat.le_refl _) ss, Sg.climbTs_one leaf (Nat.le_refl _) ss⟩
  have G0 := Gs.new S hI
  have hL := fun W hIW => S.leaf ts leaf W hIW hs
  go_enter Tryz.func93, Tryz.ntmps93
  go_wp2_with fail
  refine (hL _ G0.st).mono ?_
  rintro e w1 ⟨rfl, hI1, hk1⟩
  have G1 := G0.call hI1 hk1
  go_wp2_with fail
  go_ret
  exact ⟨ret_str HR.out.1.symm, by rw [HR.out.2]; exact G1.st, G1.kp⟩

/-- Builder.Climb in a tree of 2 to m leaves: its path has a last text. -/
def GClimbUpto (g B : Nat) (I : List ByteArray → World → Prop) (leaf : ByteArray) (m : Nat) : Prop := ∀ (qs : List ByteArray) (x : ByteArray) (q i n b off cap : Nat) (ts : List ByteArray) (w : World), qs.length = q → q + 1 = Sg.depth i n → n ≤ m → 2 ≤ n → i < n → n ≤ 4096 → q + 1 ≤ cap → cap ≤ 9223372036854775807 →
    x.size = 2 → (∀ s ∈ qs, s.size = 2) → b < B → I ts w → StrsAt w b off (qs ++ [x]) →
    Calls Tryz.prog 93 #[.agg #[fLeaf g, fNode g], .string leaf, .int .i64 (i : Int), .int .i64 (n : Int), .slice (some ⟨b, off, none⟩) (q + 1) cap] w fun e w' => e = .returned (.string (Sg.climb leaf i n (qs ++ [x]))) ∧ I (ts ++ Sg.climbTs leaf i n (qs ++ [x])) w' ∧ Kp B w w'

theorem still_last {w' : World} {b off q : Nat} {qs : List ByteArray} {x : ByteArray} (hq : qs.length = q) (h : StrsAt w' b off (qs ++ [x])) : w'.cell? ⟨b, off + q, none⟩ = some (.string x) := by
  have := h q (by simp; omega)
  rw [this]
  subst hq
  simp [List.getD]
theorem StrsAt.front {w : World} {b off : Nat} {qs : List ByteArray} {x : ByteArray} (h : StrsAt w b off (qs ++ [x])) : StrsAt w b off qs := by
  have := h.take qs.length
  simpa using this
theorem cell3_drew {W : World} {p : Nat} {q : Addr} {x y z : Value} (h : W.cell? q = some z ∧ W.cell? ⟨p, 0, none⟩ = some x ∧ W.cell? ⟨p, 1, none⟩ = some y) : W.drew.cell? q = some z ∧ W.drew.cell? ⟨p, 0, none⟩ = some x ∧ W.drew.cell? ⟨p, 1, none⟩ = some y := ⟨by simpa using h.1, by simpa using h.2.1, by simpa using h.2.2⟩

/-- Climb a tree of 1 to m leaves, by what holds of 2 to m. -/
theorem gClimb_all {g B : Nat} {I : List ByteArray → World → Prop} (S : Sums g B I) {leaf : ByteArray} {m : Nat} (hs : leaf.size ≤ 140737488355328) (ih : GClimbUpto g B I leaf m) (qs : List ByteArray) (q i n b off cap : Nat) (ts : List ByteArray) (w : World) (hq : qs.length = q) (hd : q = Sg.depth i n) (hnm : n ≤ m) (hin : i < n) (hn : n ≤ 4096) (hqc : q ≤ cap) (hcap : cap ≤ 9223372036854775807)
    (h2 : ∀ s ∈ qs, s.size = 2) (hbB : b < B) (hI : I ts w) (hat : StrsAt w b off qs) :
    Calls Tryz.prog 93 #[.agg #[fLeaf g, fNode g], .string leaf, .int .i64 (i : Int), .int .i64 (n : Int), .slice (some ⟨b, off, none⟩) q cap] w fun e w' => e = .returned (.string (Sg.climb leaf i n qs)) ∧ I (ts ++ Sg.climbTs leaf i n qs) w' ∧ Kp B w w' := by
  by_cases h1 : n = 1
  · subst h1
    exact gClimb_one S leaf i _ q cap qs ts w hs hI
  · have hpos : 1 ≤ q := by
      rw [hd, Sg.depth_unfold (by omega)]; split <;> omega
    obtain ⟨ps, x, rfl⟩ : ∃ ps x, qs = ps ++ [x] := by
      have hne : qs ≠ [] := by intro h; subst h; simp at hq; omega
      exact ⟨qs.dropLast, qs.getLast hne, (List.dropLast_concat_getLast hne).symm⟩
    obtain ⟨p, rfl⟩ : ∃ p, q = p + 1 := ⟨q - 1, by omega⟩
    exact ih ps x p i n b off cap ts w (by simpa using hq) hd hnm (by omega) hin hn hqc hcap (h2 x (by simp)) (fun s hs' => h2 s (by simp [hs'])) hbB hI hat

set_option maxRecDepth 100000 in
set_option maxHeartbeats 1600000 in
theorem gClimb_left {g B : Nat} {I : List ByteArray → World → Prop} (S : Sums g B I) {leaf : ByteArray} {m : Nat} (hs : leaf.size ≤ 140737488355328) (ih : GClimbUpto g B I leaf m) (qs : List ByteArray) (x : ByteArray) (q i n b off cap : Nat) (ts : List ByteArray) (w : World) (hq : qs.length = q) (hd : q + 1 = Sg.depth i n) (hnm : n ≤ m + 1) (hn2 : 2 ≤ n) (hik : i < Sg.halfN n) (hn : n ≤ 4096) (hqc : q + 1 ≤ cap) (hcap : cap ≤ 9223372036854775807)
    (hx : x.size = 2) (h2 : ∀ s ∈ qs, s.size = 2) (hbB : b < B) (hI : I ts w) (hat : StrsAt w b off (qs ++ [x])) :
    Calls Tryz.prog 93 #[.agg #[fLeaf g, fNode g], .string leaf, .int .i64 (i : Int), .int .i64 (n : Int), .slice (some ⟨b, off, none⟩) (q + 1) cap] w fun e w' => e = .returned (.string (Sg.climb leaf i n (qs ++ [x]))) ∧ I (ts ++ Sg.climbTs leaf i n (qs ++ [x])) w' ∧ Kp B w w' := by
  have HR : Hid (Sg.climb leaf i n (qs ++ [x]) = Sg.nodeB (Sg.climb leaf i (Sg.halfN n) qs) x ∧ Sg.climbTs leaf i n (qs ++ [x]) = Sg.climbTs leaf i (Sg.halfN n) qs ++ [Sg.nodeT (Sg.climb leaf i (Sg.halfN n) qs) x]) := ⟨Sg.climb_left leaf hn2 hik qs x, Sg.climbTs_left leaf hn2 hik qs x⟩
  have hlt := Sg.halfN_lt hn2
  have hpos := Sg.halfN_pos n
  have HD : Hid (q = Sg.depth i (Sg.halfN n)) := by show _ = _; rw [Sg.depth_left hn2 hik] at hd; omega
  clear hd
  obtain ⟨k, hk⟩ : ∃ k, k = Sg.halfN n := ⟨_, rfl⟩
  rw [← hk] at HR hlt hpos hik HD
  have HK : Hid (k = Sg.halfN n) := hk
  clear hk
  have HQ : Hid (qs.length = q) := hq
  clear hq
  have h1 : ((n : Int) == 1) = false := by simp; omega
  have i1 : (i : Int) < (k : Int) := by omega
  have i2 : (0 : Int) ≤ (q : Int) := by omega
  have i3 : (q : Int) ≤ (cap : Int) := by omega
  have i4 : (q : Int) < (q : Int) + 1 := by omega
  have hcs := Sg.climb_size leaf i k qs
  have G0 := Gs.new S hI
  have hc0 : ∀ W, Kp B w W → W.cell? ⟨b, off + q, none⟩ = some (.string x) := fun W hk => still_last HQ.out (hat.kp hk hbB)
  have hcall := fun W (hIW : I ts W) (hatW : StrsAt W b off (qs ++ [x])) => gClimb_all S hs ih qs q i k b off cap ts W HQ.out HD.out (by omega) hik (by omega) (by omega) hcap h2 hbB hIW hatW.front
  have hN := fun W hIW => S.node (ts ++ Sg.climbTs leaf i k qs) (Sg.climb leaf i k qs) x W hIW hcs hx
  generalize Sg.climb leaf i k qs = r at *
  generalize Sg.climbTs leaf i k qs = t1 at *
  have hcA := hc0 _ G0.kp
  have hcD := hc0 _ (G0.drew S).kp
  clear ih hcs hx h2 HD
  go_enter Tryz.func93, Tryz.ntmps93
  go_wp2_with fail
  refine (split_any (n : Int) _ (by omega) (by omega)).mono ?_
  rintro e w1 ⟨rfl, rfl⟩
  rw [Int.toNat_natCast, ← HK.out]
  go_wp2_with fail
  go_region_held3 (fun w' => w'.cell? ⟨b, off + q, none⟩ = some (.string x) ∧ w'.cell? ⟨w.heap.size, 0, none⟩ = some (fLeaf g) ∧ w'.cell? ⟨w.heap.size, 1, none⟩ = some (fNode g)) (first | assumption | exact ⟨hcA, G0.cells⟩ | exact ⟨hcD, (G0.drew S).cells⟩ | exact cell3_drew (x := fLeaf g) (y := fNode g) (z := .string x) (by assumption))
    (first
      | (go_at_call 93; refine (hcall _ (by first | exact G0.st | exact (G0.drew S).st) (by first | exact G0.at_ hat hbB | exact (G0.drew S).at_ hat hbB)).mono ?_; rintro e w2 ⟨rfl, hI2, hk2⟩; have G2 : Gs g B I w w.heap.size (ts ++ t1) w2 := (by first | exact G0.call hI2 hk2 | exact (G0.drew S).call hI2 hk2); have hh2 : w2.cell? ⟨b, off + q, none⟩ = some (.string x) ∧ w2.cell? ⟨w.heap.size, 0, none⟩ = some (fLeaf g) ∧ w2.cell? ⟨w.heap.size, 1, none⟩ = some (fNode g) := ⟨hc0 _ G2.kp, G2.cells⟩)
      | (go_at_call 109; refine (hN _ (by first | exact G2.st | exact (G2.drew S).st)).mono ?_; rintro e w3 ⟨rfl, hI3, hk3⟩; have G3 : Gs g B I w w.heap.size (ts ++ t1 ++ [Sg.nodeT r x]) w3 := (by first | exact G2.call hI3 hk3 | exact (G2.drew S).call hI3 hk3); have hh3 : w3.cell? ⟨b, off + q, none⟩ = some (.string x) ∧ w3.cell? ⟨w.heap.size, 0, none⟩ = some (fLeaf g) ∧ w3.cell? ⟨w.heap.size, 1, none⟩ = some (fNode g) := ⟨hc0 _ G3.kp, G3.cells⟩))
  go_wp2_with fail
  go_ret
  exact ⟨ret_str HR.out.1.symm, by rw [HR.out.2, ← List.append_assoc]; exact G3.st, G3.kp⟩

set_option maxRecDepth 100000 in
set_option maxHeartbeats 1600000 in
theorem gClimb_right {g B : Nat} {I : List ByteArray → World → Prop} (S : Sums g B I) {leaf : ByteArray} {m : Nat} (hs : leaf.size ≤ 140737488355328) (ih : GClimbUpto g B I leaf m) (qs : List ByteArray) (x : ByteArray) (q i n b off cap : Nat) (ts : List ByteArray) (w : World) (hq : qs.length = q) (hd : q + 1 = Sg.depth i n) (hnm : n ≤ m + 1) (hn2 : 2 ≤ n) (hik : ¬ i < Sg.halfN n) (hin : i < n) (hn : n ≤ 4096) (hqc : q + 1 ≤ cap) (hcap : cap ≤ 9223372036854775807)
    (hx : x.size = 2) (h2 : ∀ s ∈ qs, s.size = 2) (hbB : b < B) (hI : I ts w) (hat : StrsAt w b off (qs ++ [x])) :
    Calls Tryz.prog 93 #[.agg #[fLeaf g, fNode g], .string leaf, .int .i64 (i : Int), .int .i64 (n : Int), .slice (some ⟨b, off, none⟩) (q + 1) cap] w fun e w' => e = .returned (.string (Sg.climb leaf i n (qs ++ [x]))) ∧ I (ts ++ Sg.climbTs leaf i n (qs ++ [x])) w' ∧ Kp B w w' := by
  have HR : Hid (Sg.climb leaf i n (qs ++ [x]) = Sg.nodeB x (Sg.climb leaf (i - Sg.halfN n) (n - Sg.halfN n) qs) ∧ Sg.climbTs leaf i n (qs ++ [x]) = Sg.climbTs leaf (i - Sg.halfN n) (n - Sg.halfN n) qs ++ [Sg.nodeT x (Sg.climb leaf (i - Sg.halfN n) (n - Sg.halfN n) qs)]) := ⟨Sg.climb_right leaf hn2 hik qs x, Sg.climbTs_right leaf hn2 hik qs x⟩
  have hlt := Sg.halfN_lt hn2
  have hpos := Sg.halfN_pos n
  have HD : Hid (q = Sg.depth (i - Sg.halfN n) (n - Sg.halfN n)) := by show _ = _; rw [Sg.depth_right hn2 hik] at hd; omega
  clear hd
  obtain ⟨k, hk⟩ : ∃ k, k = Sg.halfN n := ⟨_, rfl⟩
  rw [← hk] at HR hlt hpos hik HD
  have HK : Hid (k = Sg.halfN n) := hk
  clear hk
  have HQ : Hid (qs.length = q) := hq
  clear hq
  have h1 : ((n : Int) == 1) = false := by simp; omega
  have i1 : ¬ (i : Int) < (k : Int) := by omega
  have HE : Hid (((i : Int) - (k : Int)) = ((i - k : Nat) : Int)) := by show _ = _; omega
  have HE2 : Hid (((n : Int) - (k : Int)) = ((n - k : Nat) : Int)) := by show _ = _; omega
  have hwr : IntKind.i64.wrap ((i : Int) - (k : Int)) = (i : Int) - (k : Int) := IntWalk.i64_in _ (by omega)
  have hwr2 : IntKind.i64.wrap ((n : Int) - (k : Int)) = (n : Int) - (k : Int) := IntWalk.i64_in _ (by omega)
  have i2 : (0 : Int) ≤ (q : Int) := by omega
  have i3 : (q : Int) ≤ (cap : Int) := by omega
  have i4 : (q : Int) < (q : Int) + 1 := by omega
  have hcs := Sg.climb_size leaf (i - k) (n - k) qs
  have G0 := Gs.new S hI
  have hc0 : ∀ W, Kp B w W → W.cell? ⟨b, off + q, none⟩ = some (.string x) := fun W hk => still_last HQ.out (hat.kp hk hbB)
  have hcall := fun W (hIW : I ts W) (hatW : StrsAt W b off (qs ++ [x])) => gClimb_all S hs ih qs q (i - k) (n - k) b off cap ts W HQ.out HD.out (by omega) (by omega) (by omega) (by omega) hcap h2 hbB hIW hatW.front
  have hN := fun W hIW => S.node (ts ++ Sg.climbTs leaf (i - k) (n - k) qs) x (Sg.climb leaf (i - k) (n - k) qs) W hIW hx hcs
  generalize Sg.climb leaf (i - k) (n - k) qs = r at *
  generalize Sg.climbTs leaf (i - k) (n - k) qs = t1 at *
  have hcA := hc0 _ G0.kp
  have hcD := hc0 _ (G0.drew S).kp
  clear ih hcs hx h2 HD
  go_enter Tryz.func93, Tryz.ntmps93
  go_wp2_with fail
  refine (split_any (n : Int) _ (by omega) (by omega)).mono ?_
  rintro e w1 ⟨rfl, rfl⟩
  rw [Int.toNat_natCast, ← HK.out]
  go_wp2_with fail
  go_region_held3 (fun w' => w'.cell? ⟨b, off + q, none⟩ = some (.string x) ∧ w'.cell? ⟨w.heap.size, 0, none⟩ = some (fLeaf g) ∧ w'.cell? ⟨w.heap.size, 1, none⟩ = some (fNode g)) (first | assumption | exact ⟨hcA, G0.cells⟩ | exact ⟨hcD, (G0.drew S).cells⟩ | exact cell3_drew (x := fLeaf g) (y := fNode g) (z := .string x) (by assumption))
    (first
      | (go_at_call 93; rw [HE.out, HE2.out]; refine (hcall _ (by first | exact G0.st | exact (G0.drew S).st) (by first | exact G0.at_ hat hbB | exact (G0.drew S).at_ hat hbB)).mono ?_; rintro e w2 ⟨rfl, hI2, hk2⟩; have G2 : Gs g B I w w.heap.size (ts ++ t1) w2 := (by first | exact G0.call hI2 hk2 | exact (G0.drew S).call hI2 hk2); have hh2 : w2.cell? ⟨b, off + q, none⟩ = some (.string x) ∧ w2.cell? ⟨w.heap.size, 0, none⟩ = some (fLeaf g) ∧ w2.cell? ⟨w.heap.size, 1, none⟩ = some (fNode g) := ⟨hc0 _ G2.kp, G2.cells⟩)
      | (go_at_call 109; refine (hN _ (by first | exact G2.st | exact (G2.drew S).st)).mono ?_; rintro e w3 ⟨rfl, hI3, hk3⟩; have G3 : Gs g B I w w.heap.size (ts ++ t1 ++ [Sg.nodeT x r]) w3 := (by first | exact G2.call hI3 hk3 | exact (G2.drew S).call hI3 hk3); have hh3 : w3.cell? ⟨b, off + q, none⟩ = some (.string x) ∧ w3.cell? ⟨w.heap.size, 0, none⟩ = some (fLeaf g) ∧ w3.cell? ⟨w.heap.size, 1, none⟩ = some (fNode g) := ⟨hc0 _ G3.kp, G3.cells⟩))
  go_wp2_with fail
  go_ret
  exact ⟨ret_str HR.out.1.symm, by rw [HR.out.2, ← List.append_assoc]; exact G3.st, G3.kp⟩

theorem gClimb_upto {g B : Nat} {I : List ByteArray → World → Prop} (S : Sums g B I) {leaf : ByteArray} (hs : leaf.size ≤ 140737488355328) : ∀ m, GClimbUpto g B I leaf m := by
  intro m
  induction m with
  | zero => intro qs x q i n b off cap ts w _ _ hm h1; omega
  | succ m ih =>
    intro qs x q i n b off cap ts w hq hd hnm hn2 hin hn hqc hcap hx h2 hbw hI hat
    by_cases hik : i < Sg.halfN n
    · exact gClimb_left S hs ih qs x q i n b off cap ts w hq hd hnm hn2 hik hn hqc hcap hx h2 hbw hI hat
    · exact gClimb_right S hs ih qs x q i n b off cap ts w hq hd hnm hn2 hik hin hn hqc hcap hx h2 hbw hI hat

/-- Climb along whatever slice has a path's form. -/
theorem gClimb_any {g B : Nat} {I : List ByteArray → World → Prop} (S : Sums g B I) {leaf : ByteArray} (hs : leaf.size ≤ 140737488355328) (ss : List ByteArray) (ao : Option Addr) (l i n cap : Nat) (ts : List ByteArray) (w : World) (hl : ss.length = l) (hd : l = Sg.depth i n) (hin : i < n) (hn : n ≤ 4096) (hlc : l ≤ cap) (hcap : cap ≤ 9223372036854775807)
    (h2 : ∀ s ∈ ss, s.size = 2) (hI : I ts w) (hss : ss.length = 0 ∨ ∃ b off, ao = some ⟨b, off, none⟩ ∧ b < B ∧ StrsAt w b off ss) :
    Calls Tryz.prog 93 #[.agg #[fLeaf g, fNode g], .string leaf, .int .i64 (i : Int), .int .i64 (n : Int), .slice ao l cap] w fun e w' => e = .returned (.string (Sg.climb leaf i n ss)) ∧ I (ts ++ Sg.climbTs leaf i n ss) w' ∧ Kp B w w' := by
  by_cases h1 : n = 1
  · subst h1
    exact gClimb_one S leaf i _ l cap ss ts w hs hI
  · rcases hss with h0 | ⟨b, off, rfl, hbw, hat⟩
    · exfalso
      rw [Sg.depth_unfold (by omega)] at hd
      split at hd <;> omega
    · exact gClimb_all S hs (gClimb_upto S hs n) ss l i n b off cap ts w hl hd (Nat.le_refl _) hin hn hlc hcap h2 hbw hI hat

/-- Climb along whatever slice has a path's form, where nothing is kept of what is summed. -/
theorem bClimb_any {leaf : ByteArray} (hs : leaf.size ≤ 140737488355328) (g : Nat) (ss : List ByteArray) (ao : Option Addr) (l i n cap : Nat) (w : World) (hg : OfAt w g) (hl : ss.length = l) (hd : l = Sg.depth i n) (hin : i < n) (hn : n ≤ 4096) (hlc : l ≤ cap) (hcap : cap ≤ 9223372036854775807)
    (h2 : ∀ s ∈ ss, s.size = 2) (hss : StrsIn w ao ss) :
    Calls Tryz.prog 93 #[.agg #[fLeaf g, fNode g], .string leaf, .int .i64 (i : Int), .int .i64 (n : Int), .slice ao l cap] w fun e w' => e = .returned (.string (Sg.climb leaf i n ss)) ∧ Below w.heap.size w w' := by
  refine (gClimb_any (sums_plain hg) hs ss ao l i n cap [] w hl hd hin hn hlc hcap h2 (Below.refl _ _) ?_).mono ?_
  · rcases hss with h0 | ⟨b, off, e, hbw, hat⟩
    · exact Or.inl h0
    · exact Or.inr ⟨b, off, e, hbw, hat⟩
  · rintro e w' ⟨rfl, hb, _⟩
    exact ⟨rfl, hb⟩

theorem twos_mem {ss : List ByteArray} (h : twos ss = true) : ∀ s ∈ ss, s.size = 2 := by
  intro s hs
  have := List.all_eq_true.1 h s hs
  simpa using this

end Go.Proofs.YtpkkhkkkgjhkeabGreat
