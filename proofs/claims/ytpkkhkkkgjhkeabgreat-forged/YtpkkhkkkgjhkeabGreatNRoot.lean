/-
  THE WALKS of Builder.Root and Climb where what is summed is kept (for P11, P12): as in the texts without a bound, but with one.
-/
import Derived.Test.YtpkkhkkkgjhkeabGreatBclimb
namespace Go.Proofs.YtpkkhkkkgjhkeabGreat
open Go.RowKit
set_option maxRecDepth 100000
attribute [local go_sem ↓] Go.wp_at_zero Go.wp_at_succ

theorem Sg.climbTs_len (leaf : ByteArray) : ∀ (m i n : Nat) (p : List ByteArray), n ≤ m → 1 ≤ n → (Sg.climbTs leaf i n p).length ≤ n
  | 0, _, _, _, _, _ => by omega
  | m + 1, i, n, p, hm, h1 => by
    by_cases hn : n ≤ 1
    · rw [Sg.climbTs_one leaf hn]; simp; omega
    · have a := Sg.halfN_lt (n := n) (by omega)
      have b := Sg.halfN_pos n
      rw [Sg.climbTs_unfold leaf (by omega)]
      have c := Sg.climbTs_len leaf m i (Sg.halfN n) p.dropLast (by omega) b
      have d := Sg.climbTs_len leaf m (i - Sg.halfN n) (n - Sg.halfN n) p.dropLast (by omega) (by omega)
      split
      · simp; omega
      · simp; omega
/-- What sums texts, as a builder's functions do: I tells what was summed so far. -/
structure SumsN (g B N : Nat) (I : List ByteArray → World → Prop) : Prop where
  size : ∀ ts w, I ts w → B ≤ w.heap.size
  alloc : ∀ ts w o, I ts w → I ts (w.alloc o)
  drew : ∀ ts w, I ts w → I ts w.drew
  leaf : ∀ ts x w, I ts w → ts.length < N → x.size ≤ 140737488355328 → Calls Tryz.prog 108 #[.string x, .pointer (some ⟨g, 0, none⟩)] w fun e w' => e = .returned (.string (Sg.leafB x)) ∧ I (ts ++ [Sg.leafT x]) w' ∧ Kp B w w'
  node : ∀ ts x y w, I ts w → ts.length < N → x.size = 2 → y.size = 2 → Calls Tryz.prog 109 #[.string x, .string y, .pointer (some ⟨g, 0, none⟩)] w fun e w' => e = .returned (.string (Sg.nodeB x y)) ∧ I (ts ++ [Sg.nodeT x y]) w' ∧ Kp B w w'
/-- A builder's box, what was summed so far, what is kept. -/
structure Gn (g B : Nat) (I : List ByteArray → World → Prop) (w : World) (p : Nat) (ts : List ByteArray) (W : World) : Prop where
  box : W.heap[p]? = some (.cells #[fLeaf g, fNode g] 107 (0, 0))
  st : I ts W
  kp : Kp B w W
theorem Gn.cells {g B p : Nat} {I : List ByteArray → World → Prop} {w W : World} {ts : List ByteArray} (h : Gn g B I w p ts W) : W.cell? ⟨p, 0, none⟩ = some (fLeaf g) ∧ W.cell? ⟨p, 1, none⟩ = some (fNode g) :=
  ⟨by rw [cell_of_row W p 0 _ _ _ h.box]; rfl, by rw [cell_of_row W p 1 _ _ _ h.box]; rfl⟩
theorem Gn.drew {g B N p : Nat} {I : List ByteArray → World → Prop} (S : SumsN g B N I) {w W : World} {ts : List ByteArray} (h : Gn g B I w p ts W) : Gn g B I w p ts W.drew := ⟨h.box, S.drew _ _ h.st, h.kp.trans ⟨Nat.le_refl _, fun _ _ => rfl, fun _ _ e => e⟩⟩
theorem Gn.new {g B N : Nat} {I : List ByteArray → World → Prop} (S : SumsN g B N I) {w : World} {ts : List ByteArray} (h : I ts w) : Gn g B I w w.heap.size ts (w.alloc (.cells #[fLeaf g, fNode g] 107)) :=
  ⟨heap_alloc_new w _, S.alloc _ _ _ h, Kp.of_below (S.size _ _ h) ((Below.refl _ _).alloc (Nat.le_refl _) _)⟩
theorem Gn.call {g B p : Nat} {I : List ByteArray → World → Prop} {w W w' : World} {ts ts' : List ByteArray} (h : Gn g B I w p ts W) (hI : I ts' w') (hk : Kp B W w') : Gn g B I w p ts' w' := ⟨hk.box _ _ h.box, hI, h.kp.trans hk⟩
theorem Gn.at_ {g B p b off : Nat} {I : List ByteArray → World → Prop} {w W : World} {ts ss : List ByteArray} (h : Gn g B I w p ts W) (hat : StrsAt w b off ss) (hb : b < B) : StrsAt W b off ss := hat.kp h.kp hb

set_option maxHeartbeats 800000 in
theorem nRoot_one {g B N : Nat} {I : List ByteArray → World → Prop} (S : SumsN g B N I) (ss : List ByteArray) (b off cap : Nat) (ts : List ByteArray) (w : World) (hn : ss.length = 1) (hsz : ∀ s ∈ ss, s.size ≤ 140737488355328) (hbB : b < B) (hI : I ts w) (hN1 : ts.length + 1 ≤ N) (hat : StrsAt w b off ss) :
    Calls Tryz.prog 79 #[.agg #[fLeaf g, fNode g], .slice (some ⟨b, off, none⟩) 1 cap] w fun e w' => e = .returned (.string (Sg.root ss)) ∧ I (ts ++ Sg.rootTs ss) w' ∧ Kp B w w' := by
  have HR : Hid (Sg.root ss = Sg.leafB (ss.getD 0 ByteArray.empty) ∧ Sg.rootTs ss = [Sg.leafT (ss.getD 0 ByteArray.empty)]) := ⟨Sg.root_one hn, Sg.rootTs_one hn⟩
  have G0 := Gn.new S hI
  have hc0 : ∀ W, Kp B w W → W.cell? ⟨b, off, none⟩ = some (.string (ss.getD 0 ByteArray.empty)) := fun W hk => (hat.kp hk hbB) 0 (by omega)
  have hs0 : (ss.getD 0 ByteArray.empty).size ≤ 140737488355328 := hsz _ (by
    rw [List.getD_eq_getElem?_getD, List.getElem?_eq_getElem (by omega)]; simp)
  obtain ⟨x, hx⟩ : ∃ x, x = ss.getD 0 ByteArray.empty := ⟨_, rfl⟩
  rw [← hx] at hc0 hs0 HR
  clear hx hat hsz hn
  have hcA := hc0 _ G0.kp
  have hcD := hc0 _ (G0.drew S).kp
  go_enter Tryz.func79, Tryz.ntmps79
  go_wp2_with fail
  go_region_held3 (fun w' => w'.cell? ⟨w.heap.size, 0, none⟩ = some (fLeaf g) ∧ w'.cell? ⟨b, off, none⟩ = some (.string x)) (first | assumption | exact ⟨G0.cells.1, hcA⟩ | exact ⟨(G0.drew S).cells.1, hcD⟩)
    (first | (go_at_call 108; refine (S.leaf ts x _ (by first | exact G0.st | exact (G0.drew S).st) (by omega) hs0).mono ?_; rintro e w1 ⟨rfl, hI1, hk1⟩; have G1 : Gn g B I w w.heap.size (ts ++ [Sg.leafT x]) w1 := (by first | exact G0.call hI1 hk1 | exact (G0.drew S).call hI1 hk1); have hh1 : w1.cell? ⟨w.heap.size, 0, none⟩ = some (fLeaf g) ∧ w1.cell? ⟨b, off, none⟩ = some (.string x) := ⟨G1.cells.1, hc0 _ G1.kp⟩))
  go_wp2_with fail
  go_ret
  exact ⟨ret_str HR.out.1.symm, by rw [HR.out.2]; exact G1.st, G1.kp⟩

/-- Builder.Root of one leaf or more, up to m. -/
def NRootUpto (g B N : Nat) (I : List ByteArray → World → Prop) (m : Nat) : Prop := ∀ (ss : List ByteArray) (n b off cap : Nat) (ts : List ByteArray) (w : World), ss.length = n → n ≤ m → 1 ≤ n → n ≤ cap → (cap ≤ 9223372036854775807 ∧ n ≤ 1152921504606846976) → (∀ s ∈ ss, s.size ≤ 140737488355328) →
    b < B → I ts w → ts.length + 2 * n ≤ N + 1 → StrsAt w b off ss →
    Calls Tryz.prog 79 #[.agg #[fLeaf g, fNode g], .slice (some ⟨b, off, none⟩) n cap] w fun e w' => e = .returned (.string (Sg.root ss)) ∧ I (ts ++ Sg.rootTs ss) w' ∧ Kp B w w'

set_option maxHeartbeats 1600000 in
theorem nRoot_more {g B N : Nat} {I : List ByteArray → World → Prop} (S : SumsN g B N I) {m : Nat} (ih : NRootUpto g B N I m) (ss : List ByteArray) (n b off cap : Nat) (ts : List ByteArray) (w : World) (hn : ss.length = n) (hm : n ≤ m + 1) (h2 : 2 ≤ n) (hlc : n ≤ cap) (hcap0 : cap ≤ 9223372036854775807 ∧ n ≤ 1152921504606846976) (hsz : ∀ s ∈ ss, s.size ≤ 140737488355328)
    (hbB : b < B) (hI : I ts w) (hNb : ts.length + 2 * n ≤ N + 1) (hat : StrsAt w b off ss) :
    Calls Tryz.prog 79 #[.agg #[fLeaf g, fNode g], .slice (some ⟨b, off, none⟩) n cap] w fun e w' => e = .returned (.string (Sg.root ss)) ∧ I (ts ++ Sg.rootTs ss) w' ∧ Kp B w w' := by
  obtain ⟨hcap, hn60⟩ := hcap0
  have HR : Hid (Sg.root ss = Sg.nodeB (Sg.root (ss.take (Sg.halfN n))) (Sg.root (ss.drop (Sg.halfN n))) ∧ Sg.rootTs ss = Sg.rootTs (ss.take (Sg.halfN n)) ++ Sg.rootTs (ss.drop (Sg.halfN n)) ++ [Sg.nodeT (Sg.root (ss.take (Sg.halfN n))) (Sg.root (ss.drop (Sg.halfN n)))]) := by
    have e1 := Sg.root_more (l := ss) (by omega); have e2 := Sg.rootTs_more (l := ss) (by omega); rw [hn] at e1 e2; exact ⟨e1, e2⟩
  have hlt := Sg.halfN_lt h2
  have hpos := Sg.halfN_pos n
  obtain ⟨k, hk⟩ : ∃ k, k = Sg.halfN n := ⟨_, rfl⟩
  rw [← hk] at HR hlt hpos
  have HK : Hid (k = Sg.halfN n) := hk
  clear hk
  have hlt' : k < n := hlt
  have hl1 : ss.length = n := hn
  have HT : Hid ((ss.take k).length = k) := by show _ = _; rw [List.length_take, hl1]; omega
  have HD : Hid ((ss.drop k).length = n - k) := by show _ = _; rw [List.length_drop, hl1]
  clear hn hl1
  have h1 : ((n : Int) == 1) = false := by simp; omega
  have i1 : (0 : Int) ≤ (k : Int) := by omega
  have i2 : (k : Int) ≤ (n : Int) := by omega
  have i3 : (k : Int) ≤ (cap : Int) := by omega
  have i4 : (n : Int) ≤ (cap : Int) := by omega
  have s1 := Sg.root_size (ss.take k)
  have s2 := Sg.root_size (ss.drop k)
  have G0 := Gn.new S hI
  have hlt1 : (Sg.rootTs (ss.take k)).length + 1 ≤ 2 * k := by rw [Sg.rootTs_length k (ss.take k) (by rw [HT.out]; exact Nat.le_refl _) (by rw [HT.out]; omega), HT.out]; omega
  have hlt2 : (Sg.rootTs (ss.drop k)).length + 1 ≤ 2 * (n - k) := by rw [Sg.rootTs_length (n - k) (ss.drop k) (by rw [HD.out]; exact Nat.le_refl _) (by rw [HD.out]; omega), HD.out]; omega
  have hcall1 := fun W (hIW : I ts W) (hatW : StrsAt W b off ss) => ih (ss.take k) k b off cap ts W HT.out (by omega) (by omega) (by omega) (by omega) (fun s hs => hsz s (List.mem_of_mem_take hs)) hbB hIW (by omega) (hatW.take k)
  have hcall2 := fun W (hIW : I (ts ++ Sg.rootTs (ss.take k)) W) (hatW : StrsAt W b off ss) => ih (ss.drop k) (n - k) b (off + k) (cap - k) _ W HD.out (by omega) (by omega) (by omega) (by omega) (fun s hs => hsz s (List.mem_of_mem_drop hs)) hbB hIW (by rw [List.length_append]; omega) (hatW.drop k)
  have hN := fun W hIW => S.node (ts ++ Sg.rootTs (ss.take k) ++ Sg.rootTs (ss.drop k)) (Sg.root (ss.take k)) (Sg.root (ss.drop k)) W hIW (by rw [List.length_append, List.length_append]; omega) s1 s2
  generalize Sg.root (ss.take k) = r1 at *
  generalize Sg.root (ss.drop k) = r2 at *
  generalize Sg.rootTs (ss.take k) = t1 at *
  generalize Sg.rootTs (ss.drop k) = t2 at *
  clear ih hsz HT HD
  go_enter Tryz.func79, Tryz.ntmps79
  go_wp2_with fail
  refine (split_any (n : Int) _ (by omega) (by omega)).mono ?_
  rintro e w1 ⟨rfl, rfl⟩
  rw [Int.toNat_natCast, ← HK.out]
  go_wp2_with fail
  go_region_held3 (fun w' => w'.cell? ⟨w.heap.size, 0, none⟩ = some (fLeaf g) ∧ w'.cell? ⟨w.heap.size, 1, none⟩ = some (fNode g)) (first | assumption | exact G0.cells | exact bx_drew G0.cells | exact bx_drew (x := fLeaf g) (y := fNode g) (by assumption))
    (first
      | (go_at_call_of 79 (Value.slice (some ⟨b, off, none⟩) k cap); refine (hcall1 _ (by first | exact G0.st | exact (G0.drew S).st) (by first | exact G0.at_ hat hbB | exact (G0.drew S).at_ hat hbB)).mono ?_; rintro e w2 ⟨rfl, hI2, hk2⟩; have G2 : Gn g B I w w.heap.size (ts ++ t1) w2 := (by first | exact G0.call hI2 hk2 | exact (G0.drew S).call hI2 hk2); have hh2 := G2.cells)
      | (go_at_call_of 79 (Value.slice (some ⟨b, off + k, none⟩) (n - k) (cap - k)); refine (hcall2 _ (by first | exact G2.st | exact (G2.drew S).st) (by first | exact G2.at_ hat hbB | exact (G2.drew S).at_ hat hbB)).mono ?_; rintro e w3 ⟨rfl, hI3, hk3⟩; have G3 : Gn g B I w w.heap.size (ts ++ t1 ++ t2) w3 := (by first | exact G2.call hI3 hk3 | exact (G2.drew S).call hI3 hk3); have hh3 := G3.cells)
      | (go_at_call 109; refine (hN _ (by first | exact G3.st | exact (G3.drew S).st)).mono ?_; rintro e w4 ⟨rfl, hI4, hk4⟩; have G4 : Gn g B I w w.heap.size (ts ++ t1 ++ t2 ++ [Sg.nodeT r1 r2]) w4 := (by first | exact G3.call hI4 hk4 | exact (G3.drew S).call hI4 hk4); have hh4 := G4.cells))
  go_wp2_with fail
  go_ret
  refine ⟨ret_str HR.out.1.symm, ?_, G4.kp⟩
  rw [HR.out.2, ← List.append_assoc, ← List.append_assoc]
  exact G4.st

theorem nRoot_upto {g B N : Nat} {I : List ByteArray → World → Prop} (S : SumsN g B N I) : ∀ m, NRootUpto g B N I m := by
  intro m
  induction m with
  | zero => intro ss n b off cap ts w _ hm h1; omega
  | succ m ih =>
    intro ss n b off cap ts w hn hm h1 hlc hcap hsz hbw hI hNb hat
    by_cases hone : n = 1
    · subst hone; exact nRoot_one S ss b off cap ts w hn hsz hbw hI (by omega) hat
    · exact nRoot_more S ih ss n b off cap ts w hn hm (by omega) hlc hcap hsz hbw hI hNb hat

set_option maxHeartbeats 400000 in
theorem nClimb_one {g B N : Nat} {I : List ByteArray → World → Prop} (S : SumsN g B N I) (leaf : ByteArray) (i : Nat) (ao : Option Addr) (l cap : Nat) (ss ts : List ByteArray) (w : World) (hs : leaf.size ≤ 140737488355328) (hI : I ts w) (hN1 : ts.length + 1 ≤ N) :
    Calls Tryz.prog 93 #[.agg #[fLeaf g, fNode g], .string leaf, .int .i64 (i : Int), .int .i64 1, .slice ao l cap] w fun e w' => e = .returned (.string (Sg.climb leaf i 1 ss)) ∧ I (ts ++ Sg.climbTs leaf i 1 ss) w' ∧ Kp B w w' := by
  have HR : Hid (Sg.climb leaf i 1 ss = Sg.leafB leaf ∧ Sg.climbTs leaf i 1 ss = [Sg.leafT leaf]) := ⟨Sg.climb_one leaf (Nat.le_refl _) ss, Sg.climbTs_one leaf (Nat.le_refl _) ss⟩
  have G0 := Gn.new S hI
  have hL := fun W hIW => S.leaf ts leaf W hIW (by omega) hs
  go_enter Tryz.func93, Tryz.ntmps93
  go_wp2_with fail
  refine (hL _ G0.st).mono ?_
  rintro e w1 ⟨rfl, hI1, hk1⟩
  have G1 := G0.call hI1 hk1
  go_wp2_with fail
  go_ret
  exact ⟨ret_str HR.out.1.symm, by rw [HR.out.2]; exact G1.st, G1.kp⟩

/-- Builder.Climb in a tree of 2 to m leaves: its path has a last text. -/
def NClimbUpto (g B N : Nat) (I : List ByteArray → World → Prop) (leaf : ByteArray) (m : Nat) : Prop := ∀ (qs : List ByteArray) (x : ByteArray) (q i n b off cap : Nat) (ts : List ByteArray) (w : World), qs.length = q → q + 1 = Sg.depth i n → n ≤ m → 2 ≤ n → i < n → n ≤ 4096 → q + 1 ≤ cap → cap ≤ 9223372036854775807 →
    x.size = 2 → (∀ s ∈ qs, s.size = 2) → b < B → I ts w → ts.length + n ≤ N → StrsAt w b off (qs ++ [x]) →
    Calls Tryz.prog 93 #[.agg #[fLeaf g, fNode g], .string leaf, .int .i64 (i : Int), .int .i64 (n : Int), .slice (some ⟨b, off, none⟩) (q + 1) cap] w fun e w' => e = .returned (.string (Sg.climb leaf i n (qs ++ [x]))) ∧ I (ts ++ Sg.climbTs leaf i n (qs ++ [x])) w' ∧ Kp B w w'


/-- Climb a tree of 1 to m leaves, by what holds of 2 to m. -/
theorem nClimb_all {g B N : Nat} {I : List ByteArray → World → Prop} (S : SumsN g B N I) {leaf : ByteArray} {m : Nat} (hs : leaf.size ≤ 140737488355328) (ih : NClimbUpto g B N I leaf m) (qs : List ByteArray) (q i n b off cap : Nat) (ts : List ByteArray) (w : World) (hq : qs.length = q) (hd : q = Sg.depth i n) (hnm : n ≤ m) (hin : i < n) (hn : n ≤ 4096) (hqc : q ≤ cap) (hcap : cap ≤ 9223372036854775807)
    (h2 : ∀ s ∈ qs, s.size = 2) (hbB : b < B) (hI : I ts w) (hNb : ts.length + n ≤ N) (hat : StrsAt w b off qs) :
    Calls Tryz.prog 93 #[.agg #[fLeaf g, fNode g], .string leaf, .int .i64 (i : Int), .int .i64 (n : Int), .slice (some ⟨b, off, none⟩) q cap] w fun e w' => e = .returned (.string (Sg.climb leaf i n qs)) ∧ I (ts ++ Sg.climbTs leaf i n qs) w' ∧ Kp B w w' := by
  by_cases h1 : n = 1
  · subst h1
    exact nClimb_one S leaf i _ q cap qs ts w hs hI hNb
  · have hpos : 1 ≤ q := by
      rw [hd, Sg.depth_unfold (by omega)]; split <;> omega
    obtain ⟨ps, x, rfl⟩ : ∃ ps x, qs = ps ++ [x] := by
      have hne : qs ≠ [] := by intro h; subst h; simp at hq; omega
      exact ⟨qs.dropLast, qs.getLast hne, (List.dropLast_concat_getLast hne).symm⟩
    obtain ⟨p, rfl⟩ : ∃ p, q = p + 1 := ⟨q - 1, by omega⟩
    exact ih ps x p i n b off cap ts w (by simpa using hq) hd hnm (by omega) hin hn hqc hcap (h2 x (by simp)) (fun s hs' => h2 s (by simp [hs'])) hbB hI hNb hat

set_option maxRecDepth 100000 in
set_option maxHeartbeats 1600000 in
theorem nClimb_left {g B N : Nat} {I : List ByteArray → World → Prop} (S : SumsN g B N I) {leaf : ByteArray} {m : Nat} (hs : leaf.size ≤ 140737488355328) (ih : NClimbUpto g B N I leaf m) (qs : List ByteArray) (x : ByteArray) (q i n b off cap : Nat) (ts : List ByteArray) (w : World) (hq : qs.length = q) (hd : q + 1 = Sg.depth i n) (hnm : n ≤ m + 1) (hn2 : 2 ≤ n) (hik : i < Sg.halfN n) (hn : n ≤ 4096) (hqc : q + 1 ≤ cap) (hcap : cap ≤ 9223372036854775807)
    (hx : x.size = 2) (h2 : ∀ s ∈ qs, s.size = 2) (hbB : b < B) (hI : I ts w) (hNb : ts.length + n ≤ N) (hat : StrsAt w b off (qs ++ [x])) :
    Calls Tryz.prog 93 #[.agg #[fLeaf g, fNode g], .string leaf, .int .i64 (i : Int), .int .i64 (n : Int), .slice (some ⟨b, off, none⟩) (q + 1) cap] w fun e w' => e = .returned (.string (Sg.climb leaf i n (qs ++ [x]))) ∧ I (ts ++ Sg.climbTs leaf i n (qs ++ [x])) w' ∧ Kp B w w' := by
  have HR : Hid (Sg.climb leaf i n (qs ++ [x]) = Sg.nodeB (Sg.climb leaf i (Sg.halfN n) qs) x ∧ Sg.climbTs leaf i n (qs ++ [x]) = Sg.climbTs leaf i (Sg.halfN n) qs ++ [Sg.nodeT (Sg.climb leaf i (Sg.halfN n) qs) x]) := ⟨Sg.climb_left leaf hn2 hik qs x, Sg.climbTs_left leaf hn2 hik qs x⟩
  have hlt := Sg.halfN_lt hn2
  have hpos := Sg.halfN_pos n
  have HD : Hid (q = Sg.depth i (Sg.halfN n)) := by show _ = _; rw [Sg.depth_left hn2 hik] at hd; omega
  clear hd
  obtain ⟨k, hk⟩ : ∃ k, k = Sg.halfN n := ⟨_, rfl⟩
  rw [← hk] at HR hlt hpos hik HD
  have HK : Hid (k = Sg.halfN n) := hk
  clear hk
  have HQ : Hid (qs.length = q) := hq
  clear hq
  have h1 : ((n : Int) == 1) = false := by simp; omega
  have i1 : (i : Int) < (k : Int) := by omega
  have i2 : (0 : Int) ≤ (q : Int) := by omega
  have i3 : (q : Int) ≤ (cap : Int) := by omega
  have i4 : (q : Int) < (q : Int) + 1 := by omega
  have hcs := Sg.climb_size leaf i k qs
  have G0 := Gn.new S hI
  have hc0 : ∀ W, Kp B w W → W.cell? ⟨b, off + q, none⟩ = some (.string x) := fun W hk => still_last HQ.out (hat.kp hk hbB)
  have hcall := fun W (hIW : I ts W) (hatW : StrsAt W b off (qs ++ [x])) => nClimb_all S hs ih qs q i k b off cap ts W HQ.out HD.out (by omega) hik (by omega) (by omega) hcap h2 hbB hIW (by omega) hatW.front
  have hN := fun W hIW => S.node (ts ++ Sg.climbTs leaf i k qs) (Sg.climb leaf i k qs) x W hIW (by rw [List.length_append]; have := Sg.climbTs_len leaf k i k qs (Nat.le_refl _) (by omega); omega) hcs hx
  generalize Sg.climb leaf i k qs = r at *
  generalize Sg.climbTs leaf i k qs = t1 at *
  have hcA := hc0 _ G0.kp
  have hcD := hc0 _ (G0.drew S).kp
  clear ih hcs hx h2 HD
  go_enter Tryz.func93, Tryz.ntmps93
  go_wp2_with fail
  refine (split_any (n : Int) _ (by omega) (by omega)).mono ?_
  rintro e w1 ⟨rfl, rfl⟩
  rw [Int.toNat_natCast, ← HK.out]
  go_wp2_with fail
  go_region_held3 (fun w' => w'.cell? ⟨b, off + q, none⟩ = some (.string x) ∧ w'.cell? ⟨w.heap.size, 0, none⟩ = some (fLeaf g) ∧ w'.cell? ⟨w.heap.size, 1, none⟩ = some (fNode g)) (first | assumption | exact ⟨hcA, G0.cells⟩ | exact ⟨hcD, (G0.drew S).cells⟩ | exact cell3_drew (x := fLeaf g) (y := fNode g) (z := .string x) (by assumption))
    (first
      | (go_at_call 93; refine (hcall _ (by first | exact G0.st | exact (G0.drew S).st) (by first | exact G0.at_ hat hbB | exact (G0.drew S).at_ hat hbB)).mono ?_; rintro e w2 ⟨rfl, hI2, hk2⟩; have G2 : Gn g B I w w.heap.size (ts ++ t1) w2 := (by first | exact G0.call hI2 hk2 | exact (G0.drew S).call hI2 hk2); have hh2 : w2.cell? ⟨b, off + q, none⟩ = some (.string x) ∧ w2.cell? ⟨w.heap.size, 0, none⟩ = some (fLeaf g) ∧ w2.cell? ⟨w.heap.size, 1, none⟩ = some (fNode g) := ⟨hc0 _ G2.kp, G2.cells⟩)
      | (go_at_call 109; refine (hN _ (by first | exact G2.st | exact (G2.drew S).st)).mono ?_; rintro e w3 ⟨rfl, hI3, hk3⟩; have G3 : Gn g B I w w.heap.size (ts ++ t1 ++ [Sg.nodeT r x]) w3 := (by first | exact G2.call hI3 hk3 | exact (G2.drew S).call hI3 hk3); have hh3 : w3.cell? ⟨b, off + q, none⟩ = some (.string x) ∧ w3.cell? ⟨w.heap.size, 0, none⟩ = some (fLeaf g) ∧ w3.cell? ⟨w.heap.size, 1, none⟩ = some (fNode g) := ⟨hc0 _ G3.kp, G3.cells⟩))
  go_wp2_with fail
  go_ret
  exact ⟨ret_str HR.out.1.symm, by rw [HR.out.2, ← List.append_assoc]; exact G3.st, G3.kp⟩

set_option maxRecDepth 100000 in
set_option maxHeartbeats 1600000 in
theorem nClimb_right {g B N : Nat} {I : List ByteArray → World → Prop} (S : SumsN g B N I) {leaf : ByteArray} {m : Nat} (hs : leaf.size ≤ 140737488355328) (ih : NClimbUpto g B N I leaf m) (qs : List ByteArray) (x : ByteArray) (q i n b off cap : Nat) (ts : List ByteArray) (w : World) (hq : qs.length = q) (hd : q + 1 = Sg.depth i n) (hnm : n ≤ m + 1) (hn2 : 2 ≤ n) (hik : ¬ i < Sg.halfN n) (hin : i < n) (hn : n ≤ 4096) (hqc : q + 1 ≤ cap) (hcap : cap ≤ 9223372036854775807)
    (hx : x.size = 2) (h2 : ∀ s ∈ qs, s.size = 2) (hbB : b < B) (hI : I ts w) (hNb : ts.length + n ≤ N) (hat : StrsAt w b off (qs ++ [x])) :
    Calls Tryz.prog 93 #[.agg #[fLeaf g, fNode g], .string leaf, .int .i64 (i : Int), .int .i64 (n : Int), .slice (some ⟨b, off, none⟩) (q + 1) cap] w fun e w' => e = .returned (.string (Sg.climb leaf i n (qs ++ [x]))) ∧ I (ts ++ Sg.climbTs leaf i n (qs ++ [x])) w' ∧ Kp B w w' := by
  have HR : Hid (Sg.climb leaf i n (qs ++ [x]) = Sg.nodeB x (Sg.climb leaf (i - Sg.halfN n) (n - Sg.halfN n) qs) ∧ Sg.climbTs leaf i n (qs ++ [x]) = Sg.climbTs leaf (i - Sg.halfN n) (n - Sg.halfN n) qs ++ [Sg.nodeT x (Sg.climb leaf (i - Sg.halfN n) (n - Sg.halfN n) qs)]) := ⟨Sg.climb_right leaf hn2 hik qs x, Sg.climbTs_right leaf hn2 hik qs x⟩
  have hlt := Sg.halfN_lt hn2
  have hpos := Sg.halfN_pos n
  have HD : Hid (q = Sg.depth (i - Sg.halfN n) (n - Sg.halfN n)) := by show _ = _; rw [Sg.depth_right hn2 hik] at hd; omega
  clear hd
  obtain ⟨k, hk⟩ : ∃ k, k = Sg.halfN n := ⟨_, rfl⟩
  rw [← hk] at HR hlt hpos hik HD
  have HK : Hid (k = Sg.halfN n) := hk
  clear hk
  have HQ : Hid (qs.length = q) := hq
  clear hq
  have h1 : ((n : Int) == 1) = false := by simp; omega
  have i1 : ¬ (i : Int) < (k : Int) := by omega
  have HE : Hid (((i : Int) - (k : Int)) = ((i - k : Nat) : Int)) := by show _ = _; omega
  have HE2 : Hid (((n : Int) - (k : Int)) = ((n - k : Nat) : Int)) := by show _ = _; omega
  have hwr : IntKind.i64.wrap ((i : Int) - (k : Int)) = (i : Int) - (k : Int) := IntWalk.i64_in _ (by omega)
  have hwr2 : IntKind.i64.wrap ((n : Int) - (k : Int)) = (n : Int) - (k : Int) := IntWalk.i64_in _ (by omega)
  have i2 : (0 : Int) ≤ (q : Int) := by omega
  have i3 : (q : Int) ≤ (cap : Int) := by omega
  have i4 : (q : Int) < (q : Int) + 1 := by omega
  have hcs := Sg.climb_size leaf (i - k) (n - k) qs
  have G0 := Gn.new S hI
  have hc0 : ∀ W, Kp B w W → W.cell? ⟨b, off + q, none⟩ = some (.string x) := fun W hk => still_last HQ.out (hat.kp hk hbB)
  have hcall := fun W (hIW : I ts W) (hatW : StrsAt W b off (qs ++ [x])) => nClimb_all S hs ih qs q (i - k) (n - k) b off cap ts W HQ.out HD.out (by omega) (by omega) (by omega) (by omega) hcap h2 hbB hIW (by omega) hatW.front
  have hN := fun W hIW => S.node (ts ++ Sg.climbTs leaf (i - k) (n - k) qs) x (Sg.climb leaf (i - k) (n - k) qs) W hIW (by rw [List.length_append]; have := Sg.climbTs_len leaf (n - k) (i - k) (n - k) qs (Nat.le_refl _) (by omega); omega) hx hcs
  generalize Sg.climb leaf (i - k) (n - k) qs = r at *
  generalize Sg.climbTs leaf (i - k) (n - k) qs = t1 at *
  have hcA := hc0 _ G0.kp
  have hcD := hc0 _ (G0.drew S).kp
  clear ih hcs hx h2 HD
  go_enter Tryz.func93, Tryz.ntmps93
  go_wp2_with fail
  refine (split_any (n : Int) _ (by omega) (by omega)).mono ?_
  rintro e w1 ⟨rfl, rfl⟩
  rw [Int.toNat_natCast, ← HK.out]
  go_wp2_with fail
  go_region_held3 (fun w' => w'.cell? ⟨b, off + q, none⟩ = some (.string x) ∧ w'.cell? ⟨w.heap.size, 0, none⟩ = some (fLeaf g) ∧ w'.cell? ⟨w.heap.size, 1, none⟩ = some (fNode g)) (first | assumption | exact ⟨hcA, G0.cells⟩ | exact ⟨hcD, (G0.drew S).cells⟩ | exact cell3_drew (x := fLeaf g) (y := fNode g) (z := .string x) (by assumption))
    (first
      | (go_at_call 93; rw [HE.out, HE2.out]; refine (hcall _ (by first | exact G0.st | exact (G0.drew S).st) (by first | exact G0.at_ hat hbB | exact (G0.drew S).at_ hat hbB)).mono ?_; rintro e w2 ⟨rfl, hI2, hk2⟩; have G2 : Gn g B I w w.heap.size (ts ++ t1) w2 := (by first | exact G0.call hI2 hk2 | exact (G0.drew S).call hI2 hk2); have hh2 : w2.cell? ⟨b, off + q, none⟩ = some (.string x) ∧ w2.cell? ⟨w.heap.size, 0, none⟩ = some (fLeaf g) ∧ w2.cell? ⟨w.heap.size, 1, none⟩ = some (fNode g) := ⟨hc0 _ G2.kp, G2.cells⟩)
      | (go_at_call 109; refine (hN _ (by first | exact G2.st | exact (G2.drew S).st)).mono ?_; rintro e w3 ⟨rfl, hI3, hk3⟩; have G3 : Gn g B I w w.heap.size (ts ++ t1 ++ [Sg.nodeT x r]) w3 := (by first | exact G2.call hI3 hk3 | exact (G2.drew S).call hI3 hk3); have hh3 : w3.cell? ⟨b, off + q, none⟩ = some (.string x) ∧ w3.cell? ⟨w.heap.size, 0, none⟩ = some (fLeaf g) ∧ w3.cell? ⟨w.heap.size, 1, none⟩ = some (fNode g) := ⟨hc0 _ G3.kp, G3.cells⟩))
  go_wp2_with fail
  go_ret
  exact ⟨ret_str HR.out.1.symm, by rw [HR.out.2, ← List.append_assoc]; exact G3.st, G3.kp⟩

theorem nClimb_upto {g B N : Nat} {I : List ByteArray → World → Prop} (S : SumsN g B N I) {leaf : ByteArray} (hs : leaf.size ≤ 140737488355328) : ∀ m, NClimbUpto g B N I leaf m := by
  intro m
  induction m with
  | zero => intro qs x q i n b off cap ts w _ _ hm h1; omega
  | succ m ih =>
    intro qs x q i n b off cap ts w hq hd hnm hn2 hin hn hqc hcap hx h2 hbw hI hNb hat
    by_cases hik : i < Sg.halfN n
    · exact nClimb_left S hs ih qs x q i n b off cap ts w hq hd hnm hn2 hik hn hqc hcap hx h2 hbw hI hNb hat
    · exact nClimb_right S hs ih qs x q i n b off cap ts w hq hd hnm hn2 hik hin hn hqc hcap hx h2 hbw hI hNb hat

/-- Climb along whatever slice has a path's form. -/
theorem nClimb_any {g B N : Nat} {I : List ByteArray → World → Prop} (S : SumsN g B N I) {leaf : ByteArray} (hs : leaf.size ≤ 140737488355328) (ss : List ByteArray) (ao : Option Addr) (l i n cap : Nat) (ts : List ByteArray) (w : World) (hl : ss.length = l) (hd : l = Sg.depth i n) (hin : i < n) (hn : n ≤ 4096) (hlc : l ≤ cap) (hcap : cap ≤ 9223372036854775807)
    (h2 : ∀ s ∈ ss, s.size = 2) (hI : I ts w) (hNb : ts.length + n ≤ N) (hss : ss.length = 0 ∨ ∃ b off, ao = some ⟨b, off, none⟩ ∧ b < B ∧ StrsAt w b off ss) :
    Calls Tryz.prog 93 #[.agg #[fLeaf g, fNode g], .string leaf, .int .i64 (i : Int), .int .i64 (n : Int), .slice ao l cap] w fun e w' => e = .returned (.string (Sg.climb leaf i n ss)) ∧ I (ts ++ Sg.climbTs leaf i n ss) w' ∧ Kp B w w' := by
  by_cases h1 : n = 1
  · subst h1
    exact nClimb_one S leaf i _ l cap ss ts w hs hI hNb
  · rcases hss with h0 | ⟨b, off, rfl, hbw, hat⟩
    · exfalso
      rw [Sg.depth_unfold (by omega)] at hd
      split at hd <;> omega
    · exact nClimb_all S hs (nClimb_upto S hs n) ss l i n b off cap ts w hl hd (Nat.le_refl _) hin hn hlc hcap h2 hbw hI hNb hat

end Go.Proofs.YtpkkhkkkgjhkeabGreat
