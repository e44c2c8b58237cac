import Derived.Test.YtpkkhkkkgjhkeabGreatMath
import Derived.Deep.RegionHeld3
import Derived.Deep.DrawnRows
import Derived.Laws.EntriesVeiled
import Derived.Laws.Pointers
/-
  PLAIN MATHEMATICS OF signet: trees (P4).
-/
namespace Go.Proofs.YtpkkhkkkgjhkeabGreat.Sg

/-- The greatest power of two below n (2 and more). -/
def halfN (n : Nat) : Nat := 2 ^ (n - 1).log2
theorem halfN_of {n j : Nat} (h1 : 2 ^ j < n) (h2 : n ≤ 2 * 2 ^ j) : 2 ^ j = halfN n := by
  unfold halfN
  have : (n - 1).log2 = j := (Nat.log2_eq_iff (by have := Nat.two_pow_pos j; omega)).2 ⟨by omega, by rw [Nat.pow_succ]; omega⟩
  rw [this]
theorem halfN_lt {n : Nat} (h : 2 ≤ n) : halfN n < n := by
  unfold halfN
  have := Nat.log2_self_le (n := n - 1) (by omega)
  omega
theorem halfN_pos (n : Nat) : 1 ≤ halfN n := Nat.two_pow_pos _
theorem halfN_ge {n : Nat} (h : 2 ≤ n) : n ≤ 2 * halfN n := by
  unfold halfN
  have := Nat.lt_log2_self (n := n - 1)
  rw [Nat.pow_succ] at this
  omega

abbrev Txt := ByteArray
/-- What a leaf is summed over, and a node. -/
def leafT (s : Txt) : Txt := ({ data := #[0] } : ByteArray) ++ s
def nodeT (a b : Txt) : Txt := ({ data := #[1] } : ByteArray) ++ a ++ b
def leafB (s : Txt) : Txt := sumB (leafT s)
def nodeB (a b : Txt) : Txt := sumB (nodeT a b)
theorem leafB_size (s : Txt) : (leafB s).size = 2 := rfl
theorem nodeB_size (a b : Txt) : (nodeB a b).size = 2 := rfl

/-- Root, with fuel. -/
def rootF : Nat → List Txt → Txt
  | 0, _ => sumB ByteArray.empty
  | f + 1, l => if l.length = 0 then sumB ByteArray.empty else if l.length = 1 then leafB (l.getD 0 ByteArray.empty) else
      nodeB (rootF f (l.take (halfN l.length))) (rootF f (l.drop (halfN l.length)))
theorem rootF_fuel : ∀ (f g : Nat) (l : List Txt), l.length ≤ f → l.length ≤ g → rootF f l = rootF g l
  | 0, 0, _, _, _ => rfl
  | 0, g + 1, l, h, _ => by simp only [rootF]; rw [if_pos (by omega)]
  | f + 1, 0, l, _, h => by simp only [rootF]; rw [if_pos (by omega)]
  | f + 1, g + 1, l, hf, hg => by
    simp only [rootF]
    by_cases h0 : l.length = 0
    · rw [if_pos h0, if_pos h0]
    by_cases h1 : l.length = 1
    · rw [if_neg h0, if_pos h1, if_neg h0, if_pos h1]
    have a := halfN_lt (n := l.length) (by omega)
    have b := halfN_pos l.length
    rw [if_neg h0, if_neg h1, if_neg h0, if_neg h1, rootF_fuel f g (l.take _) (by simp; omega) (by simp; omega), rootF_fuel f g (l.drop _) (by simp; omega) (by simp; omega)]
/-- Root (P4). -/
def root (l : List Txt) : Txt := rootF l.length l
theorem root_none {l : List Txt} (h : l.length = 0) : root l = sumB ByteArray.empty := by
  unfold root; rw [h]; rfl
theorem root_one {l : List Txt} (h : l.length = 1) : root l = leafB (l.getD 0 ByteArray.empty) := by
  unfold root; rw [h]; simp only [rootF]; rw [if_neg (by omega), if_pos h]
theorem root_more {l : List Txt} (h : 2 ≤ l.length) : root l = nodeB (root (l.take (halfN l.length))) (root (l.drop (halfN l.length))) := by
  have a := halfN_lt h
  have b := halfN_pos l.length
  obtain ⟨n, hn⟩ : ∃ n, l.length = n + 1 := ⟨l.length - 1, by omega⟩
  have e : root l = rootF (n + 1) l := by unfold root; rw [hn]
  rw [e]
  simp only [rootF]
  rw [if_neg (by omega), if_neg (by omega)]
  unfold root
  rw [rootF_fuel n _ (l.take _) (by simp; omega) (Nat.le_refl _), rootF_fuel n _ (l.drop _) (by simp; omega) (Nat.le_refl _)]
theorem root_size (l : List Txt) : (root l).size = 2 := by
  by_cases h0 : l.length = 0
  · rw [root_none h0]; rfl
  by_cases h1 : l.length = 1
  · rw [root_one h1]; rfl
  rw [root_more (by omega)]; rfl

/-- Path, with fuel. -/
def pathF : Nat → List Txt → Nat → List Txt
  | 0, _, _ => []
  | f + 1, l, at_ => if l.length ≤ 1 then [] else if at_ < halfN l.length then pathF f (l.take (halfN l.length)) at_ ++ [root (l.drop (halfN l.length))] else
      pathF f (l.drop (halfN l.length)) (at_ - halfN l.length) ++ [root (l.take (halfN l.length))]
theorem pathF_fuel : ∀ (f g : Nat) (l : List Txt) (i : Nat), l.length ≤ f → l.length ≤ g → pathF f l i = pathF g l i
  | 0, 0, _, _, _, _ => rfl
  | 0, g + 1, l, _, h, _ => by simp only [pathF]; rw [if_pos (by omega)]
  | f + 1, 0, l, _, _, h => by simp only [pathF]; rw [if_pos (by omega)]
  | f + 1, g + 1, l, i, hf, hg => by
    simp only [pathF]
    by_cases h1 : l.length ≤ 1
    · rw [if_pos h1, if_pos h1]
    have a := halfN_lt (n := l.length) (by omega)
    have b := halfN_pos l.length
    rw [if_neg h1, if_neg h1, pathF_fuel f g (l.take _) i (by simp; omega) (by simp; omega), pathF_fuel f g (l.drop _) _ (by simp; omega) (by simp; omega)]
/-- Path (P4), of a leaf that is there. -/
def path (l : List Txt) (i : Nat) : List Txt := pathF l.length l i
theorem path_one {l : List Txt} (h : l.length ≤ 1) (i : Nat) : path l i = [] := by
  unfold path
  match hl : l.length, h with
  | 0, _ => rfl
  | 1, _ => simp only [pathF]; rw [if_pos (by omega)]
theorem path_unfold {l : List Txt} (h : 2 ≤ l.length) (i : Nat) : path l i = if i < halfN l.length then path (l.take (halfN l.length)) i ++ [root (l.drop (halfN l.length))] else
    path (l.drop (halfN l.length)) (i - halfN l.length) ++ [root (l.take (halfN l.length))] := by
  have a := halfN_lt h
  have b := halfN_pos l.length
  obtain ⟨n, hn⟩ : ∃ n, l.length = n + 1 := ⟨l.length - 1, by omega⟩
  have e : path l i = pathF (n + 1) l i := by unfold path; rw [hn]
  rw [e]
  simp only [pathF]
  rw [if_neg (by omega)]
  unfold path
  rw [pathF_fuel n _ (l.take _) _ (by simp; omega) (Nat.le_refl _), pathF_fuel n _ (l.drop _) _ (by simp; omega) (Nat.le_refl _)]
theorem path_left {l : List Txt} (h : 2 ≤ l.length) {i : Nat} (hi : i < halfN l.length) : path l i = path (l.take (halfN l.length)) i ++ [root (l.drop (halfN l.length))] := by
  rw [path_unfold h, if_pos hi]
theorem path_right {l : List Txt} (h : 2 ≤ l.length) {i : Nat} (hi : ¬ i < halfN l.length) : path l i = path (l.drop (halfN l.length)) (i - halfN l.length) ++ [root (l.take (halfN l.length))] := by
  rw [path_unfold h, if_neg hi]

/-- How many texts the path of a leaf has, with fuel. -/
def depthF : Nat → Nat → Nat → Nat
  | 0, _, _ => 0
  | f + 1, i, n => if n ≤ 1 then 0 else if i < halfN n then depthF f i (halfN n) + 1 else depthF f (i - halfN n) (n - halfN n) + 1
theorem depthF_fuel : ∀ (f g i n : Nat), n ≤ f → n ≤ g → depthF f i n = depthF g i n
  | 0, 0, _, _, _, _ => rfl
  | 0, g + 1, i, n, h, _ => by simp only [depthF]; rw [if_pos (by omega)]
  | f + 1, 0, i, n, _, h => by simp only [depthF]; rw [if_pos (by omega)]
  | f + 1, g + 1, i, n, hf, hg => by
    simp only [depthF]
    by_cases h1 : n ≤ 1
    · rw [if_pos h1, if_pos h1]
    have a := halfN_lt (n := n) (by omega)
    have b := halfN_pos n
    rw [if_neg h1, if_neg h1, depthF_fuel f g i _ (by omega) (by omega), depthF_fuel f g _ (n - halfN n) (by omega) (by omega)]
def depth (i n : Nat) : Nat := depthF n i n
theorem depth_one {i n : Nat} (h : n ≤ 1) : depth i n = 0 := by
  unfold depth
  match n, h with
  | 0, _ => rfl
  | 1, _ => rfl
theorem depth_unfold {i n : Nat} (h : 2 ≤ n) : depth i n = if i < halfN n then depth i (halfN n) + 1 else depth (i - halfN n) (n - halfN n) + 1 := by
  have a := halfN_lt h
  have b := halfN_pos n
  obtain ⟨m, rfl⟩ : ∃ m, n = m + 1 := ⟨n - 1, by omega⟩
  unfold depth
  simp only [depthF]
  rw [if_neg (by omega), depthF_fuel m _ i _ (by omega) (Nat.le_refl _), depthF_fuel m _ _ (m + 1 - halfN (m + 1)) (by omega) (Nat.le_refl _)]
theorem depth_left {i n : Nat} (h : 2 ≤ n) (hi : i < halfN n) : depth i n = depth i (halfN n) + 1 := by rw [depth_unfold h, if_pos hi]
theorem depth_right {i n : Nat} (h : 2 ≤ n) (hi : ¬ i < halfN n) : depth i n = depth (i - halfN n) (n - halfN n) + 1 := by rw [depth_unfold h, if_neg hi]
theorem depth_lt : ∀ (m i n : Nat), n ≤ m → 1 ≤ n → depth i n < n
  | 0, _, _, _, _ => by omega
  | m + 1, i, n, hm, hn => by
    by_cases h1 : n ≤ 1
    · rw [depth_one h1]; omega
    have a := halfN_lt (n := n) (by omega)
    have b := halfN_pos n
    rw [depth_unfold (by omega)]
    have c := depth_lt m i (halfN n) (by omega) b
    have d := depth_lt m (i - halfN n) (n - halfN n) (by omega) (by omega)
    split <;> omega
theorem path_length : ∀ (m : Nat) (l : List Txt) (i : Nat), l.length ≤ m → (path l i).length = depth i l.length
  | 0, l, i, h => by rw [path_one (by omega), depth_one (by omega)]; rfl
  | m + 1, l, i, h => by
    by_cases h1 : l.length ≤ 1
    · rw [path_one h1, depth_one h1]; rfl
    have a := halfN_lt (n := l.length) (by omega)
    have b := halfN_pos l.length
    rw [path_unfold (by omega), depth_unfold (by omega)]
    have c := path_length m (l.take (halfN l.length)) i (by simp; omega)
    have d := path_length m (l.drop (halfN l.length)) (i - halfN l.length) (by simp; omega)
    rw [List.length_take, Nat.min_eq_left (by omega)] at c
    rw [List.length_drop] at d
    split <;> simp [c, d]
theorem path_sizes : ∀ (m : Nat) (l : List Txt) (i : Nat), l.length ≤ m → ∀ s ∈ path l i, s.size = 2
  | 0, l, i, h => by rw [path_one (by omega)]; simp
  | m + 1, l, i, h => by
    by_cases h1 : l.length ≤ 1
    · rw [path_one h1]; simp
    have a := halfN_lt (n := l.length) (by omega)
    have b := halfN_pos l.length
    rw [path_unfold (by omega)]
    have c := path_sizes m (l.take (halfN l.length)) i (by simp; omega)
    have d := path_sizes m (l.drop (halfN l.length)) (i - halfN l.length) (by simp; omega)
    intro s
    split
    · simp only [List.mem_append, List.mem_singleton]
      rintro (hs | rfl)
      · exact c s hs
      · exact root_size _
    · simp only [List.mem_append, List.mem_singleton]
      rintro (hs | rfl)
      · exact d s hs
      · exact root_size _

/-- Climb (P4), with fuel: over a path of the right length. -/
def climbF (leaf : Txt) : Nat → Nat → Nat → List Txt → Txt
  | 0, _, _, _ => leafB leaf
  | f + 1, i, n, p => if n ≤ 1 then leafB leaf else if i < halfN n then nodeB (climbF leaf f i (halfN n) p.dropLast) (p.getLastD ByteArray.empty) else
      nodeB (p.getLastD ByteArray.empty) (climbF leaf f (i - halfN n) (n - halfN n) p.dropLast)
theorem climbF_fuel (leaf : Txt) : ∀ (f g i n : Nat) (p : List Txt), n ≤ f → n ≤ g → climbF leaf f i n p = climbF leaf g i n p
  | 0, 0, _, _, _, _, _ => rfl
  | 0, g + 1, i, n, p, h, _ => by simp only [climbF]; rw [if_pos (by omega)]
  | f + 1, 0, i, n, p, _, h => by simp only [climbF]; rw [if_pos (by omega)]
  | f + 1, g + 1, i, n, p, hf, hg => by
    simp only [climbF]
    by_cases h1 : n ≤ 1
    · rw [if_pos h1, if_pos h1]
    have a := halfN_lt (n := n) (by omega)
    have b := halfN_pos n
    rw [if_neg h1, if_neg h1, climbF_fuel leaf f g i _ _ (by omega) (by omega), climbF_fuel leaf f g _ (n - halfN n) _ (by omega) (by omega)]
def climb (leaf : Txt) (i n : Nat) (p : List Txt) : Txt := climbF leaf n i n p
theorem climb_one (leaf : Txt) {i n : Nat} (h : n ≤ 1) (p : List Txt) : climb leaf i n p = leafB leaf := by
  unfold climb
  match n, h with
  | 0, _ => rfl
  | 1, _ => rfl
theorem climb_unfold (leaf : Txt) {i n : Nat} (h : 2 ≤ n) (p : List Txt) : climb leaf i n p = if i < halfN n then nodeB (climb leaf i (halfN n) p.dropLast) (p.getLastD ByteArray.empty) else
    nodeB (p.getLastD ByteArray.empty) (climb leaf (i - halfN n) (n - halfN n) p.dropLast) := by
  have a := halfN_lt h
  have b := halfN_pos n
  obtain ⟨m, rfl⟩ : ∃ m, n = m + 1 := ⟨n - 1, by omega⟩
  unfold climb
  simp only [climbF]
  rw [if_neg (by omega), climbF_fuel leaf m _ i _ _ (by omega) (Nat.le_refl _), climbF_fuel leaf m _ _ (m + 1 - halfN (m + 1)) _ (by omega) (Nat.le_refl _)]
theorem climb_left (leaf : Txt) {i n : Nat} (h : 2 ≤ n) (hi : i < halfN n) (p : List Txt) (x : Txt) : climb leaf i n (p ++ [x]) = nodeB (climb leaf i (halfN n) p) x := by
  rw [climb_unfold leaf h, if_pos hi]; simp
theorem climb_right (leaf : Txt) {i n : Nat} (h : 2 ≤ n) (hi : ¬ i < halfN n) (p : List Txt) (x : Txt) : climb leaf i n (p ++ [x]) = nodeB x (climb leaf (i - halfN n) (n - halfN n) p) := by
  rw [climb_unfold leaf h, if_neg hi]; simp
theorem climb_size (leaf : Txt) (i n : Nat) (p : List Txt) : (climb leaf i n p).size = 2 := by
  by_cases h : n ≤ 1
  · rw [climb_one leaf h]; rfl
  rw [climb_unfold leaf (by omega)]; split <;> rfl

/-- From each leaf its path leads to the root. -/
theorem climb_path : ∀ (m : Nat) (l : List Txt) (i : Nat), l.length ≤ m → i < l.length → climb (l.getD i ByteArray.empty) i l.length (path l i) = root l
  | 0, l, i, h, hi => by omega
  | m + 1, l, i, h, hi => by
    by_cases h1 : l.length ≤ 1
    · have e : l.length = 1 := by omega
      have e0 : i = 0 := by omega
      subst e0
      rw [climb_one _ h1, root_one e]
    have a := halfN_lt (n := l.length) (by omega)
    have b := halfN_pos l.length
    rw [root_more (by omega)]
    by_cases hlt : i < halfN l.length
    · rw [path_left (by omega) hlt, climb_left _ (by omega) hlt]
      have c := climb_path m (l.take (halfN l.length)) i (by simp; omega) (by simp; omega)
      have e : (l.take (halfN l.length)).getD i ByteArray.empty = l.getD i ByteArray.empty := by
        simp [List.getD, hlt]
      have e2 : (l.take (halfN l.length)).length = halfN l.length := by simp; omega
      rw [e, e2] at c
      rw [c]
    · rw [path_right (by omega) hlt, climb_right _ (by omega) hlt]
      have c := climb_path m (l.drop (halfN l.length)) (i - halfN l.length) (by simp; omega) (by simp; omega)
      have e : (l.drop (halfN l.length)).getD (i - halfN l.length) ByteArray.empty = l.getD i ByteArray.empty := by
        have : halfN l.length + (i - halfN l.length) = i := by omega
        simp [List.getD, List.getElem?_drop, this]
      have e2 : (l.drop (halfN l.length)).length = l.length - halfN l.length := by simp
      rw [e, e2] at c
      rw [c]

/-- What two leaves with one sum lead to is one. -/
theorem climb_same {x y : Txt} (h : leafB x = leafB y) : ∀ (m i n : Nat) (p : List Txt), n ≤ m → climb x i n p = climb y i n p
  | 0, i, n, p, hm => by rw [climb_one x (by omega), climb_one y (by omega), h]
  | m + 1, i, n, p, hm => by
    by_cases h1 : n ≤ 1
    · rw [climb_one x h1, climb_one y h1, h]
    have a := halfN_lt (n := n) (by omega)
    have b := halfN_pos n
    rw [climb_unfold x (by omega), climb_unfold y (by omega), climb_same h m i _ _ (by omega), climb_same h m _ (n - halfN n) _ (by omega)]
end Go.Proofs.YtpkkhkkkgjhkeabGreat.Sg

/-
  THE WALKS of half, split, and of what makes a leaf and a node (P4).
-/
namespace Go.Proofs.YtpkkhkkkgjhkeabGreat
open Go.RowKit
set_option maxRecDepth 100000

theorem ret_int {k : IntKind} {a b : Int} (h : a = b) : Ending.returned (.int k a) = .returned (.int k b) := by rw [h]

set_option maxHeartbeats 400000 in
/-- tree.split. -/
theorem split_any (n : Int) (w : World) (h2 : 2 ≤ n) (hb : n ≤ 1152921504606846976) :
    Calls Tryz.prog 78 #[.int .i64 n] w fun e w' => e = .returned (.int .i64 (Sg.halfN n.toNat)) ∧ w' = w := by
  go_enter Tryz.func78, Tryz.ntmps78
  go_wp2
  go_loop [3] (fun t => ∃ j : Nat, ((2 ^ j : Nat) : Int) < n ∧ t = .int .i64 ((2 ^ j : Nat) : Int)) (fun t => (n - intOf t).toNat)
  case atStart => exact ⟨0, by simp; omega, rfl⟩
  case round =>
    obtain ⟨j, hj, rfl⟩ := hrel
    have hpos : 1 ≤ 2 ^ j := Nat.two_pow_pos j
    have HP : Hid (2 ^ (j + 1) = 2 ^ j * 2) := Nat.pow_succ 2 j
    obtain ⟨k, hk⟩ : ∃ k, k = 2 ^ j := ⟨_, rfl⟩
    have HK : Hid (k = 2 ^ j) := hk
    rw [← hk] at hj hpos ⊢
    clear hk
    by_cases hlt : (k : Int) < n - k
    · go_wp2
      go_round
      case rel => exact ⟨j + 1, by rw [HP.out, ← HK.out]; omega, by rw [HP.out, ← HK.out]; go_num⟩
      case measure => simp [intOf]; omega
    · go_wp2
      go_ret
      refine ⟨ret_int ?_, rfl⟩
      rw [HK.out]
      congr 1
      exact Sg.halfN_of (by rw [← HK.out]; omega) (by rw [← HK.out]; omega)

theorem leafT_size (s : ByteArray) : (Sg.leafT s).size = 1 + s.size := by
  unfold Sg.leafT; rw [ByteArray.size_append]; rfl
theorem nodeT_size (a b : ByteArray) : (Sg.nodeT a b).size = 1 + a.size + b.size := by
  unfold Sg.nodeT; rw [ByteArray.size_append, ByteArray.size_append]; rfl

/-- The box of what sums a text: sum.Of. -/
abbrev fOf : Value := .func (.func 28) #[] #[]
def OfAt (w : World) (g : Nat) : Prop := w.heap[g]? = some (.cells #[fOf] 62 (0, 0))
theorem OfAt.cell {w : World} {g : Nat} (h : OfAt w g) : w.cell? ⟨g, 0, none⟩ = some fOf := by rw [cell_of_row w g 0 _ _ _ h]; rfl
theorem OfAt.below {w w' : World} {g B : Nat} (h : OfAt w g) (hB : g < B) (hb : Below B w w') : OfAt w' g := (hb.block g hB).trans h
theorem OfAt.lt {w : World} {g : Nat} (h : OfAt w g) : g < w.heap.size := lt_of_block h

set_option maxHeartbeats 400000 in
/-- What makes a leaf. -/
theorem leaf_any (s : ByteArray) (g : Nat) (w : World) (hg : OfAt w g) (hs : s.size ≤ 140737488355328) :
    Calls Tryz.prog 108 #[.string s, .pointer (some ⟨g, 0, none⟩)] w fun e w' => e = .returned (.string (Sg.leafB s)) ∧ Below w.heap.size w w' := by
  have hgc := hg.cell
  clear hg
  go_enter Tryz.func108, Tryz.ntmps108
  go_wp2_with fail
  refine (sumOf_any (Sg.leafT s) _ (by rw [leafT_size]; unfold maxLen; omega)).mono ?_
  rintro e w1 ⟨rfl, hb1⟩
  go_wp2_with fail
  go_ret
  exact ⟨rfl, hb1⟩

set_option maxHeartbeats 400000 in
/-- What makes a node. -/
theorem node_any (a b : ByteArray) (g : Nat) (w : World) (hg : OfAt w g) (ha : a.size = 2) (hb : b.size = 2) :
    Calls Tryz.prog 109 #[.string a, .string b, .pointer (some ⟨g, 0, none⟩)] w fun e w' => e = .returned (.string (Sg.nodeB a b)) ∧ Below w.heap.size w w' := by
  have ha' : a.size ≤ 2 := by omega
  have hb' : b.size ≤ 2 := by omega
  clear ha hb
  have hgc := hg.cell
  clear hg
  go_enter Tryz.func109, Tryz.ntmps109
  go_wp2_with fail
  refine (sumOf_any (Sg.nodeT a b) _ (by rw [nodeT_size]; unfold maxLen; omega)).mono ?_
  rintro e w1 ⟨rfl, hb1⟩
  go_wp2_with fail
  go_ret
  exact ⟨rfl, hb1⟩

/-- The cells of a slice of texts. -/
def StrsAt (w : World) (b off : Nat) (ss : List ByteArray) : Prop := ∀ i, i < ss.length → w.cell? ⟨b, off + i, none⟩ = some (.string (ss.getD i ByteArray.empty))
theorem StrsAt.below {w w' : World} {B b off : Nat} {ss : List ByteArray} (h : StrsAt w b off ss) (hb : Below B w w') (hlt : b < B) : StrsAt w' b off ss := fun i hi => by
  rw [hb.cell (p := ⟨b, off + i, none⟩) hlt]; exact h i hi
theorem StrsAt.take {w : World} {b off : Nat} {ss : List ByteArray} (h : StrsAt w b off ss) (k : Nat) : StrsAt w b off (ss.take k) := fun i hi => by
  have hi' : i < k ∧ i < ss.length := by simp at hi; omega
  rw [h i hi'.2]
  simp [List.getD, hi'.1]
theorem StrsAt.drop {w : World} {b off : Nat} {ss : List ByteArray} (h : StrsAt w b off ss) (k : Nat) : StrsAt w b (off + k) (ss.drop k) := fun i hi => by
  have hi' : k + i < ss.length := by simp at hi; omega
  have := h (k + i) hi'
  rw [← Nat.add_assoc] at this
  rw [this]
  simp [List.getD]

end Go.Proofs.YtpkkhkkkgjhkeabGreat

/-
  THE WALKS of signetref.path, signetref.Path (P4).
-/
namespace Go.Proofs.YtpkkhkkkgjhkeabGreat
open Go.RowKit
set_option maxRecDepth 100000

theorem Tryz.infoStr : (Tryz.prog.info? 9).map (fun i => (i.zero, i.size, i.bytes)) = some (some (.string ByteArray.empty), 1, 16) := by kernel_rfl

theorem ownsRow_below {w w' : World} {base : Nat} {e : TypeId} {size : Nat} {v : Value} {n : Nat} {xs : List Value} (h : w.ownsRow base e size v n xs) (hb : Below w.heap.size w w') : w'.ownsRow base e size v n xs := by
  obtain ⟨h1, h2⟩ := h
  refine ⟨h1, ?_⟩
  rcases h2 with h2 | ⟨g, cap, cur, hv, hg, hh, r⟩
  · exact Or.inl h2
  · exact Or.inr ⟨g, cap, cur, hv, hg, by rw [hb.block g (lt_of_block hh)]; exact hh, r⟩
theorem ownsRow_base {w : World} {base base' : Nat} {e : TypeId} {size : Nat} {v : Value} {n : Nat} {xs : List Value} (h : w.ownsRow base e size v n xs) (hb : base' ≤ base) : w.ownsRow base' e size v n xs := by
  obtain ⟨h1, h2⟩ := h
  refine ⟨h1, ?_⟩
  rcases h2 with h2 | ⟨g, cap, cur, hv, hg, r⟩
  · exact Or.inl h2
  · exact Or.inr ⟨g, cap, cur, hv, Nat.le_trans hb hg, r⟩

/-- A list of texts that is the call's own. -/
def OwnStrs (w : World) (base : Nat) (v : Value) (ss : List ByteArray) : Prop := w.ownsRow base 9 1 v ss.length (ss.map Value.string)
theorem OwnStrs.below {w w' : World} {base : Nat} {v : Value} {ss : List ByteArray} (h : OwnStrs w base v ss) (hb : Below w.heap.size w w') : OwnStrs w' base v ss := ownsRow_below h hb
theorem OwnStrs.base {w : World} {base base' : Nat} {v : Value} {ss : List ByteArray} (h : OwnStrs w base v ss) (hb : base' ≤ base) : OwnStrs w base' v ss := ownsRow_base h hb
theorem OwnStrs.push {w : World} {base : Nat} {v : Value} {ss : List ByteArray} {x : ByteArray} (h : w.ownsRow base 9 1 v (ss.length + 1) (ss.map Value.string ++ [.string x])) : OwnStrs w base v (ss ++ [x]) := by
  unfold OwnStrs
  simpa using h

end Go.Proofs.YtpkkhkkkgjhkeabGreat

/-
  PLAIN MATHEMATICS: the texts that are summed for a root, in their order (P4, P11, P12).
-/
namespace Go.Proofs.YtpkkhkkkgjhkeabGreat.Sg

/-- The texts that are summed for a root, with fuel. -/
def rootTsF : Nat → List Txt → List Txt
  | 0, _ => []
  | f + 1, l => if l.length = 0 then [] else if l.length = 1 then [leafT (l.getD 0 ByteArray.empty)] else
      rootTsF f (l.take (halfN l.length)) ++ rootTsF f (l.drop (halfN l.length)) ++ [nodeT (root (l.take (halfN l.length))) (root (l.drop (halfN l.length)))]
theorem rootTsF_fuel : ∀ (f g : Nat) (l : List Txt), l.length ≤ f → l.length ≤ g → rootTsF f l = rootTsF g l
  | 0, 0, _, _, _ => rfl
  | 0, g + 1, l, h, _ => by simp only [rootTsF]; rw [if_pos (by omega)]
  | f + 1, 0, l, _, h => by simp only [rootTsF]; rw [if_pos (by omega)]
  | f + 1, g + 1, l, hf, hg => by
    simp only [rootTsF]
    by_cases h0 : l.length = 0
    · rw [if_pos h0, if_pos h0]
    by_cases h1 : l.length = 1
    · rw [if_neg h0, if_pos h1, if_neg h0, if_pos h1]
    have a := halfN_lt (n := l.length) (by omega)
    have b := halfN_pos l.length
    rw [if_neg h0, if_neg h1, if_neg h0, if_neg h1, rootTsF_fuel f g (l.take _) (by simp; omega) (by simp; omega), rootTsF_fuel f g (l.drop _) (by simp; omega) (by simp; omega)]
def rootTs (l : List Txt) : List Txt := rootTsF l.length l
theorem rootTs_one {l : List Txt} (h : l.length = 1) : rootTs l = [leafT (l.getD 0 ByteArray.empty)] := by
  unfold rootTs; rw [h]; simp only [rootTsF]; rw [if_neg (by omega), if_pos h]
theorem rootTs_more {l : List Txt} (h : 2 ≤ l.length) : rootTs l = rootTs (l.take (halfN l.length)) ++ rootTs (l.drop (halfN l.length)) ++ [nodeT (root (l.take (halfN l.length))) (root (l.drop (halfN l.length)))] := by
  have a := halfN_lt h
  have b := halfN_pos l.length
  obtain ⟨n, hn⟩ : ∃ n, l.length = n + 1 := ⟨l.length - 1, by omega⟩
  have e : rootTs l = rootTsF (n + 1) l := by unfold rootTs; rw [hn]
  rw [e]
  simp only [rootTsF]
  rw [if_neg (by omega), if_neg (by omega)]
  unfold rootTs
  rw [rootTsF_fuel n _ (l.take _) (by simp; omega) (Nat.le_refl _), rootTsF_fuel n _ (l.drop _) (by simp; omega) (Nat.le_refl _)]
theorem rootTs_length : ∀ (m : Nat) (l : List Txt), l.length ≤ m → 1 ≤ l.length → (rootTs l).length = 2 * l.length - 1
  | 0, l, h, h1 => by omega
  | m + 1, l, h, h1 => by
    by_cases hh : l.length = 1
    · rw [rootTs_one hh, hh]; rfl
    · have a := halfN_lt (n := l.length) (by omega)
      have b := halfN_pos l.length
      rw [rootTs_more (by omega), List.length_append, List.length_append, rootTs_length m (l.take _) (by simp; omega) (by simp; omega), rootTs_length m (l.drop _) (by simp; omega) (by simp; omega)]
      simp
      omega
/-- The texts that are summed for a root to which a leaf and its path lead, with fuel. -/
def climbTsF (leaf : Txt) : Nat → Nat → Nat → List Txt → List Txt
  | 0, _, _, _ => [leafT leaf]
  | f + 1, i, n, p => if n ≤ 1 then [leafT leaf] else if i < halfN n then climbTsF leaf f i (halfN n) p.dropLast ++ [nodeT (climb leaf i (halfN n) p.dropLast) (p.getLastD ByteArray.empty)] else
      climbTsF leaf f (i - halfN n) (n - halfN n) p.dropLast ++ [nodeT (p.getLastD ByteArray.empty) (climb leaf (i - halfN n) (n - halfN n) p.dropLast)]
theorem climbTsF_fuel (leaf : Txt) : ∀ (f g i n : Nat) (p : List Txt), n ≤ f → n ≤ g → climbTsF leaf f i n p = climbTsF leaf g i n p
  | 0, 0, _, _, _, _, _ => rfl
  | 0, g + 1, i, n, p, h, _ => by simp only [climbTsF]; rw [if_pos (by omega)]
  | f + 1, 0, i, n, p, _, h => by simp only [climbTsF]; rw [if_pos (by omega)]
  | f + 1, g + 1, i, n, p, hf, hg => by
    simp only [climbTsF]
    by_cases h1 : n ≤ 1
    · rw [if_pos h1, if_pos h1]
    have a := halfN_lt (n := n) (by omega)
    have b := halfN_pos n
    rw [if_neg h1, if_neg h1, climbTsF_fuel leaf f g i _ _ (by omega) (by omega), climbTsF_fuel leaf f g _ (n - halfN n) _ (by omega) (by omega)]
def climbTs (leaf : Txt) (i n : Nat) (p : List Txt) : List Txt := climbTsF leaf n i n p
theorem climbTs_one (leaf : Txt) {i n : Nat} (h : n ≤ 1) (p : List Txt) : climbTs leaf i n p = [leafT leaf] := by
  unfold climbTs
  match n, h with
  | 0, _ => rfl
  | 1, _ => rfl
theorem climbTs_unfold (leaf : Txt) {i n : Nat} (h : 2 ≤ n) (p : List Txt) : climbTs leaf i n p = if i < halfN n then climbTs leaf i (halfN n) p.dropLast ++ [nodeT (climb leaf i (halfN n) p.dropLast) (p.getLastD ByteArray.empty)] else
      climbTs leaf (i - halfN n) (n - halfN n) p.dropLast ++ [nodeT (p.getLastD ByteArray.empty) (climb leaf (i - halfN n) (n - halfN n) p.dropLast)] := by
  have a := halfN_lt h
  have b := halfN_pos n
  obtain ⟨m, rfl⟩ : ∃ m, n = m + 1 := ⟨n - 1, by omega⟩
  unfold climbTs
  simp only [climbTsF]
  rw [if_neg (by omega), climbTsF_fuel leaf m _ i _ _ (by omega) (Nat.le_refl _), climbTsF_fuel leaf m _ _ (m + 1 - halfN (m + 1)) _ (by omega) (Nat.le_refl _)]
theorem climbTs_left (leaf : Txt) {i n : Nat} (h : 2 ≤ n) (hi : i < halfN n) (p : List Txt) (x : Txt) : climbTs leaf i n (p ++ [x]) = climbTs leaf i (halfN n) p ++ [nodeT (climb leaf i (halfN n) p) x] := by
  rw [climbTs_unfold leaf h, if_pos hi]; simp
theorem climbTs_right (leaf : Txt) {i n : Nat} (h : 2 ≤ n) (hi : ¬ i < halfN n) (p : List Txt) (x : Txt) : climbTs leaf i n (p ++ [x]) = climbTs leaf (i - halfN n) (n - halfN n) p ++ [nodeT x (climb leaf (i - halfN n) (n - halfN n) p)] := by
  rw [climbTs_unfold leaf h, if_neg hi]; simp
end Go.Proofs.YtpkkhkkkgjhkeabGreat.Sg

/-
  THE WALKS of sum.Trees, Builder.Root, seal.Root (P4).
-/
namespace Go.Proofs.YtpkkhkkkgjhkeabGreat
open Go.RowKit
set_option maxRecDepth 100000
attribute [local go_sem ↓] Go.wp_at_zero Go.wp_at_succ

/-- The builder's two functions: they know where what sums a text lies. -/
abbrev fLeaf (g : Nat) : Value := .func (.func 108) #[] #[.pointer (some ⟨g, 0, none⟩)]
abbrev fNode (g : Nat) : Value := .func (.func 109) #[] #[.pointer (some ⟨g, 0, none⟩)]

set_option maxHeartbeats 400000 in
/-- sum.treesBy, over sum.Of. -/
theorem treesBy_any (k : Nat) (fv : Array Value) (w : World) :
    Calls Tryz.prog 77 #[.func (.func k) #[] fv] w fun e w' => ∃ g, e = .returned (.agg #[fLeaf g, fNode g]) ∧ g = w.heap.size ∧ w'.heap[g]? = some (.cells #[.func (.func k) #[] fv] 62 (0, 0)) ∧ Below w.heap.size w w' := by
  go_enter Tryz.func77, Tryz.ntmps77
  go_wp2_with fail
  refine bodyPost_ret (v := .agg #[fLeaf w.heap.size, fNode w.heap.size]) (by simp [results, Tryz.results77, go_sem]) rfl ⟨w.heap.size, rfl, rfl, ?_, ?_⟩
  · exact (Below.heap_alloc _ _ _ (by simp)).trans (heap_alloc_new w _)
  · exact ((Below.refl _ _).alloc (Nat.le_refl _) _).alloc (by simp) _
set_option maxHeartbeats 400000 in
/-- sum.Trees. -/
theorem sums_any (w : World) :
    Calls Tryz.prog 41 #[] w fun e w' => ∃ g, e = .returned (.agg #[fLeaf g, fNode g]) ∧ w.heap.size ≤ g ∧ OfAt w' g ∧ Below w.heap.size w w' := by
  have aA : Below w.heap.size w (w.alloc (.cells #[.nilFunc, .nilFunc] 107)) := (Below.refl _ _).alloc (Nat.le_refl _) _
  go_enter Tryz.func41, Tryz.ntmps41
  go_wp2_with fail
  refine (treesBy_any 28 #[] _).mono ?_
  rintro e w1 ⟨g, rfl, hgw, hg, hb⟩
  rw [World.size_alloc] at hgw hb
  have hB : w1.heap[w.heap.size]? = some (.cells #[.nilFunc, .nilFunc] 107 (0, 0)) := (hb.block _ (by omega)).trans (heap_alloc_new w _)
  have c0 : w1.cell? ⟨w.heap.size, 0, none⟩ = some .nilFunc := by rw [cell_of_row w1 _ 0 _ _ _ hB]; rfl
  have c1 : w1.cell? ⟨w.heap.size, 1, none⟩ = some .nilFunc := by rw [cell_of_row w1 _ 1 _ _ _ hB]; rfl
  have f0 : w1.frozen? ⟨w.heap.size, 0, none⟩ = false := by simp [World.frozen?, hB]
  have f1 : w1.frozen? ⟨w.heap.size, 1, none⟩ = false := by simp [World.frozen?, hB]
  have HG : Hid (w.heap.size ≤ g ∧ OfAt ((w1.setCell ⟨w.heap.size, 0, none⟩ (fLeaf g)).setCell ⟨w.heap.size, 1, none⟩ (fNode g)) g ∧ Below w.heap.size w ((w1.setCell ⟨w.heap.size, 0, none⟩ (fLeaf g)).setCell ⟨w.heap.size, 1, none⟩ (fNode g))) := by
    refine ⟨by omega, ?_, ((aA.trans (hb.mono (by omega))).setCell (Nat.le_refl _) _).setCell (Nat.le_refl _) _⟩
    exact (heap_setCell_other _ ⟨w.heap.size, 1, none⟩ g _ (by show g ≠ w.heap.size; omega)).trans ((heap_setCell_other _ ⟨w.heap.size, 0, none⟩ g _ (by show g ≠ w.heap.size; omega)).trans hg)
  clear hgw hg hb hB aA
  go_wp2_with fail
  exact bodyPost_ret (v := .agg #[fLeaf g, fNode g]) (by simp [results, Tryz.results41, go_sem, c0, c1]) rfl ⟨_, rfl, HG.out⟩

/-- What a call keeps: all below B, and builders' boxes. -/
structure Kp (B : Nat) (w w' : World) : Prop where
  size : w.heap.size ≤ w'.heap.size
  low : ∀ i : Nat, i < B → w'.heap[i]? = w.heap[i]?
  box : ∀ (i : Nat) (cs : Array Value), w.heap[i]? = some (Obj.cells cs 107 (0, 0)) → w'.heap[i]? = some (Obj.cells cs 107 (0, 0))
theorem Kp.refl (B : Nat) (w : World) : Kp B w w := ⟨Nat.le_refl _, fun _ _ => rfl, fun _ _ h => h⟩
theorem Kp.trans {B : Nat} {a b c : World} (h : Kp B a b) (k : Kp B b c) : Kp B a c := ⟨Nat.le_trans h.size k.size, fun i hi => (k.low i hi).trans (h.low i hi), fun i cs e => k.box i cs (h.box i cs e)⟩
theorem Kp.of_below {B : Nat} {w w' : World} (hB : B ≤ w.heap.size) (h : Below w.heap.size w w') : Kp B w w' := ⟨h.size, fun i hi => h.block i (by omega), fun i _ e => (h.block i (lt_of_block e)).trans e⟩
theorem StrsAt.kp {w w' : World} {B b off : Nat} {ss : List ByteArray} (h : StrsAt w b off ss) (hk : Kp B w w') (hlt : b < B) : StrsAt w' b off ss := fun i hi => by
  rw [World.cell?_of_block (w := w) (hk.low b hlt)]; exact h i hi
/-- What sums texts, as a builder's functions do: I tells what was summed so far. -/
structure Sums (g B : Nat) (I : List ByteArray → World → Prop) : Prop where
  size : ∀ ts w, I ts w → B ≤ w.heap.size
  alloc : ∀ ts w o, I ts w → I ts (w.alloc o)
  drew : ∀ ts w, I ts w → I ts w.drew
  leaf : ∀ ts x w, I ts w → x.size ≤ 140737488355328 → Calls Tryz.prog 108 #[.string x, .pointer (some ⟨g, 0, none⟩)] w fun e w' => e = .returned (.string (Sg.leafB x)) ∧ I (ts ++ [Sg.leafT x]) w' ∧ Kp B w w'
  node : ∀ ts x y w, I ts w → x.size = 2 → y.size = 2 → Calls Tryz.prog 109 #[.string x, .string y, .pointer (some ⟨g, 0, none⟩)] w fun e w' => e = .returned (.string (Sg.nodeB x y)) ∧ I (ts ++ [Sg.nodeT x y]) w' ∧ Kp B w w'
/-- Plainly: nothing is kept of it. -/
theorem sums_plain {w0 : World} {g : Nat} (h : OfAt w0 g) : Sums g w0.heap.size (fun _ W => Below w0.heap.size w0 W) := by
  have hlt := h.lt
  refine ⟨fun _ w hb => hb.size, fun _ w o hb => hb.alloc hb.size o, fun _ w hb => hb.drew, fun ts x w hb hs => ?_, fun ts x y w hb h1 h2 => ?_⟩
  · refine (leaf_any x g w (h.below hlt hb) hs).mono ?_
    rintro e w' ⟨rfl, hb1⟩
    exact ⟨rfl, hb.trans (hb1.mono hb.size), Kp.of_below hb.size hb1⟩
  · refine (node_any x y g w (h.below hlt hb) h1 h2).mono ?_
    rintro e w' ⟨rfl, hb1⟩
    exact ⟨rfl, hb.trans (hb1.mono hb.size), Kp.of_below hb.size hb1⟩

/-- A builder's box, what was summed so far, what is kept. -/
structure Gs (g B : Nat) (I : List ByteArray → World → Prop) (w : World) (p : Nat) (ts : List ByteArray) (W : World) : Prop where
  box : W.heap[p]? = some (.cells #[fLeaf g, fNode g] 107 (0, 0))
  st : I ts W
  kp : Kp B w W
theorem Gs.cells {g B p : Nat} {I : List ByteArray → World → Prop} {w W : World} {ts : List ByteArray} (h : Gs g B I w p ts W) : W.cell? ⟨p, 0, none⟩ = some (fLeaf g) ∧ W.cell? ⟨p, 1, none⟩ = some (fNode g) :=
  ⟨by rw [cell_of_row W p 0 _ _ _ h.box]; rfl, by rw [cell_of_row W p 1 _ _ _ h.box]; rfl⟩
theorem Gs.drew {g B p : Nat} {I : List ByteArray → World → Prop} (S : Sums g B I) {w W : World} {ts : List ByteArray} (h : Gs g B I w p ts W) : Gs g B I w p ts W.drew := ⟨h.box, S.drew _ _ h.st, h.kp.trans ⟨Nat.le_refl _, fun _ _ => rfl, fun _ _ e => e⟩⟩
theorem Gs.new {g B : Nat} {I : List ByteArray → World → Prop} (S : Sums g B I) {w : World} {ts : List ByteArray} (h : I ts w) : Gs g B I w w.heap.size ts (w.alloc (.cells #[fLeaf g, fNode g] 107)) :=
  ⟨heap_alloc_new w _, S.alloc _ _ _ h, Kp.of_below (S.size _ _ h) ((Below.refl _ _).alloc (Nat.le_refl _) _)⟩
theorem Gs.call {g B p : Nat} {I : List ByteArray → World → Prop} {w W w' : World} {ts ts' : List ByteArray} (h : Gs g B I w p ts W) (hI : I ts' w') (hk : Kp B W w') : Gs g B I w p ts' w' := ⟨hk.box _ _ h.box, hI, h.kp.trans hk⟩
theorem Gs.at_ {g B p b off : Nat} {I : List ByteArray → World → Prop} {w W : World} {ts ss : List ByteArray} (h : Gs g B I w p ts W) (hat : StrsAt w b off ss) (hb : b < B) : StrsAt W b off ss := hat.kp h.kp hb
theorem bx_drew {W : World} {p : Nat} {x y : Value} (h : W.cell? ⟨p, 0, none⟩ = some x ∧ W.cell? ⟨p, 1, none⟩ = some y) : W.drew.cell? ⟨p, 0, none⟩ = some x ∧ W.drew.cell? ⟨p, 1, none⟩ = some y := ⟨by simpa using h.1, by simpa using h.2⟩

set_option maxHeartbeats 800000 in
theorem gRoot_one {g B : Nat} {I : List ByteArray → World → Prop} (S : Sums g B I) (ss : List ByteArray) (b off cap : Nat) (ts : List ByteArray) (w : World) (hn : ss.length = 1) (hsz : ∀ s ∈ ss, s.size ≤ 140737488355328) (hbB : b < B) (hI : I ts w) (hat : StrsAt w b off ss) :
    Calls Tryz.prog 79 #[.agg #[fLeaf g, fNode g], .slice (some ⟨b, off, none⟩) 1 cap] w fun e w' => e = .returned (.string (Sg.root ss)) ∧ I (ts ++ Sg.rootTs ss) w' ∧ Kp B w w' := by
  have HR : Hid (Sg.root ss = Sg.leafB (ss.getD 0 ByteArray.empty) ∧ Sg.rootTs ss = [Sg.leafT (ss.getD 0 ByteArray.empty)]) := ⟨Sg.root_one hn, Sg.rootTs_one hn⟩
  have G0 := Gs.new S hI
  have hc0 : ∀ W, Kp B w W → W.cell? ⟨b, off, none⟩ = some (.string (ss.getD 0 ByteArray.empty)) := fun W hk => (hat.kp hk hbB) 0 (by omega)
  have hs0 : (ss.getD 0 ByteArray.empty).size ≤ 140737488355328 := hsz _ (by
    rw [List.getD_eq_getElem?_getD, List.getElem?_eq_getElem (by omega)]; simp)
  obtain ⟨x, hx⟩ : ∃ x, x = ss.getD 0 ByteArray.empty := ⟨_, rfl⟩
  rw [← hx] at hc0 hs0 HR
  clear hx hat hsz hn
  have hcA := hc0 _ G0.kp
  have hcD := hc0 _ (G0.drew S).kp
  go_enter Tryz.func79, Tryz.ntmps79
  go_wp2_with fail
  go_region_held3 (fun w' => w'.cell? ⟨w.heap.size, 0, none⟩ = some (fLeaf g) ∧ w'.cell? ⟨b, off, none⟩ = some (.string x)) (first | assumption | exact ⟨G0.cells.1, hcA⟩ | exact ⟨(G0.drew S).cells.1, hcD⟩)
    (first | (go_at_call 108; refine (S.leaf ts x _ (by first | exact G0.st | exact (G0.drew S).st) hs0).mono ?_; rintro e w1 ⟨rfl, hI1, hk1⟩; have G1 : Gs g B I w w.heap.size (ts ++ [Sg.leafT x]) w1 := (by first | exact G0.call hI1 hk1 | exact (G0.drew S).call hI1 hk1); have hh1 : w1.cell? ⟨w.heap.size, 0, none⟩ = some (fLeaf g) ∧ w1.cell? ⟨b, off, none⟩ = some (.string x) := ⟨G1.cells.1, hc0 _ G1.kp⟩))
  go_wp2_with fail
  go_ret
  exact ⟨ret_str HR.out.1.symm, by rw [HR.out.2]; exact G1.st, G1.kp⟩

/-- Builder.Root of one leaf or more, up to m. -/
def GRootUpto (g B : Nat) (I : List ByteArray → World → Prop) (m : Nat) : Prop := ∀ (ss : List ByteArray) (n b off cap : Nat) (ts : List ByteArray) (w : World), ss.length = n → n ≤ m → 1 ≤ n → n ≤ cap → (cap ≤ 9223372036854775807 ∧ n ≤ 1152921504606846976) → (∀ s ∈ ss, s.size ≤ 140737488355328) →
    b < B → I ts w → StrsAt w b off ss →
    Calls Tryz.prog 79 #[.agg #[fLeaf g, fNode g], .slice (some ⟨b, off, none⟩) n cap] w fun e w' => e = .returned (.string (Sg.root ss)) ∧ I (ts ++ Sg.rootTs ss) w' ∧ Kp B w w'

set_option maxHeartbeats 1600000 in
theorem gRoot_more {g B : Nat} {I : List ByteArray → World → Prop} (S : Sums g B I) {m : Nat} (ih : GRootUpto g B I m) (ss : List ByteArray) (n b off cap : Nat) (ts : List ByteArray) (w : World) (hn : ss.length = n) (hm : n ≤ m + 1) (h2 : 2 ≤ n) (hlc : n ≤ cap) (hcap0 : cap ≤ 9223372036854775807 ∧ n ≤ 1152921504606846976) (hsz : ∀ s ∈ ss, s.size ≤ 140737488355328)
    (hbB : b < B) (hI : I ts w) (hat : StrsAt w b off ss) :
    Calls Tryz.prog 79 #[.agg #[fLeaf g, fNode g], .slice (some ⟨b, off, none⟩) n cap] w fun e w' => e = .returned (.string (Sg.root ss)) ∧ I (ts ++ Sg.rootTs ss) w' ∧ Kp B w w' := by
  obtain ⟨hcap, hn60⟩ := hcap0
  have HR : Hid (Sg.root ss = Sg.nodeB (Sg.root (ss.take (Sg.halfN n))) (Sg.root (ss.drop (Sg.halfN n))) ∧ Sg.rootTs ss = Sg.rootTs (ss.take (Sg.halfN n)) ++ Sg.rootTs (ss.drop (Sg.halfN n)) ++ [Sg.nodeT (Sg.root (ss.take (Sg.halfN n))) (Sg.root (ss.drop (Sg.halfN n)))]) := by
    have e1 := Sg.root_more (l := ss) (by omega); have e2 := Sg.rootTs_more (l := ss) (by omega); rw [hn] at e1 e2; exact ⟨e1, e2⟩
  have hlt := Sg.halfN_lt h2
  have hpos := Sg.halfN_pos n
  obtain ⟨k, hk⟩ : ∃ k, k = Sg.halfN n := ⟨_, rfl⟩
  rw [← hk] at HR hlt hpos
  have HK : Hid (k = Sg.halfN n) := hk
  clear hk
  have hlt' : k < n := hlt
  have hl1 : ss.length = n := hn
  have HT : Hid ((ss.take k).length = k) := by show _ = _; rw [List.length_take, hl1]; omega
  have HD : Hid ((ss.drop k).length = n - k) := by show _ = _; rw [List.length_drop, hl1]
  clear hn hl1
  have h1 : ((n : Int) == 1) = false := by simp; omega
  have i1 : (0 : Int) ≤ (k : Int) := by omega
  have i2 : (k : Int) ≤ (n : Int) := by omega
  have i3 : (k : Int) ≤ (cap : Int) := by omega
  have i4 : (n : Int) ≤ (cap : Int) := by omega
  have s1 := Sg.root_size (ss.take k)
  have s2 := Sg.root_size (ss.drop k)
  have G0 := Gs.new S hI
  have hcall1 := fun W (hIW : I ts W) (hatW : StrsAt W b off ss) => ih (ss.take k) k b off cap ts W HT.out (by omega) (by omega) (by omega) (by omega) (fun s hs => hsz s (List.mem_of_mem_take hs)) hbB hIW (hatW.take k)
  have hcall2 := fun W (hIW : I (ts ++ Sg.rootTs (ss.take k)) W) (hatW : StrsAt W b off ss) => ih (ss.drop k) (n - k) b (off + k) (cap - k) _ W HD.out (by omega) (by omega) (by omega) (by omega) (fun s hs => hsz s (List.mem_of_mem_drop hs)) hbB hIW (hatW.drop k)
  have hN := fun W hIW => S.node (ts ++ Sg.rootTs (ss.take k) ++ Sg.rootTs (ss.drop k)) (Sg.root (ss.take k)) (Sg.root (ss.drop k)) W hIW s1 s2
  generalize Sg.root (ss.take k) = r1 at *
  generalize Sg.root (ss.drop k) = r2 at *
  generalize Sg.rootTs (ss.take k) = t1 at *
  generalize Sg.rootTs (ss.drop k) = t2 at *
  clear ih hsz HT HD
  go_enter Tryz.func79, Tryz.ntmps79
  go_wp2_with fail
  refine (split_any (n : Int) _ (by omega) (by omega)).mono ?_
  rintro e w1 ⟨rfl, rfl⟩
  rw [Int.toNat_natCast, ← HK.out]
  go_wp2_with fail
  go_region_held3 (fun w' => w'.cell? ⟨w.heap.size, 0, none⟩ = some (fLeaf g) ∧ w'.cell? ⟨w.heap.size, 1, none⟩ = some (fNode g)) (first | assumption | exact G0.cells | exact bx_drew G0.cells | exact bx_drew (x := fLeaf g) (y := fNode g) (by assumption))
    (first
      | (go_at_call_of 79 (Value.slice (some ⟨b, off, none⟩) k cap); refine (hcall1 _ (by first | exact G0.st | exact (G0.drew S).st) (by first | exact G0.at_ hat hbB | exact (G0.drew S).at_ hat hbB)).mono ?_; rintro e w2 ⟨rfl, hI2, hk2⟩; have G2 : Gs g B I w w.heap.size (ts ++ t1) w2 := (by first | exact G0.call hI2 hk2 | exact (G0.drew S).call hI2 hk2); have hh2 := G2.cells)
      | (go_at_call_of 79 (Value.slice (some ⟨b, off + k, none⟩) (n - k) (cap - k)); refine (hcall2 _ (by first | exact G2.st | exact (G2.drew S).st) (by first | exact G2.at_ hat hbB | exact (G2.drew S).at_ hat hbB)).mono ?_; rintro e w3 ⟨rfl, hI3, hk3⟩; have G3 : Gs g B I w w.heap.size (ts ++ t1 ++ t2) w3 := (by first | exact G2.call hI3 hk3 | exact (G2.drew S).call hI3 hk3); have hh3 := G3.cells)
      | (go_at_call 109; refine (hN _ (by first | exact G3.st | exact (G3.drew S).st)).mono ?_; rintro e w4 ⟨rfl, hI4, hk4⟩; have G4 : Gs g B I w w.heap.size (ts ++ t1 ++ t2 ++ [Sg.nodeT r1 r2]) w4 := (by first | exact G3.call hI4 hk4 | exact (G3.drew S).call hI4 hk4); have hh4 := G4.cells))
  go_wp2_with fail
  go_ret
  refine ⟨ret_str HR.out.1.symm, ?_, G4.kp⟩
  rw [HR.out.2, ← List.append_assoc, ← List.append_assoc]
  exact G4.st

theorem gRoot_upto {g B : Nat} {I : List ByteArray → World → Prop} (S : Sums g B I) : ∀ m, GRootUpto g B I m := by
  intro m
  induction m with
  | zero => intro ss n b off cap ts w _ hm h1; omega
  | succ m ih =>
    intro ss n b off cap ts w hn hm h1 hlc hcap hsz hbw hI hat
    by_cases hone : n = 1
    · subst hone; exact gRoot_one S ss b off cap ts w hn hsz hbw hI hat
    · exact gRoot_more S ih ss n b off cap ts w hn hm (by omega) hlc hcap hsz hbw hI hat
/-- Builder.Root, where nothing is kept of what is summed. -/
theorem bRoot_upto (m : Nat) (g : Nat) (ss : List ByteArray) (n b off cap : Nat) (w : World) (hn : ss.length = n) (hm : n ≤ m) (h1 : 1 ≤ n) (hlc : n ≤ cap) (hcap : cap ≤ 9223372036854775807 ∧ n ≤ 1152921504606846976) (hsz : ∀ s ∈ ss, s.size ≤ 140737488355328) (hg : OfAt w g) (hbw : b < w.heap.size) (hat : StrsAt w b off ss) :
    Calls Tryz.prog 79 #[.agg #[fLeaf g, fNode g], .slice (some ⟨b, off, none⟩) n cap] w fun e w' => e = .returned (.string (Sg.root ss)) ∧ Below w.heap.size w w' := by
  refine (gRoot_upto (sums_plain hg) m ss n b off cap [] w hn hm h1 hlc hcap hsz hbw (Below.refl _ _) hat).mono ?_
  rintro e w' ⟨rfl, hb, _⟩
  exact ⟨rfl, hb⟩

set_option maxHeartbeats 400000 in
theorem sumRoot_none (ao : Option Addr) (cap : Nat) (w : World) :
    Calls Tryz.prog 65 #[.slice ao 0 cap] w fun e w' => e = .returned (.string (Sg.sumB ByteArray.empty)) ∧ Below w.heap.size w w' := by
  go_enter Tryz.func65, Tryz.ntmps65
  go_wp2_with fail
  refine (sumOf_any ByteArray.empty _ (by decide)).mono ?_
  rintro e w1 ⟨rfl, hb1⟩
  go_wp2_with fail
  go_ret
  exact ⟨rfl, hb1⟩

set_option maxHeartbeats 400000 in
theorem sumRoot_some (ss : List ByteArray) (n b off cap : Nat) (w : World) (hn : ss.length = n) (h1 : 1 ≤ n) (hlc : n ≤ cap) (hcap : cap ≤ 9223372036854775807 ∧ n ≤ 1152921504606846976) (hsz : ∀ s ∈ ss, s.size ≤ 140737488355328)
    (hbw : b < w.heap.size) (hat : StrsAt w b off ss) :
    Calls Tryz.prog 65 #[.slice (some ⟨b, off, none⟩) n cap] w fun e w' => e = .returned (.string (Sg.root ss)) ∧ Below w.heap.size w w' := by
  have h0 : ((n : Int) == 0) = false := by simp; omega
  go_enter Tryz.func65, Tryz.ntmps65
  go_wp2_with fail
  refine (sums_any _).mono ?_
  rintro e w1 ⟨g, rfl, hgw, hg, hb1⟩
  clear hgw
  go_wp2_with fail
  refine (bRoot_upto n g ss n b off cap _ hn (Nat.le_refl _) h1 hlc hcap hsz hg (Nat.lt_of_lt_of_le hbw hb1.size) (hat.below hb1 hbw)).mono ?_
  rintro e w2 ⟨rfl, hb2⟩
  go_wp2_with fail
  go_ret
  exact ⟨rfl, hb1.trans (hb2.mono hb1.size)⟩

end Go.Proofs.YtpkkhkkkgjhkeabGreat
