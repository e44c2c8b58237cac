/-
  PLAIN MATHEMATICS OF signet: trees (P4).
-/
import Derived.Test.YtoadiibfmcjgaaaMath
namespace Go.Proofs.Ytoadiibfmcjgaaa.Sg

/-- The greatest power of two below n (2 and more). -/
def halfN (n : Nat) : Nat := 2 ^ (n - 1).log2
theorem halfN_of {n j : Nat} (h1 : 2 ^ j < n) (h2 : n ≤ 2 * 2 ^ j) : 2 ^ j = halfN n := by
  unfold halfN
  have : (n - 1).log2 = j := (Nat.log2_eq_iff (by have := Nat.two_pow_pos j; omega)).2 ⟨by omega, by rw [Nat.pow_succ]; omega⟩
  rw [this]
theorem halfN_lt {n : Nat} (h : 2 ≤ n) : halfN n < n := by
  unfold halfN
  have := Nat.log2_self_le (n := n - 1) (by omega)
  omega
theorem halfN_pos (n : Nat) : 1 ≤ halfN n := Nat.two_pow_pos _
theorem halfN_ge {n : Nat} (h : 2 ≤ n) : n ≤ 2 * halfN n := by
  unfold halfN
  have := Nat.lt_log2_self (n := n - 1)
  rw [Nat.pow_succ] at this
  omega

abbrev Txt := ByteArray
/-- What a leaf is summed over, and a node. -/
def leafT (s : Txt) : Txt := ({ data := #[0] } : ByteArray) ++ s
def nodeT (a b : Txt) : Txt := ({ data := #[1] } : ByteArray) ++ a ++ b
def leafB (s : Txt) : Txt := sumB (leafT s)
def nodeB (a b : Txt) : Txt := sumB (nodeT a b)
theorem leafB_size (s : Txt) : (leafB s).size = 2 := rfl
theorem nodeB_size (a b : Txt) : (nodeB a b).size = 2 := rfl

/-- Root, with fuel. -/
def rootF : Nat → List Txt → Txt
  | 0, _ => sumB ByteArray.empty
  | f + 1, l => if l.length = 0 then sumB ByteArray.empty else if l.length = 1 then leafB (l.getD 0 ByteArray.empty) else
      nodeB (rootF f (l.take (halfN l.length))) (rootF f (l.drop (halfN l.length)))
theorem rootF_fuel : ∀ (f g : Nat) (l : List Txt), l.length ≤ f → l.length ≤ g → rootF f l = rootF g l
  | 0, 0, _, _, _ => rfl
  | 0, g + 1, l, h, _ => by simp only [rootF]; rw [if_pos (by omega)]
  | f + 1, 0, l, _, h => by simp only [rootF]; rw [if_pos (by omega)]
  | f + 1, g + 1, l, hf, hg => by
    simp only [rootF]
    by_cases h0 : l.length = 0
    · rw [if_pos h0, if_pos h0]
    by_cases h1 : l.length = 1
    · rw [if_neg h0, if_pos h1, if_neg h0, if_pos h1]
    have a := halfN_lt (n := l.length) (by omega)
    have b := halfN_pos l.length
    rw [if_neg h0, if_neg h1, if_neg h0, if_neg h1, rootF_fuel f g (l.take _) (by simp; omega) (by simp; omega), rootF_fuel f g (l.drop _) (by simp; omega) (by simp; omega)]
/-- Root (P4). -/
def root (l : List Txt) : Txt := rootF l.length l
theorem root_none {l : List Txt} (h : l.length = 0) : root l = sumB ByteArray.empty := by
  unfold root; rw [h]; rfl
theorem root_one {l : List Txt} (h : l.length = 1) : root l = leafB (l.getD 0 ByteArray.empty) := by
  unfold root; rw [h]; simp only [rootF]; rw [if_neg (by omega), if_pos h]
theorem root_more {l : List Txt} (h : 2 ≤ l.length) : root l = nodeB (root (l.take (halfN l.length))) (root (l.drop (halfN l.length))) := by
  have a := halfN_lt h
  have b := halfN_pos l.length
  obtain ⟨n, hn⟩ : ∃ n, l.length = n + 1 := ⟨l.length - 1, by omega⟩
  have e : root l = rootF (n + 1) l := by unfold root; rw [hn]
  rw [e]
  simp only [rootF]
  rw [if_neg (by omega), if_neg (by omega)]
  unfold root
  rw [rootF_fuel n _ (l.take _) (by simp; omega) (Nat.le_refl _), rootF_fuel n _ (l.drop _) (by simp; omega) (Nat.le_refl _)]
theorem root_size (l : List Txt) : (root l).size = 2 := by
  by_cases h0 : l.length = 0
  · rw [root_none h0]; rfl
  by_cases h1 : l.length = 1
  · rw [root_one h1]; rfl
  rw [root_more (by omega)]; rfl

/-- Path, with fuel. -/
def pathF : Nat → List Txt → Nat → List Txt
  | 0, _, _ => []
  | f + 1, l, at_ => if l.length ≤ 1 then [] else if at_ < halfN l.length then pathF f (l.take (halfN l.length)) at_ ++ [root (l.drop (halfN l.length))] else
      pathF f (l.drop (halfN l.length)) (at_ - halfN l.length) ++ [root (l.take (halfN l.length))]
theorem pathF_fuel : ∀ (f g : Nat) (l : List Txt) (i : Nat), l.length ≤ f → l.length ≤ g → pathF f l i = pathF g l i
  | 0, 0, _, _, _, _ => rfl
  | 0, g + 1, l, _, h, _ => by simp only [pathF]; rw [if_pos (by omega)]
  | f + 1, 0, l, _, _, h => by simp only [pathF]; rw [if_pos (by omega)]
  | f + 1, g + 1, l, i, hf, hg => by
    simp only [pathF]
    by_cases h1 : l.length ≤ 1
    · rw [if_pos h1, if_pos h1]
    have a := halfN_lt (n := l.length) (by omega)
    have b := halfN_pos l.length
    rw [if_neg h1, if_neg h1, pathF_fuel f g (l.take _) i (by simp; omega) (by simp; omega), pathF_fuel f g (l.drop _) _ (by simp; omega) (by simp; omega)]
/-- Path (P4), of a leaf that is there. -/
def path (l : List Txt) (i : Nat) : List Txt := pathF l.length l i
theorem path_one {l : List Txt} (h : l.length ≤ 1) (i : Nat) : path l i = [] := by
  unfold path
  match hl : l.length, h with
  | 0, _ => rfl
  | 1, _ => simp only [pathF]; rw [if_pos (by omega)]
theorem path_unfold {l : List Txt} (h : 2 ≤ l.length) (i : Nat) : path l i = if i < halfN l.length then path (l.take (halfN l.length)) i ++ [root (l.drop (halfN l.length))] else
    path (l.drop (halfN l.length)) (i - halfN l.length) ++ [root (l.take (halfN l.length))] := by
  have a := halfN_lt h
  have b := halfN_pos l.length
  obtain ⟨n, hn⟩ : ∃ n, l.length = n + 1 := ⟨l.length - 1, by omega⟩
  have e : path l i = pathF (n + 1) l i := by unfold path; rw [hn]
  rw [e]
  simp only [pathF]
  rw [if_neg (by omega)]
  unfold path
  rw [pathF_fuel n _ (l.take _) _ (by simp; omega) (Nat.le_refl _), pathF_fuel n _ (l.drop _) _ (by simp; omega) (Nat.le_refl _)]
theorem path_left {l : List Txt} (h : 2 ≤ l.length) {i : Nat} (hi : i < halfN l.length) : path l i = path (l.take (halfN l.length)) i ++ [root (l.drop (halfN l.length))] := by
  rw [path_unfold h, if_pos hi]
theorem path_right {l : List Txt} (h : 2 ≤ l.length) {i : Nat} (hi : ¬ i < halfN l.length) : path l i = path (l.drop (halfN l.length)) (i - halfN l.length) ++ [root (l.take (halfN l.length))] := by
  rw [path_unfold h, if_neg hi]

/-- How many texts the path of a leaf has, with fuel. -/
def depthF : Nat → Nat → Nat → Nat
  | 0, _, _ => 0
  | f + 1, i, n => if n ≤ 1 then 0 else if i < halfN n then depthF f i (halfN n) + 1 else depthF f (i - halfN n) (n - halfN n) + 1
theorem depthF_fuel : ∀ (f g i n : Nat), n ≤ f → n ≤ g → depthF f i n = depthF g i n
  | 0, 0, _, _, _, _ => rfl
  | 0, g + 1, i, n, h, _ => by simp only [depthF]; rw [if_pos (by omega)]
  | f + 1, 0, i, n, _, h => by simp only [depthF]; rw [if_pos (by omega)]
  | f + 1, g + 1, i, n, hf, hg => by
    simp only [depthF]
    by_cases h1 : n ≤ 1
    · rw [if_pos h1, if_pos h1]
    have a := halfN_lt (n := n) (by omega)
    have b := halfN_pos n
    rw [if_neg h1, if_neg h1, depthF_fuel f g i _ (by omega) (by omega), depthF_fuel f g _ (n - halfN n) (by omega) (by omega)]
def depth (i n : Nat) : Nat := depthF n i n
theorem depth_one {i n : Nat} (h : n ≤ 1) : depth i n = 0 := by
  unfold depth
  match n, h with
  | 0, _ => rfl
  | 1, _ => rfl
theorem depth_unfold {i n : Nat} (h : 2 ≤ n) : depth i n = if i < halfN n then depth i (halfN n) + 1 else depth (i - halfN n) (n - halfN n) + 1 := by
  have a := halfN_lt h
  have b := halfN_pos n
  obtain ⟨m, rfl⟩ : ∃ m, n = m + 1 := ⟨n - 1, by omega⟩
  unfold depth
  simp only [depthF]
  rw [if_neg (by omega), depthF_fuel m _ i _ (by omega) (Nat.le_refl _), depthF_fuel m _ _ (m + 1 - halfN (m + 1)) (by omega) (Nat.le_refl _)]
theorem depth_left {i n : Nat} (h : 2 ≤ n) (hi : i < halfN n) : depth i n = depth i (halfN n) + 1 := by rw [depth_unfold h, if_pos hi]
theorem depth_right {i n : Nat} (h : 2 ≤ n) (hi : ¬ i < halfN n) : depth i n = depth (i - halfN n) (n - halfN n) + 1 := by rw [depth_unfold h, if_neg hi]
theorem depth_lt : ∀ (m i n : Nat), n ≤ m → 1 ≤ n → depth i n < n
  | 0, _, _, _, _ => by omega
  | m + 1, i, n, hm, hn => by
    by_cases h1 : n ≤ 1
    · rw [depth_one h1]; omega
    have a := halfN_lt (n := n) (by omega)
    have b := halfN_pos n
    rw [depth_unfold (by omega)]
    have c := depth_lt m i (halfN n) (by omega) b
    have d := depth_lt m (i - halfN n) (n - halfN n) (by omega) (by omega)
    split <;> omega
theorem path_length : ∀ (m : Nat) (l : List Txt) (i : Nat), l.length ≤ m → (path l i).length = depth i l.length
  | 0, l, i, h => by rw [path_one (by omega), depth_one (by omega)]; rfl
  | m + 1, l, i, h => by
    by_cases h1 : l.length ≤ 1
    · rw [path_one h1, depth_one h1]; rfl
    have a := halfN_lt (n := l.length) (by omega)
    have b := halfN_pos l.length
    rw [path_unfold (by omega), depth_unfold (by omega)]
    have c := path_length m (l.take (halfN l.length)) i (by simp; omega)
    have d := path_length m (l.drop (halfN l.length)) (i - halfN l.length) (by simp; omega)
    rw [List.length_take, Nat.min_eq_left (by omega)] at c
    rw [List.length_drop] at d
    split <;> simp [c, d]
theorem path_sizes : ∀ (m : Nat) (l : List Txt) (i : Nat), l.length ≤ m → ∀ s ∈ path l i, s.size = 2
  | 0, l, i, h => by rw [path_one (by omega)]; simp
  | m + 1, l, i, h => by
    by_cases h1 : l.length ≤ 1
    · rw [path_one h1]; simp
    have a := halfN_lt (n := l.length) (by omega)
    have b := halfN_pos l.length
    rw [path_unfold (by omega)]
    have c := path_sizes m (l.take (halfN l.length)) i (by simp; omega)
    have d := path_sizes m (l.drop (halfN l.length)) (i - halfN l.length) (by simp; omega)
    intro s
    split
    · simp only [List.mem_append, List.mem_singleton]
      rintro (hs | rfl)
      · exact c s hs
      · exact root_size _
    · simp only [List.mem_append, List.mem_singleton]
      rintro (hs | rfl)
      · exact d s hs
      · exact root_size _

/-- Climb (P4), with fuel: over a path of the right length. -/
def climbF (leaf : Txt) : Nat → Nat → Nat → List Txt → Txt
  | 0, _, _, _ => leafB leaf
  | f + 1, i, n, p => if n ≤ 1 then leafB leaf else if i < halfN n then nodeB (climbF leaf f i (halfN n) p.dropLast) (p.getLastD ByteArray.empty) else
      nodeB (p.getLastD ByteArray.empty) (climbF leaf f (i - halfN n) (n - halfN n) p.dropLast)
theorem climbF_fuel (leaf : Txt) : ∀ (f g i n : Nat) (p : List Txt), n ≤ f → n ≤ g → climbF leaf f i n p = climbF leaf g i n p
  | 0, 0, _, _, _, _, _ => rfl
  | 0, g + 1, i, n, p, h, _ => by simp only [climbF]; rw [if_pos (by omega)]
  | f + 1, 0, i, n, p, _, h => by simp only [climbF]; rw [if_pos (by omega)]
  | f + 1, g + 1, i, n, p, hf, hg => by
    simp only [climbF]
    by_cases h1 : n ≤ 1
    · rw [if_pos h1, if_pos h1]
    have a := halfN_lt (n := n) (by omega)
    have b := halfN_pos n
    rw [if_neg h1, if_neg h1, climbF_fuel leaf f g i _ _ (by omega) (by omega), climbF_fuel leaf f g _ (n - halfN n) _ (by omega) (by omega)]
def climb (leaf : Txt) (i n : Nat) (p : List Txt) : Txt := climbF leaf n i n p
theorem climb_one (leaf : Txt) {i n : Nat} (h : n ≤ 1) (p : List Txt) : climb leaf i n p = leafB leaf := by
  unfold climb
  match n, h with
  | 0, _ => rfl
  | 1, _ => rfl
theorem climb_unfold (leaf : Txt) {i n : Nat} (h : 2 ≤ n) (p : List Txt) : climb leaf i n p = if i < halfN n then nodeB (climb leaf i (halfN n) p.dropLast) (p.getLastD ByteArray.empty) else
    nodeB (p.getLastD ByteArray.empty) (climb leaf (i - halfN n) (n - halfN n) p.dropLast) := by
  have a := halfN_lt h
  have b := halfN_pos n
  obtain ⟨m, rfl⟩ : ∃ m, n = m + 1 := ⟨n - 1, by omega⟩
  unfold climb
  simp only [climbF]
  rw [if_neg (by omega), climbF_fuel leaf m _ i _ _ (by omega) (Nat.le_refl _), climbF_fuel leaf m _ _ (m + 1 - halfN (m + 1)) _ (by omega) (Nat.le_refl _)]
theorem climb_left (leaf : Txt) {i n : Nat} (h : 2 ≤ n) (hi : i < halfN n) (p : List Txt) (x : Txt) : climb leaf i n (p ++ [x]) = nodeB (climb leaf i (halfN n) p) x := by
  rw [climb_unfold leaf h, if_pos hi]; simp
theorem climb_right (leaf : Txt) {i n : Nat} (h : 2 ≤ n) (hi : ¬ i < halfN n) (p : List Txt) (x : Txt) : climb leaf i n (p ++ [x]) = nodeB x (climb leaf (i - halfN n) (n - halfN n) p) := by
  rw [climb_unfold leaf h, if_neg hi]; simp
theorem climb_size (leaf : Txt) (i n : Nat) (p : List Txt) : (climb leaf i n p).size = 2 := by
  by_cases h : n ≤ 1
  · rw [climb_one leaf h]; rfl
  rw [climb_unfold leaf (by omega)]; split <;> rfl

/-- From each leaf its path leads to the root. -/
theorem climb_path : ∀ (m : Nat) (l : List Txt) (i : Nat), l.length ≤ m → i < l.length → climb (l.getD i ByteArray.empty) i l.length (path l i) = root l
  | 0, l, i, h, hi => by omega
  | m + 1, l, i, h, hi => by
    by_cases h1 : l.length ≤ 1
    · have e : l.length = 1 := by omega
      have e0 : i = 0 := by omega
      subst e0
      rw [climb_one _ h1, root_one e]
    have a := halfN_lt (n := l.length) (by omega)
    have b := halfN_pos l.length
    rw [root_more (by omega)]
    by_cases hlt : i < halfN l.length
    · rw [path_left (by omega) hlt, climb_left _ (by omega) hlt]
      have c := climb_path m (l.take (halfN l.length)) i (by simp; omega) (by simp; omega)
      have e : (l.take (halfN l.length)).getD i ByteArray.empty = l.getD i ByteArray.empty := by
        simp [List.getD, hlt]
      have e2 : (l.take (halfN l.length)).length = halfN l.length := by simp; omega
      rw [e, e2] at c
      rw [c]
    · rw [path_right (by omega) hlt, climb_right _ (by omega) hlt]
      have c := climb_path m (l.drop (halfN l.length)) (i - halfN l.length) (by simp; omega) (by simp; omega)
      have e : (l.drop (halfN l.length)).getD (i - halfN l.length) ByteArray.empty = l.getD i ByteArray.empty := by
        have : halfN l.length + (i - halfN l.length) = i := by omega
        simp [List.getD, List.getElem?_drop, this]
      have e2 : (l.drop (halfN l.length)).length = l.length - halfN l.length := by simp
      rw [e, e2] at c
      rw [c]

/-- What two leaves with one sum lead to is one. -/
theorem climb_same {x y : Txt} (h : leafB x = leafB y) : ∀ (m i n : Nat) (p : List Txt), n ≤ m → climb x i n p = climb y i n p
  | 0, i, n, p, hm => by rw [climb_one x (by omega), climb_one y (by omega), h]
  | m + 1, i, n, p, hm => by
    by_cases h1 : n ≤ 1
    · rw [climb_one x h1, climb_one y h1, h]
    have a := halfN_lt (n := n) (by omega)
    have b := halfN_pos n
    rw [climb_unfold x (by omega), climb_unfold y (by omega), climb_same h m i _ _ (by omega), climb_same h m _ (n - halfN n) _ (by omega)]
end Go.Proofs.Ytoadiibfmcjgaaa.Sg
