/-
  Root, Path, Climb of anything, both of each (P4): one contract a call.
-/
import Derived.Test.YtoadiibfmcjgaaaFilled
import Derived.Test.YtoadiibfmcjgaaaRclimb
namespace Go.Proofs.Ytoadiibfmcjgaaa
open Go.RowKit
set_option maxRecDepth 100000

/-- A slice of texts that is handed in, with what the walks ask of its size. -/
structure Lst (w : World) (ao : Option Addr) (n cap : Nat) (ss : List ByteArray) : Prop where
  len : ss.length = n
  fits : n ≤ cap
  small : cap ≤ 8796093022100
  sizes : ∀ s ∈ ss, s.size ≤ 140737488351232
  at_ : StrsIn w ao ss
theorem Lst.below {w w' : World} {ao : Option Addr} {n cap : Nat} {ss : List ByteArray} (h : Lst w ao n cap ss) (hb : Below w.heap.size w w') : Lst w' ao n cap ss := ⟨h.len, h.fits, h.small, h.sizes, h.at_.below hb⟩
theorem Lst.sizes' {w : World} {ao : Option Addr} {n cap : Nat} {ss : List ByteArray} (h : Lst w ao n cap ss) : ∀ s ∈ ss, s.size ≤ 140737488355328 := fun s hs => by have := h.sizes s hs; omega
theorem Lst.some_ {w : World} {ao : Option Addr} {n cap : Nat} {ss : List ByteArray} (h : Lst w ao n cap ss) (hn : 1 ≤ n) : ∃ b off, ao = some ⟨b, off, none⟩ ∧ b < w.heap.size ∧ StrsAt w b off ss := by
  rcases h.at_ with h0 | h1
  · have := h.len; omega
  · exact h1

theorem sealRoot_any {w : World} {ao : Option Addr} {n cap : Nat} {ss : List ByteArray} (h : Lst w ao n cap ss) :
    Calls Try.prog 14 #[.slice ao n cap] w fun e w' => e = .returned (.string (Sg.root ss)) ∧ Below w.heap.size w w' := by
  by_cases h0 : n = 0
  · subst h0
    rw [Sg.root_none h.len]
    exact sealRoot_none ao cap w
  · obtain ⟨b, off, rfl, hbw, hat⟩ := h.some_ (by omega)
    exact sealRoot_some ss n b off cap w h.len (by omega) h.fits (by have := h.small; have := h.fits; omega) h.sizes' hbw hat
theorem refRoot_any {w : World} {ao : Option Addr} {n cap : Nat} {ss : List ByteArray} (h : Lst w ao n cap ss) :
    Calls Try.prog 15 #[.slice ao n cap] w fun e w' => e = .returned (.string (Sg.root ss)) ∧ Below w.heap.size w w' := by
  by_cases h0 : n = 0
  · subst h0
    rw [Sg.root_none h.len]
    exact refRoot_none ao cap w
  · obtain ⟨b, off, rfl, hbw, hat⟩ := h.some_ (by omega)
    exact refRoot_upto n ss n b off cap w h.len (Nat.le_refl _) (by omega) h.fits (by have := h.small; have := h.fits; omega) h.sizes' hbw hat

/-- What Path answers. -/
def pathErr (n : Nat) (c : Int) : Int := if 0 ≤ c ∧ c < (n : Int) then 0 else 1
def pathList (ss : List ByteArray) (n : Nat) (c : Int) : List ByteArray := if 0 ≤ c ∧ c < (n : Int) then Sg.path ss c.toNat else []
theorem pathList_length {ss : List ByteArray} {n : Nat} {c : Int} (hn : ss.length = n) : (pathList ss n c).length ≤ n := by
  unfold pathList
  split
  · rename_i h
    rw [Sg.path_length n ss _ (by omega), hn]
    have := Sg.depth_lt n c.toNat n (Nat.le_refl _) (by omega)
    omega
  · simp
theorem sealPath_any {w : World} {ao : Option Addr} {n cap : Nat} {ss : List ByteArray} (h : Lst w ao n cap ss) (c : Int) :
    Calls Try.prog 16 #[.slice ao n cap, .int .i64 c] w fun e w' => ∃ v, e = .returned (.tuple #[v, .int .i64 (pathErr n c)]) ∧ OwnStrs w' w.heap.size v (pathList ss n c) ∧ Below w.heap.size w w' := by
  by_cases hc : 0 ≤ c ∧ c < (n : Int)
  · obtain ⟨i, rfl⟩ := Int.eq_ofNat_of_zero_le hc.1
    obtain ⟨b, off, rfl, hbw, hat⟩ := h.some_ (by omega)
    have e1 : pathErr n (i : Int) = 0 := by unfold pathErr; rw [if_pos hc]
    have e2 : pathList ss n (i : Int) = Sg.path ss i := by unfold pathList; rw [if_pos hc, Int.toNat_natCast]
    rw [e1, e2]
    exact sealPath_yes ss n i b off cap w h.len (by omega) h.fits (by have := h.small; have := h.fits; omega) (by have := h.small; omega) h.sizes' hbw hat
  · have e1 : pathErr n c = 1 := by unfold pathErr; rw [if_neg hc]
    have e2 : pathList ss n c = [] := by unfold pathList; rw [if_neg hc]
    rw [e1, e2]
    refine (sealPath_no ao n cap c w (by omega)).mono ?_
    rintro e w' ⟨rfl, rfl⟩
    exact ⟨_, rfl, World.ownsRow_nil _ _ _ _, Below.refl _ _⟩
theorem refPath_any {w : World} {ao : Option Addr} {n cap : Nat} {ss : List ByteArray} (h : Lst w ao n cap ss) (c : Int) :
    Calls Try.prog 17 #[.slice ao n cap, .int .i64 c] w fun e w' => ∃ v, e = .returned (.tuple #[v, .int .i64 (pathErr n c)]) ∧ OwnStrs w' w.heap.size v (pathList ss n c) ∧ Below w.heap.size w w' := by
  by_cases hc : 0 ≤ c ∧ c < (n : Int)
  · obtain ⟨i, rfl⟩ := Int.eq_ofNat_of_zero_le hc.1
    obtain ⟨b, off, rfl, hbw, hat⟩ := h.some_ (by omega)
    have e1 : pathErr n (i : Int) = 0 := by unfold pathErr; rw [if_pos hc]
    have e2 : pathList ss n (i : Int) = Sg.path ss i := by unfold pathList; rw [if_pos hc, Int.toNat_natCast]
    rw [e1, e2]
    exact refPath_yes ss n i b off cap w h.len (by omega) h.fits (by have := h.small; have := h.fits; omega) (by have := h.small; omega) h.sizes' hbw hat
  · have e1 : pathErr n c = 1 := by unfold pathErr; rw [if_neg hc]
    have e2 : pathList ss n c = [] := by unfold pathList; rw [if_neg hc]
    rw [e1, e2]
    refine (refPath_no ao n cap c w (by omega)).mono ?_
    rintro e w' ⟨rfl, rfl⟩
    exact ⟨_, rfl, World.ownsRow_nil _ _ _ _, Below.refl _ _⟩

/-- What Climb answers. -/
def climbOk (c m : Int) (ss : List ByteArray) : Bool := decide (1 ≤ m ∧ m ≤ 4096 ∧ 0 ≤ c ∧ c < m) && okPath c.toNat m.toNat ss
def climbErr (c m : Int) (ss : List ByteArray) : Int := if climbOk c m ss then 0 else 1
def climbStr (leaf : ByteArray) (c m : Int) (ss : List ByteArray) : ByteArray := if climbOk c m ss then Sg.climb leaf c.toNat m.toNat ss else ByteArray.empty
theorem climb_no {leaf : ByteArray} {c m : Int} {ss : List ByteArray} (h : climbOk c m ss = false) : climbErr c m ss = 1 ∧ climbStr leaf c m ss = ByteArray.empty := by
  unfold climbErr climbStr; rw [h]; exact ⟨rfl, rfl⟩
theorem climb_yes {leaf : ByteArray} {c m : Int} {ss : List ByteArray} (h : climbOk c m ss = true) : climbErr c m ss = 0 ∧ climbStr leaf c m ss = Sg.climb leaf c.toNat m.toNat ss := by
  unfold climbErr climbStr; rw [h]; exact ⟨rfl, rfl⟩

theorem sealClimb_any {w : World} {ao : Option Addr} {n cap : Nat} {ss : List ByteArray} (h : Lst w ao n cap ss) (leaf : ByteArray) (hs : leaf.size ≤ 140737488351232) (c m : Int) :
    Calls Try.prog 20 #[.string leaf, .int .i64 c, .int .i64 m, .slice ao n cap] w fun e w' => e = .returned (.tuple #[.string (climbStr leaf c m ss), .int .i64 (climbErr c m ss)]) ∧ Below w.heap.size w w' := by
  by_cases hc : 1 ≤ m ∧ m ≤ 4096 ∧ 0 ≤ c ∧ c < m
  · obtain ⟨i, rfl⟩ := Int.eq_ofNat_of_zero_le hc.2.2.1
    obtain ⟨k, rfl⟩ := Int.eq_ofNat_of_zero_le (a := m) (by omega)
    have e0 : climbOk (i : Int) (k : Int) ss = okPath i k ss := by unfold climbOk; rw [decide_eq_true hc]; simp
    cases hok : okPath i k ss with
    | false =>
      obtain ⟨e1, e2⟩ := climb_no (leaf := leaf) (e0.trans hok)
      rw [e1, e2]
      refine (sealClimb_bad leaf i k ss ao n cap w h.len (by omega) (by omega) (by have := h.small; have := h.fits; omega) h.at_ h.sizes' hok).mono ?_
      rintro e w' ⟨rfl, rfl⟩
      exact ⟨rfl, Below.refl _ _⟩
    | true =>
      obtain ⟨e1, e2⟩ := climb_yes (leaf := leaf) (e0.trans hok)
      rw [e1, e2]
      exact sealClimb_yes leaf i k ss ao n cap w (by omega) h.len (by omega) (by omega) h.fits (by have := h.small; omega) h.at_ h.sizes' hok
  · obtain ⟨e1, e2⟩ := climb_no (leaf := leaf) (c := c) (m := m) (ss := ss) (by unfold climbOk; rw [decide_eq_false hc]; rfl)
    rw [e1, e2]
    refine (sealClimb_no leaf c m ao n cap w (by omega)).mono ?_
    rintro e w' ⟨rfl, rfl⟩
    exact ⟨rfl, Below.refl _ _⟩
theorem refClimb_any {w : World} {ao : Option Addr} {n cap : Nat} {ss : List ByteArray} (h : Lst w ao n cap ss) (leaf : ByteArray) (hs : leaf.size ≤ 140737488351232) (c m : Int) :
    Calls Try.prog 21 #[.string leaf, .int .i64 c, .int .i64 m, .slice ao n cap] w fun e w' => e = .returned (.tuple #[.string (climbStr leaf c m ss), .int .i64 (climbErr c m ss)]) ∧ Below w.heap.size w w' := by
  by_cases hc : 1 ≤ m ∧ m ≤ 4096 ∧ 0 ≤ c ∧ c < m
  · obtain ⟨i, rfl⟩ := Int.eq_ofNat_of_zero_le hc.2.2.1
    obtain ⟨k, rfl⟩ := Int.eq_ofNat_of_zero_le (a := m) (by omega)
    have e0 : climbOk (i : Int) (k : Int) ss = okPath i k ss := by unfold climbOk; rw [decide_eq_true hc]; simp
    have hy := refClimb_yes leaf i k ss ao n cap w (by omega) h.len (by omega) (by omega) h.fits (by have := h.small; omega) h.at_ h.sizes'
    cases hok : okPath i k ss with
    | false =>
      obtain ⟨e1, e2⟩ := climb_no (leaf := leaf) (e0.trans hok)
      rw [e1, e2]
      rw [climbAns_no hok] at hy
      exact hy
    | true =>
      obtain ⟨e1, e2⟩ := climb_yes (leaf := leaf) (e0.trans hok)
      rw [e1, e2]
      rw [climbAns_yes hok] at hy
      exact hy
  · obtain ⟨e1, e2⟩ := climb_no (leaf := leaf) (c := c) (m := m) (ss := ss) (by unfold climbOk; rw [decide_eq_false hc]; rfl)
    rw [e1, e2]
    refine (refClimb_no leaf c m ao n cap w (by omega)).mono ?_
    rintro e w' ⟨rfl, rfl⟩
    exact ⟨rfl, Below.refl _ _⟩

/-- signetlaw.bare. -/
theorem bare_any (g n cap : Nat) (ao : Option Addr) (w : World) (hnil : ao = none → n = 0 ∧ cap = 0) :
    Calls Try.prog 13 #[.slice (some ⟨g, 0, none⟩) n (n + 2), .slice ao n cap] w fun e w' => ∃ aoA capA, e = .returned (.slice aoA n capA) ∧ ((aoA = none ∧ n = 0 ∧ capA = 0) ∨ (aoA = some ⟨g, 0, none⟩ ∧ capA = n + 2)) ∧ w' = w := by
  cases ao with
  | none =>
    obtain ⟨rfl, rfl⟩ := hnil rfl
    refine (bare_nil _ w).mono ?_
    rintro e w' ⟨rfl, rfl⟩
    exact ⟨none, 0, rfl, Or.inl ⟨rfl, rfl, rfl⟩, rfl⟩
  | some a =>
    refine (bare_some _ a n cap w).mono ?_
    rintro e w' ⟨rfl, rfl⟩
    exact ⟨_, _, rfl, Or.inr ⟨rfl, rfl⟩, rfl⟩

/-- A row that texts made. -/
def Row (w : World) (base g n : Nat) (ss : List ByteArray) : Prop := w.ownsRow base 9 1 (.slice (some ⟨g, 0, none⟩) (n + 2) (n + 2)) (n + 2) ((ss ++ [beyondB, beyondB]).map Value.string)
theorem Row.below {w w' : World} {base g n : Nat} {ss : List ByteArray} (h : Row w base g n ss) (hb : Below w.heap.size w w') : Row w' base g n ss := ownsRow_below h hb
/-- What bare hands on is a list that can be handed in. -/
theorem Row.lst {w w' : World} {base g n cap : Nat} {ao aoA : Option Addr} {capA : Nat} {ss : List ByteArray} (h : Row w base g n ss) (hl : Lst w' ao n cap ss) (hs : n ≤ 8796093022000) (hA : (aoA = none ∧ n = 0 ∧ capA = 0) ∨ (aoA = some ⟨g, 0, none⟩ ∧ capA = n + 2)) : Lst w aoA n capA ss := by
  obtain ⟨hg, hat, _, _⟩ := row_in hl.len h
  rcases hA with ⟨rfl, rfl, rfl⟩ | ⟨rfl, rfl⟩
  · exact ⟨hl.len, Nat.le_refl _, by omega, hl.sizes, Or.inl hl.len⟩
  · exact ⟨hl.len, by omega, by omega, hl.sizes, Or.inr ⟨g, 0, rfl, hg, hat⟩⟩

/-- sameTexts of two lists of the calls' own. -/
theorem same_own {w : World} {b1 b2 : Nat} {v1 v2 : Value} {ss : List ByteArray} (h1 : OwnStrs w b1 v1 ss) (h2 : OwnStrs w b2 v2 ss) (hmax : ss.length ≤ 1152921504606846976) :
    Calls Try.prog 18 #[v1, v2] w fun e w' => e = .returned (.bool true) ∧ Below w.heap.size w w' := by
  obtain ⟨ao1, c1, rfl, _, _, hin1⟩ := h1.shape
  obtain ⟨ao2, c2, rfl, _, _, hin2⟩ := h2.shape
  exact same_any ss ao1 ao2 ss.length c1 c2 w rfl hmax hin1 hin2
/-- fill of a list of the call's own. -/
theorem fill_own {w : World} {b : Nat} {v : Value} {ss : List ByteArray} (h : OwnStrs w b v ss) (hmax : ss.length ≤ 8796093022200) (mark : ByteArray) :
    Calls Try.prog 19 #[v, .string mark] w fun e w' => ∃ u, e = .returned u ∧ Filled w' mark ss.length u ∧ w.grownBy w' v.ownBlock := by
  obtain ⟨ao, c, rfl, _, _, _⟩ := h.shape
  exact fill_any ao ss.length c b _ mark w hmax h
theorem OwnStrs.far {w w' w0 : World} {b1 b2 : Nat} {v1 v2 : Value} {ss1 ss2 : List ByteArray} (h1 : OwnStrs w b1 v1 ss1) (h0 : OwnStrs w0 b2 v2 ss2) (hlt : w0.heap.size ≤ b1) (hg : w.grownBy w' v2.ownBlock) : OwnStrs w' b1 v1 ss1 := by
  refine World.ownsRow.kept h1 hg ?_
  cases e : v1.ownBlock with
  | none => exact Or.inl rfl
  | some k =>
    right
    intro e2
    have a := (World.ownsRow.lt h1 k e).1
    have b := (World.ownsRow.lt h0 k e2.symm).2
    omega
end Go.Proofs.Ytoadiibfmcjgaaa
