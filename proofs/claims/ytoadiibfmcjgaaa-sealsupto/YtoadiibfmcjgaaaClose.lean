/-
  WHAT signetref.Close holds on its way.
-/
import Derived.Test.YtoadiibfmcjgaaaEntersWalk
import Derived.Test.YtoadiibfmcjgaaaBoundsWalk
import Derived.Test.YtoadiibfmcjgaaaHeaders
namespace Go.Proofs.Ytoadiibfmcjgaaa
open Go.RowKit
set_option maxRecDepth 100000

theorem Try.infoInt : (Try.prog.info? 3).map (fun i => (i.zero, i.size, i.bytes)) = some (some (.int .i64 0), 1, 8) := by kernel_rfl
theorem Try.infoInts : (Try.prog.info? 132).map (fun i => (i.zero, i.size, i.bytes)) = some (some (.slice none 0 0), 1, 24) := by kernel_rfl
theorem Try.infoWide : (Try.prog.info? 130).map (fun i => (i.zero, i.size, i.bytes)) = some (some (.agg #[.int .i64 0, .int .i64 0]), 2, 16) := by kernel_rfl

/-- A list of numbers that was made. -/
def RowI (w : World) (v : Value) (l : List Int) : Prop := w.ownsRow 0 3 1 v l.length (l.map (Value.int .i64))
theorem RowI.in_ {w : World} {v : Value} {l : List Int} (h : RowI w v l) : ∃ ao cap, v = .slice ao l.length cap ∧ IntsIn w ao l := by
  have hk := h
  rcases h.2 with ⟨rfl, h0⟩ | ⟨g, cap, cur, rfl, _, hh, hle, hm, _, _⟩
  · exact ⟨none, 0, by rw [h0], Or.inl h0⟩
  · refine ⟨_, cap, rfl, Or.inr ⟨g, 0, rfl, lt_of_block hh, fun i hi => ?_⟩⟩
    rw [Nat.zero_add, World.ownsRow.cellAt hk i (by omega)]
    simp [List.getD, hi]
theorem RowI.kept {w w' : World} {v : Value} {l : List Int} {row : Option Nat} (h : RowI w v l) (hg : w.grownBy w' row) (hne : v.ownBlock = none ∨ v.ownBlock ≠ row) : RowI w' v l := World.ownsRow.kept h hg hne
theorem RowI.below {w w' : World} {v : Value} {l : List Int} (h : RowI w v l) (hb : Below w.heap.size w w') : RowI w' v l := ownsRow_below h hb
/-- A list of such lists. -/
def RowS (w : World) (base : Nat) (v : Value) (ll : List (List Int)) (vs : List Value) : Prop := vs.length = ll.length ∧ w.ownsRow base 132 1 v ll.length vs ∧ ∀ i (h : i < ll.length), ∃ u, vs[i]? = some u ∧ RowI w u ll[i]
theorem RowS.in_ {w : World} {base : Nat} {v : Value} {ll : List (List Int)} {vs : List Value} (h : RowS w base v ll vs) : ∃ ao cap, v = .slice ao ll.length cap ∧ IntssIn w ao ll := by
  obtain ⟨h1, h2, h3⟩ := h
  have hk := h2
  rcases h2.2 with ⟨rfl, h0⟩ | ⟨g, cap, cur, rfl, _, hh, hle, hm, _, _⟩
  · exact ⟨none, 0, by rw [h0], Or.inl h0⟩
  · refine ⟨_, cap, rfl, Or.inr ⟨g, 0, rfl, lt_of_block hh, fun i hi => ?_⟩⟩
    obtain ⟨u, hu, hr⟩ := h3 i hi
    obtain ⟨ao', cap', e, hin⟩ := hr.in_
    refine ⟨ao', cap', ?_, hin⟩
    rw [Nat.zero_add, World.ownsRow.cellAt hk i (by omega), hu, e]
theorem rows_apart {w : World} {e e' : TypeId} {b b' sz sz' n n' : Nat} {v v' : Value} {xs xs' : List Value} (h : w.ownsRow b e sz v n xs) (h' : w.ownsRow b' e' sz' v' n' xs') (hne : e ≠ e') : v.ownBlock = none ∨ v.ownBlock ≠ v'.ownBlock := by
  rcases h.2 with ⟨rfl, _⟩ | ⟨g1, c1, cur1, rfl, _, hh1, _⟩
  · exact Or.inl rfl
  · right
    rcases h'.2 with ⟨rfl, _⟩ | ⟨g2, c2, cur2, rfl, _, hh2, _⟩
    · simp [Value.ownBlock]
    · simp only [Value.ownBlock, ne_eq, Option.some.injEq]
      rintro rfl
      rw [hh1] at hh2
      simp only [Option.some.injEq, Obj.cells.injEq] at hh2
      exact hne hh2.2.1
theorem RowS.below {w w' : World} {base : Nat} {v : Value} {ll : List (List Int)} {vs : List Value} (h : RowS w base v ll vs) (hb : Below w.heap.size w w') : RowS w' base v ll vs :=
  ⟨h.1, ownsRow_below h.2.1 hb, fun i hi => by obtain ⟨u, hu, hr⟩ := h.2.2 i hi; exact ⟨u, hu, hr.below hb⟩⟩
/-- While a block is written that is of another kind. -/
theorem RowS.other {w w' : World} {base g : Nat} {v : Value} {ll : List (List Int)} {vs : List Value} {t : TypeId} {cur : Array Value} (h : RowS w base v ll vs) (hg : w.grownBy w' (some g)) (hh : w.heap[g]? = some (.cells cur t (0, 0))) (h1 : t ≠ 132) (h2 : t ≠ 3) : RowS w' base v ll vs := by
  have key : ∀ {e : TypeId} {b sz n : Nat} {u : Value} {xs : List Value}, w.ownsRow b e sz u n xs → t ≠ e → u.ownBlock = none ∨ u.ownBlock ≠ some g := by
    intro e b sz n u xs hu hte
    rcases hu.2 with ⟨rfl, _⟩ | ⟨g1, c1, cur1, rfl, _, hh1, _⟩
    · exact Or.inl rfl
    · right
      simp only [Value.ownBlock, ne_eq, Option.some.injEq]
      rintro rfl
      rw [hh1] at hh
      simp only [Option.some.injEq, Obj.cells.injEq] at hh
      exact hte hh.2.1.symm
  exact ⟨h.1, h.2.1.kept hg (key h.2.1 h1), fun i hi => by obtain ⟨u, hu, hr⟩ := h.2.2 i hi; exact ⟨u, hu, hr.kept hg (key hr h2)⟩⟩

namespace Sg
/-- The totals behind the first k postings. -/
def linesTo (ac : List Acc) (ps : List Pst) (tot : List Int) (k : Nat) : List Int := linesAll ac (ps.take k) tot
theorem linesTo_succ (ac : List Acc) (ps : List Pst) (tot : List Int) (k : Nat) (h : k < ps.length) : linesTo ac ps tot (k + 1) = comes (linesTo ac ps tot k) (lineOf ac ps[k].acct).toNat ps[k].amt := by
  unfold linesTo linesAll; rw [List.take_succ_eq_append_getElem h, List.foldl_append]; rfl
theorem linesTo_length (ac : List Acc) (ps : List Pst) (tot : List Int) : ∀ k, k ≤ ps.length → (linesTo ac ps tot k).length = tot.length
  | 0, _ => rfl
  | k + 1, h => by rw [linesTo_succ ac ps tot k (by omega)]; unfold comes; rw [List.length_set]; exact linesTo_length ac ps tot k (by omega)
theorem linesTo_all (ac : List Acc) (ps : List Pst) (tot : List Int) : linesTo ac ps tot ps.length = linesAll ac ps tot := by unfold linesTo; rw [List.take_length]
theorem linesTo_near (ac : List Acc) (ps : List Pst) (tot : List Int) (c : Nat) (h : ∀ v ∈ tot, Near c v) (hf : ∀ p ∈ ps, fits p.amt = true) (h4 : tot.length = 4) (hl : ∀ p ∈ ps, 0 ≤ lineOf ac p.acct ∧ lineOf ac p.acct ≤ 3) : ∀ k, k ≤ ps.length → ∀ v ∈ linesTo ac ps tot k, Near (c + k) v
  | 0, _ => h
  | k + 1, hk => by
    rw [linesTo_succ ac ps tot k (by omega)]
    have hp := List.getElem_mem (l := ps) (n := k) (by omega)
    refine comes_near (linesTo_near ac ps tot c h hf h4 hl k (by omega)) ?_ (of_decide_eq_true (hf _ hp))
    rw [linesTo_length ac ps tot k (by omega), h4]
    have := hl _ hp
    omega
theorem entErr_ok {n : Nat} {e : Ent} {now : List Int} (h : entErr n e now = 0) : (∀ p ∈ e.posts, 0 ≤ p.acct ∧ p.acct < (n : Int)) ∧ ∀ v ∈ comesAll e.posts now, fits v = true := by
  unfold entErr at h
  by_cases h1 : e.posts.any (fun p => decide (p.acct < 0 ∨ (n : Int) ≤ p.acct)) = true
  · rw [if_pos h1] at h; omega
  rw [if_neg h1] at h
  by_cases h2 : amtSum e.posts ≠ 0
  · rw [if_pos h2] at h; omega
  rw [if_neg h2] at h
  by_cases h3 : (comesAll e.posts now).any (fun v => !fits v) = true
  · rw [if_pos h3] at h; omega
  refine ⟨fun p hp => ?_, fun v hv => ?_⟩
  · rw [List.any_eq_true] at h1
    by_cases e' : 0 ≤ p.acct ∧ p.acct < (n : Int)
    · exact e'
    · exact absurd ⟨p, hp, decide_eq_true (by omega)⟩ h1
  · rw [List.any_eq_true] at h3
    cases e' : fits v with
    | true => rfl
    | false => exact absurd ⟨v, hv, by rw [e']; rfl⟩ h3
theorem comesAll_length (ps : List Pst) (now : List Int) : (comesAll ps now).length = now.length := by rw [← comesTo_all, comesTo_length ps now _ (Nat.le_refl _)]
theorem lineOf_fine {ac : List Acc} {n : Nat} (hn : ac.length = n) (hok : ∀ a ∈ ac, 0 ≤ a.line ∧ a.line ≤ 3) {i : Int} (h0 : 0 ≤ i) (h1 : i < (n : Int)) : 0 ≤ lineOf ac i ∧ lineOf ac i ≤ 3 := by
  obtain ⟨k, rfl⟩ := Int.eq_ofNat_of_zero_le h0
  have hk : k < ac.length := by omega
  rw [lineOf_get hk]
  exact hok _ (List.getElem_mem _)
end Sg
end Go.Proofs.Ytoadiibfmcjgaaa
