/-
  THE WALK of signetref.Bounds: and how a history's periods lie in memory.
-/
import Derived.Test.YtoadiibfmcjgaaaChart
import Derived.BigQuiet
import Derived.Deep.QuietTactic
namespace Go.Proofs.Ytoadiibfmcjgaaa
open Go.RowKit
set_option maxRecDepth 100000

/-- The cells of a slice of entries, of a slice of periods. -/
def EntsAt (w : World) (b off : Nat) (es : List Sg.Ent) : Prop := ∀ i (h : i < es.length), w.cell? ⟨b, off + i * 2, none⟩ = some (.string es[i].memo) ∧ ∃ ao cap, w.cell? ⟨b, off + i * 2 + 1, none⟩ = some (.slice ao es[i].posts.length cap) ∧ PstsIn w ao es[i].posts
def EntsIn (w : World) (ao : Option Addr) (es : List Sg.Ent) : Prop := es.length = 0 ∨ ∃ b off, ao = some ⟨b, off, none⟩ ∧ b < w.heap.size ∧ EntsAt w b off es
theorem EntsIn.below {w w' : World} {ao : Option Addr} {es : List Sg.Ent} (h : EntsIn w ao es) (hb : Below w.heap.size w w') : EntsIn w' ao es := by
  rcases h with h0 | ⟨b, off, e, hbw, hat⟩
  · exact Or.inl h0
  · refine Or.inr ⟨b, off, e, Nat.lt_of_lt_of_le hbw hb.size, fun i hi => ?_⟩
    rw [hb.cell (p := ⟨b, off + i * 2, none⟩) hbw, hb.cell (p := ⟨b, off + i * 2 + 1, none⟩) hbw]
    obtain ⟨h1, ao', cap', h2, h3⟩ := hat i hi
    exact ⟨h1, ao', cap', h2, h3.below hb⟩
theorem EntsIn.cell {w : World} {ao : Option Addr} {es : List Sg.Ent} (h : EntsIn w ao es) {k : Nat} (hk : k < es.length) : ∃ b off, ao = some ⟨b, off, none⟩ ∧ b < w.heap.size ∧ w.cell? ⟨b, off + k * 2, none⟩ = some (.string es[k].memo) ∧ ∃ ao' cap', w.cell? ⟨b, off + k * 2 + 1, none⟩ = some (.slice ao' es[k].posts.length cap') ∧ PstsIn w ao' es[k].posts := by
  rcases h with h0 | ⟨b, off, e, hbw, hat⟩
  · omega
  · exact ⟨b, off, e, hbw, (hat k hk).1, (hat k hk).2⟩
def PersAt (w : World) (b off : Nat) (ps : List (List Sg.Ent)) : Prop := ∀ i (h : i < ps.length), ∃ ao cap, w.cell? ⟨b, off + i, none⟩ = some (.slice ao ps[i].length cap) ∧ EntsIn w ao ps[i]
def PersIn (w : World) (ao : Option Addr) (ps : List (List Sg.Ent)) : Prop := ps.length = 0 ∨ ∃ b off, ao = some ⟨b, off, none⟩ ∧ b < w.heap.size ∧ PersAt w b off ps
theorem PersIn.below {w w' : World} {ao : Option Addr} {ps : List (List Sg.Ent)} (h : PersIn w ao ps) (hb : Below w.heap.size w w') : PersIn w' ao ps := by
  rcases h with h0 | ⟨b, off, e, hbw, hat⟩
  · exact Or.inl h0
  · refine Or.inr ⟨b, off, e, Nat.lt_of_lt_of_le hbw hb.size, fun i hi => ?_⟩
    rw [hb.cell (p := ⟨b, off + i, none⟩) hbw]
    obtain ⟨ao', cap', h2, h3⟩ := hat i hi
    exact ⟨ao', cap', h2, h3.below hb⟩
theorem PersIn.cell {w : World} {ao : Option Addr} {ps : List (List Sg.Ent)} (h : PersIn w ao ps) {k : Nat} (hk : k < ps.length) : ∃ b off, ao = some ⟨b, off, none⟩ ∧ b < w.heap.size ∧ ∃ ao' cap', w.cell? ⟨b, off + k, none⟩ = some (.slice ao' ps[k].length cap') ∧ EntsIn w ao' ps[k] := by
  rcases h with h0 | ⟨b, off, e, hbw, hat⟩
  · omega
  · exact ⟨b, off, e, hbw, hat k hk⟩

namespace Sg
/-- The accounts up to k are all right. -/
def accsTo (ac : List Acc) (k : Nat) : Prop := ∀ i (h : i < ac.length), i < k → accOk ac[i] = true ∧ ∀ j (hj : j < ac.length), j < i → ac[j].name ≠ ac[i].name
theorem accsOk_iff : ∀ (ac : List Acc), accsOk ac = true ↔ accsTo ac ac.length
  | [] => by simp [accsOk, accsTo]
  | a :: r => by
    simp only [accsOk, Bool.and_eq_true, accsOk_iff r, List.all_eq_true, decide_eq_true_eq]
    constructor
    · rintro ⟨⟨h1, h2⟩, h3⟩ i hi _
      cases i with
      | zero => exact ⟨h1, fun j _ hji => by omega⟩
      | succ i =>
        obtain ⟨h4, h5⟩ := h3 i (by simpa using hi) (by simpa using hi)
        refine ⟨h4, fun j hj hji => ?_⟩
        cases j with
        | zero => exact fun e => h2 _ (List.getElem_mem (by simpa using hi)) e.symm
        | succ j => exact h5 j (by simpa using hj) (by omega)
    · intro h
      refine ⟨⟨(h 0 (by simp) (by simp)).1, fun b hb e => ?_⟩, fun i hi _ => ?_⟩
      · obtain ⟨i, hi, rfl⟩ := List.getElem_of_mem hb
        exact (h (i + 1) (by simpa using hi) (by simpa using hi)).2 0 (by simp) (by omega) e.symm
      · obtain ⟨h4, h5⟩ := h (i + 1) (by simpa using hi) (by simpa using hi)
        exact ⟨h4, fun j hj hji => h5 (j + 1) (by simpa using hj) (by omega)⟩
theorem accsTo_bad {ac : List Acc} {i : Nat} (h : i < ac.length) (hb : accOk ac[i] = false ∨ ∃ j, ∃ hj : j < ac.length, j < i ∧ ac[j].name = ac[i].name) : accsOk ac = false := by
  rw [← Bool.not_eq_true, accsOk_iff]
  intro hk
  obtain ⟨h1, h2⟩ := hk i h h
  rcases hb with hb | ⟨j, hj, hji, e⟩
  · rw [hb] at h1; simp at h1
  · exact h2 j hj hji e
theorem accsTo_succ {ac : List Acc} {k : Nat} (hk : k < ac.length) (h : accsTo ac k) (h1 : accOk ac[k] = true) (h2 : ∀ j (hj : j < ac.length), j < k → ac[j].name ≠ ac[k].name) : accsTo ac (k + 1) := by
  intro i hi hik
  by_cases e : i = k
  · subst e; exact ⟨h1, h2⟩
  · exact h i hi (by omega)
/-- The periods up to k are all right. -/
def persOkTo (ps : List (List Ent)) (k : Nat) : Prop := ∀ i (h : i < ps.length), i < k → perOk ps[i] = true
theorem persOk_all {ps : List (List Ent)} (h : persOkTo ps ps.length) : ps.all perOk = true := by
  rw [List.all_eq_true]
  intro p hp
  obtain ⟨i, hi, rfl⟩ := List.getElem_of_mem hp
  exact h i hi hi
theorem persOk_bad {ps : List (List Ent)} {i : Nat} (h : i < ps.length) (hb : perOk ps[i] = false) : ps.all perOk = false := by
  rw [List.all_eq_false]
  exact ⟨ps[i], List.getElem_mem h, by rw [hb]; simp⟩
def entsOkTo (es : List Ent) (k : Nat) : Prop := ∀ i (h : i < es.length), i < k → entOk es[i] = true
theorem perOk_all {es : List Ent} (h : entsOkTo es es.length) (hl : es.length ≤ 12) : perOk es = true := by
  unfold perOk
  rw [decide_eq_true hl, Bool.true_and, List.all_eq_true]
  intro p hp
  obtain ⟨i, hi, rfl⟩ := List.getElem_of_mem hp
  exact h i hi hi
theorem perOk_bad {es : List Ent} {i : Nat} (h : i < es.length) (hb : entOk es[i] = false) : perOk es = false := by
  unfold perOk
  have : es.all entOk = false := by rw [List.all_eq_false]; exact ⟨es[i], List.getElem_mem h, by rw [hb]; simp⟩
  rw [this, Bool.and_false]
theorem inBounds_accs {h : Hist} (hb : accsOk h.accs = false) : inBounds h = false := by unfold inBounds; rw [hb]; simp
theorem inBounds_pers {h : Hist} (hb : h.pers.all perOk = false) : inBounds h = false := by unfold inBounds; rw [hb]; simp
theorem inBounds_nums {h : Hist} (hb : ¬ (1 ≤ h.accs.length ∧ h.accs.length ≤ 8 ∧ 1 ≤ h.pers.length ∧ h.pers.length ≤ 6)) : inBounds h = false := by unfold inBounds; rw [decide_eq_false hb]; rfl
theorem inBounds_yes {h : Hist} (hb : 1 ≤ h.accs.length ∧ h.accs.length ≤ 8 ∧ 1 ≤ h.pers.length ∧ h.pers.length ≤ 6) (h1 : accsTo h.accs h.accs.length) (h2 : persOkTo h.pers h.pers.length) : inBounds h = true := by
  unfold inBounds; rw [decide_eq_true hb, (accsOk_iff _).2 h1, persOk_all h2]; rfl
end Sg
end Go.Proofs.Ytoadiibfmcjgaaa
