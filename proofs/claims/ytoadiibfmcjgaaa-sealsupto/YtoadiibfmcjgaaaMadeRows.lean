/-
  ROWS OF ROWS: the lists that signetkeep.made makes: an append writes only blocks of its own element type.
-/
import Derived.Test.YtoadiibfmcjgaaaMadeChart
namespace Go.Proofs.Ytoadiibfmcjgaaa
open Go.RowKit
set_option maxRecDepth 100000

/-- What is of another type stays. -/
def KeptT (t : TypeId) (w w' : World) : Prop := ∀ (k : Nat) (cs : Array Value) (t' : TypeId) (fz : Nat × Nat), w.heap[k]? = some (Obj.cells cs t' fz) → t' ≠ t → w'.heap[k]? = some (Obj.cells cs t' fz)
theorem KeptT.trans {t : TypeId} {a b c : World} (h : KeptT t a b) (k : KeptT t b c) : KeptT t a c := fun i cs t' fz hi ht => k i cs t' fz (h i cs t' fz hi ht) ht
theorem keptT_below (t : TypeId) {w w' : World} (h : Below w.heap.size w w') : KeptT t w w' := fun k _ _ _ hk _ => (h.block k (lt_of_block hk)).trans hk
theorem keptT_append {W w' : World} {B : Nat} {e : TypeId} {sz n : Nat} {v : Value} {xs : List Value} (hown : W.ownsRow B e sz v n xs) (hg : W.grownBy w' v.ownBlock) : KeptT e W w' := fun k cs t' fz hk ht => by
  refine (hg.block k (lt_of_block hk) (fun e' => ?_)).trans hk
  rcases hown.2 with ⟨rfl, _⟩ | ⟨g, cap, cur, rfl, _, hh, _⟩
  · simp [Value.ownBlock] at e'
  · simp only [Value.ownBlock, Option.some.injEq] at e'
    subst e'
    rw [hk] at hh
    simp only [Option.some.injEq, Obj.cells.injEq] at hh
    exact ht hh.2.1
theorem keptT_setCell {w : World} {g j : Nat} {u : Value} {cur : Array Value} {t : TypeId} {fz : Nat × Nat} (hg : w.heap[g]? = some (.cells cur t fz)) : KeptT t w (w.setCell ⟨g, j, none⟩ u) := fun k cs t' fz' hk ht => by
  refine (Below.heap_setCell _ _ _ _ (fun e => ?_)).trans hk
  have e' : k = g := e
  subst e'
  rw [hg] at hk
  simp only [Option.some.injEq, Obj.cells.injEq] at hk
  exact ht hk.2.1.symm
theorem ownsRow_keptT {w w' : World} {B : Nat} {e t : TypeId} {sz n : Nat} {v : Value} {xs : List Value} (h : w.ownsRow B e sz v n xs) (hk : KeptT t w w') (hne : e ≠ t) : w'.ownsRow B e sz v n xs := by
  refine ⟨h.1, ?_⟩
  rcases h.2 with h0 | ⟨g, cap, cur, h1, h2, h3, h4⟩
  · exact Or.inl h0
  · exact Or.inr ⟨g, cap, cur, h1, h2, hk g cur e (0, 0) h3 hne, h4⟩

/-- Entries, cell by cell. -/
def eCells (es : List Sg.Ent) (us : List Value) : List Value := (es.zip us).flatMap fun x => [.string x.1.memo, x.2]
theorem eCells_snoc (es : List Sg.Ent) (us : List Value) (e : Sg.Ent) (u : Value) (h : us.length = es.length) : eCells (es ++ [e]) (us ++ [u]) = eCells es us ++ [.string e.memo, u] := by
  unfold eCells
  rw [List.zip_append h.symm, List.flatMap_append]; simp
theorem eCells_at : ∀ (es : List Sg.Ent) (us : List Value) (h : us.length = es.length) (i : Nat) (hi : i < es.length), (eCells es us)[i * 2]? = some (.string es[i].memo) ∧ (eCells es us)[i * 2 + 1]? = some (us[i]'(by omega))
  | e :: es, u :: us, _, 0, _ => ⟨rfl, rfl⟩
  | e :: es, u :: us, h, i + 1, hi => by
    have ih := eCells_at es us (by simpa using h) i (by simpa using hi)
    have e1 : eCells (e :: es) (u :: us) = [.string e.memo, u] ++ eCells es us := rfl
    rw [e1, List.getElem?_append_right (by simp; omega), List.getElem?_append_right (by simp; omega)]
    simpa [show (i + 1) * 2 - 2 = i * 2 by omega, show (i + 1) * 2 + 1 - 2 = i * 2 + 1 by omega] using ih
/-- A list of entries of the call's own, their postings too. -/
def OwnE (w : World) (B : Nat) (v : Value) (es : List Sg.Ent) : Prop :=
  ∃ us : List Value, us.length = es.length ∧ w.ownsRow B 55 2 v es.length (eCells es us) ∧ ∀ i (h : i < es.length) (h2 : i < us.length), OwnP w B us[i] es[i].posts
theorem OwnE.nil (w : World) (B : Nat) : OwnE w B (.slice none 0 0) [] := ⟨[], rfl, World.ownsRow_nil _ _ _ _, fun i h => absurd h (by simp)⟩
theorem OwnE.keptT {w w' : World} {B : Nat} {v : Value} {es : List Sg.Ent} {t : TypeId} (h : OwnE w B v es) (hk : KeptT t w w') (h1 : 55 ≠ t) (h2 : 90 ≠ t) : OwnE w' B v es := by
  obtain ⟨us, a, b, c⟩ := h
  exact ⟨us, a, ownsRow_keptT b hk h1, fun i hi hi2 => ownsRow_keptT (c i hi hi2) hk h2⟩
theorem OwnE.below {w w' : World} {B : Nat} {v : Value} {es : List Sg.Ent} (h : OwnE w B v es) (hb : Below w.heap.size w w') : OwnE w' B v es := by
  obtain ⟨us, a, b, c⟩ := h
  exact ⟨us, a, ownsRow_below b hb, fun i hi hi2 => ownsRow_below (c i hi hi2) hb⟩
theorem OwnE.in_ {w : World} {B : Nat} {v : Value} {es : List Sg.Ent} (h : OwnE w B v es) : ∃ ao cap, v = .slice ao es.length cap ∧ es.length ≤ cap ∧ cap ≤ maxLen ∧ EntsIn w ao es := by
  obtain ⟨us, a, b, c⟩ := h
  have hk := b
  rcases b.2 with ⟨rfl, h0⟩ | ⟨g, cap, cur, rfl, _, hh, hle, hm, _, _⟩
  · exact ⟨none, 0, by rw [h0], by omega, by unfold maxLen; omega, Or.inl h0⟩
  · refine ⟨_, cap, rfl, hle, hm, Or.inr ⟨g, 0, rfl, lt_of_block hh, fun i hi => ?_⟩⟩
    obtain ⟨e1, e2⟩ := eCells_at es us a i hi
    rw [Nat.zero_add, World.ownsRow.cellAt hk (i * 2) (by omega), World.ownsRow.cellAt hk (i * 2 + 1) (by omega), e1, e2]
    have hp := c i hi (by omega)
    have hpk := hp
    rcases hp.2 with ⟨hv, h0⟩ | ⟨g', cap', cur', hv, _, hh', hle', _, _, _⟩
    · exact ⟨rfl, none, 0, by rw [hv, h0], Or.inl h0⟩
    · refine ⟨rfl, some ⟨g', 0, none⟩, cap', by rw [hv], Or.inr ⟨g', 0, rfl, lt_of_block hh', fun j hj => ?_⟩⟩
      rw [hv] at hpk
      obtain ⟨p1, p2⟩ := pCells_at es[i].posts j hj
      rw [Nat.zero_add, World.ownsRow.cellAt hpk (j * 2) (by omega), World.ownsRow.cellAt hpk (j * 2 + 1) (by omega)]
      exact ⟨p1, p2⟩
where
  pCells_at : ∀ (ps : List Sg.Pst) (i : Nat) (hi : i < ps.length), (pCells ps)[i * 2]? = some (.int .i64 ps[i].acct) ∧ (pCells ps)[i * 2 + 1]? = some (.int .i64 ps[i].amt)
    | p :: ps, 0, _ => ⟨rfl, rfl⟩
    | p :: ps, i + 1, hi => by
      have ih := pCells_at ps i (by simpa using hi)
      have e1 : pCells (p :: ps) = [.int .i64 p.acct, .int .i64 p.amt] ++ pCells ps := rfl
      rw [e1, List.getElem?_append_right (by simp; omega), List.getElem?_append_right (by simp; omega)]
      simpa [show (i + 1) * 2 - 2 = i * 2 by omega, show (i + 1) * 2 + 1 - 2 = i * 2 + 1 by omega] using ih
/-- An entry more. -/
theorem OwnE.push {W w' : World} {B : Nat} {v v' u : Value} {es : List Sg.Ent} {us : List Value} {e : Sg.Ent} (hlen : us.length = es.length) (hrow : W.ownsRow B 55 2 v es.length (eCells es us)) (hps : ∀ i (h : i < es.length) (h2 : i < us.length), OwnP W B us[i] es[i].posts) (hu : OwnP W B u e.posts)
    (hg : W.grownBy w' v.ownBlock) (hown : w'.ownsRow B 55 2 v' (es.length + 1) (eCells es us ++ [.string e.memo, u])) : OwnE w' B v' (es ++ [e]) := by
  have hk := keptT_append hrow hg
  refine ⟨us ++ [u], by simp [hlen], ?_, fun i hi hi2 => ?_⟩
  · rw [eCells_snoc es us e u hlen, List.length_append]
    exact hown
  · rw [List.length_append, List.length_cons, List.length_nil] at hi
    by_cases e1 : i = es.length
    · subst e1
      rw [List.getElem_append_right (by omega), List.getElem_append_right (by omega)]
      simp only [hlen, Nat.sub_self, List.getElem_cons_zero]
      exact ownsRow_keptT hu hk (by decide)
    · rw [List.getElem_append_left (by omega), List.getElem_append_left (by omega)]
      exact ownsRow_keptT (hps i (by omega) (by omega)) hk (by decide)

/-- A list of periods of the call's own. -/
def OwnPs (w : World) (B : Nat) (v : Value) (ps : List (List Sg.Ent)) : Prop :=
  ∃ us : List Value, us.length = ps.length ∧ w.ownsRow B 47 1 v ps.length us ∧ ∀ i (h : i < ps.length) (h2 : i < us.length), OwnE w B us[i] ps[i]
theorem OwnPs.nil (w : World) (B : Nat) : OwnPs w B (.slice none 0 0) [] := ⟨[], rfl, World.ownsRow_nil _ _ _ _, fun i h => absurd h (by simp)⟩
theorem OwnPs.keptT {w w' : World} {B : Nat} {v : Value} {ps : List (List Sg.Ent)} {t : TypeId} (h : OwnPs w B v ps) (hk : KeptT t w w') (h0 : 47 ≠ t) (h1 : 55 ≠ t) (h2 : 90 ≠ t) : OwnPs w' B v ps := by
  obtain ⟨us, a, b, c⟩ := h
  exact ⟨us, a, ownsRow_keptT b hk h0, fun i hi hi2 => (c i hi hi2).keptT hk h1 h2⟩
theorem OwnPs.below {w w' : World} {B : Nat} {v : Value} {ps : List (List Sg.Ent)} (h : OwnPs w B v ps) (hb : Below w.heap.size w w') : OwnPs w' B v ps := by
  obtain ⟨us, a, b, c⟩ := h
  exact ⟨us, a, ownsRow_below b hb, fun i hi hi2 => (c i hi hi2).below hb⟩
theorem OwnPs.in_ {w : World} {B : Nat} {v : Value} {ps : List (List Sg.Ent)} (h : OwnPs w B v ps) : ∃ ao cap, v = .slice ao ps.length cap ∧ ps.length ≤ cap ∧ PersIn w ao ps := by
  obtain ⟨us, a, b, c⟩ := h
  have hk := b
  rcases b.2 with ⟨rfl, h0⟩ | ⟨g, cap, cur, rfl, _, hh, hle, hm, _, _⟩
  · exact ⟨none, 0, by rw [h0], by omega, Or.inl h0⟩
  · refine ⟨_, cap, rfl, hle, Or.inr ⟨g, 0, rfl, lt_of_block hh, fun i hi => ?_⟩⟩
    obtain ⟨ao, cap', hv, _, _, hin⟩ := (c i hi (by omega)).in_
    refine ⟨ao, cap', ?_, hin⟩
    rw [Nat.zero_add, World.ownsRow.cellAt hk i (by omega), List.getElem?_eq_getElem (by omega), hv]
/-- A period more. -/
theorem OwnPs.push {W w' : World} {B : Nat} {v v' u : Value} {ps : List (List Sg.Ent)} {us : List Value} {p : List Sg.Ent} (hlen : us.length = ps.length) (hrow : W.ownsRow B 47 1 v ps.length us) (hes : ∀ i (h : i < ps.length) (h2 : i < us.length), OwnE W B us[i] ps[i]) (hu : OwnE W B u p)
    (hg : W.grownBy w' v.ownBlock) (hown : w'.ownsRow B 47 1 v' (ps.length + 1) (us ++ [u])) : OwnPs w' B v' (ps ++ [p]) := by
  have hk := keptT_append hrow hg
  refine ⟨us ++ [u], by simp [hlen], ?_, fun i hi hi2 => ?_⟩
  · rw [List.length_append]
    exact hown
  · rw [List.length_append, List.length_cons, List.length_nil] at hi
    by_cases e1 : i = ps.length
    · subst e1
      rw [List.getElem_append_right (by omega), List.getElem_append_right (by omega)]
      simp only [hlen, Nat.sub_self, List.getElem_cons_zero]
      exact hu.keptT hk (by decide) (by decide)
    · rw [List.getElem_append_left (by omega), List.getElem_append_left (by omega)]
      exact (hes i (by omega) (by omega)).keptT hk (by decide) (by decide)
theorem OwnA.keptT {w w' : World} {B : Nat} {v : Value} {ac : List Sg.Acc} {t : TypeId} (h : OwnA w B v ac) (hk : KeptT t w w') (h0 : 43 ≠ t) : OwnA w' B v ac := ownsRow_keptT h hk h0
theorem aCells_at : ∀ (ac : List Sg.Acc) (i : Nat) (hi : i < ac.length), (aCells ac)[i * 2]? = some (.string ac[i].name) ∧ (aCells ac)[i * 2 + 1]? = some (.int .i64 ac[i].line)
  | a :: ac, 0, _ => ⟨rfl, rfl⟩
  | a :: ac, i + 1, hi => by
    have ih := aCells_at ac i (by simpa using hi)
    have e1 : aCells (a :: ac) = [.string a.name, .int .i64 a.line] ++ aCells ac := rfl
    rw [e1, List.getElem?_append_right (by simp; omega), List.getElem?_append_right (by simp; omega)]
    simpa [show (i + 1) * 2 - 2 = i * 2 by omega, show (i + 1) * 2 + 1 - 2 = i * 2 + 1 by omega] using ih
theorem OwnA.in_ {w : World} {B : Nat} {v : Value} {ac : List Sg.Acc} (h : OwnA w B v ac) : ∃ ao cap, v = .slice ao ac.length cap ∧ ac.length ≤ cap ∧ cap ≤ maxLen ∧ AccsIn w ao ac := by
  have hk := h
  rcases h.2 with ⟨rfl, h0⟩ | ⟨g, cap, cur, rfl, _, hh, hle, hm, _, _⟩
  · exact ⟨none, 0, by rw [h0], by omega, by unfold maxLen; omega, Or.inl h0⟩
  · refine ⟨_, cap, rfl, hle, hm, Or.inr ⟨g, 0, rfl, lt_of_block hh, fun i hi => ?_⟩⟩
    obtain ⟨e1, e2⟩ := aCells_at ac i hi
    rw [Nat.zero_add, World.ownsRow.cellAt hk (i * 2) (by omega), World.ownsRow.cellAt hk (i * 2 + 1) (by omega)]
    exact ⟨e1, e2⟩
end Go.Proofs.Ytoadiibfmcjgaaa
