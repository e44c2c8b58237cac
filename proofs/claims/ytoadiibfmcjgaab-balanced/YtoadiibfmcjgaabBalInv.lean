/-
  WHAT Balanced LEANS ON: a history of signetkeep's, in memory; one whose period got an entry more.
-/
import Derived.Test.YtoadiibfmcjgaabMade
import Derived.Test.YtoadiibfmcjgaabHhead
import Derived.Test.YtoadiibfmcjgaabMadeSpec
namespace Go.Proofs.Ytoadiibfmcjgaab
open Go.RowKit
set_option maxRecDepth 100000

/-- What Seal asks of a history's sizes. -/
structure HistSizes (h : Sg.Hist) : Prop where
  sizA : ∀ a ∈ h.accs, a.name.size ≤ 140737488355328 ∧ Sg.fits a.line = true
  sizP : ∀ p ∈ h.pers, p.length ≤ 140737488355328 ∧ ∀ e ∈ p, e.memo.size ≤ 140737488355328 ∧ e.posts.length ≤ 140737488355328
  sizQ : ∀ p ∈ h.pers, ∀ e ∈ p, ∀ t ∈ e.posts, Sg.fits t.acct = true ∧ Sg.fits t.amt = true
theorem entFine_sizes {nA : Nat} (hn : nA ≤ 8) {e : Sg.Ent} (h : Sg.EntFine nA e) : (e.memo.size ≤ 140737488355328 ∧ e.posts.length ≤ 140737488355328) ∧ ∀ t ∈ e.posts, Sg.fits t.acct = true ∧ Sg.fits t.amt = true := by
  refine ⟨⟨by have := h.memo; omega, by have := h.few; omega⟩, fun t ht => ?_⟩
  have h1 := h.accts t ht
  have h2 := h.small t ht
  unfold Sg.acctOk at h1
  exact ⟨decide_eq_true (by omega), decide_eq_true (by omega)⟩
theorem Sg.MadeOk.sizes {h : Sg.Hist} (m : Sg.MadeOk h) : HistSizes h := by
  refine ⟨fun a ha => ?_, fun p hp => ⟨by have := (m.ents p hp).1; omega, fun e he => (entFine_sizes m.accs.2 ((m.ents p hp).2 e he)).1⟩, fun p hp e he => (entFine_sizes m.accs.2 ((m.ents p hp).2 e he)).2⟩
  have := Sg.bnd_accs m.inb a ha
  exact ⟨by omega, decide_eq_true (by omega)⟩
/-- One period got an entry more. -/
theorem HistSizes.more {ac : List Sg.Acc} {ps : List (List Sg.Ent)} (s : HistSizes ⟨ac, ps⟩) {i : Nat} (hi : i < ps.length) (h12 : ps[i].length < 12) (x : Sg.Ent) (hm : x.memo.size ≤ 20) (hl : x.posts.length ≤ 6) (hx : ∀ t ∈ x.posts, Sg.fits t.acct = true ∧ Sg.fits t.amt = true) : HistSizes ⟨ac, ps.set i (ps[i] ++ [x])⟩ := by
  refine ⟨s.sizA, fun p hp => ?_, fun p hp e he => ?_⟩
  · rcases List.mem_or_eq_of_mem_set hp with hp | rfl
    · exact s.sizP p hp
    · have h1 := s.sizP _ (List.getElem_mem hi)
      refine ⟨by simp; omega, fun e he => ?_⟩
      rcases List.mem_append.1 he with he | he
      · exact h1.2 e he
      · simp at he; subst he; omega
  · rcases List.mem_or_eq_of_mem_set hp with hp | rfl
    · exact s.sizQ p hp e he
    · rcases List.mem_append.1 he with he | he
      · exact s.sizQ _ (List.getElem_mem hi) e he
      · simp at he; subst he; exact hx

/-- A history of own lists, as Seal asks for it. -/
theorem hist_own {W : World} {B : Nat} {vA vP : Value} {h : Sg.Hist} (hA : OwnA W B vA h.accs) (hP : OwnPs W B vP h.pers) (s : HistSizes h) : ∃ aoA capA aoP capP, vA = .slice aoA h.accs.length capA ∧ vP = .slice aoP h.pers.length capP ∧ h.accs.length ≤ capA ∧ capA ≤ 9223372036854775807 ∧ HistIn W aoA aoP h.accs.length h.pers.length h := by
  obtain ⟨aoA, capA, e1, c1, c2, iA⟩ := hA.in_
  obtain ⟨aoP, capP, e2, _, iP⟩ := hP.in_
  refine ⟨aoA, capA, aoP, capP, e1, e2, c1, by unfold maxLen at c2; omega, iA, iP, rfl, rfl, s.sizA, s.sizP, s.sizQ⟩
theorem seal_own {W : World} {B : Nat} {vA vP : Value} {h : Sg.Hist} (hA : OwnA W B vA h.accs) (hP : OwnPs W B vP h.pers) (s : HistSizes h) :
    Calls Try.prog 6 #[.agg #[vA, vP]] W fun e w' => e = .returned (.tuple #[.string (Sg.package h), .string (Sg.headOf h), .int .i64 (Sg.closeErr h)]) ∧ Below W.heap.size W w' := by
  obtain ⟨aoA, capA, aoP, capP, rfl, rfl, c1, c2, hH⟩ := hist_own hA hP s
  exact seal_any h aoA aoP _ _ capA capP W hH c1 c2

/-- A store into the list of periods. -/
theorem OwnPs.set {w : World} {B g n cap i : Nat} {ps : List (List Sg.Ent)} {es : List Sg.Ent} {u : Value} (h : OwnPs w B (.slice (some ⟨g, 0, none⟩) n cap) ps) (hE : OwnE w B u es) : OwnPs (w.setCell ⟨g, i, none⟩ u) B (.slice (some ⟨g, 0, none⟩) n cap) (ps.set i es) ∧ KeptT 35 w (w.setCell ⟨g, i, none⟩ u) := by
  obtain ⟨us, a, b, c⟩ := h
  have hn : n = ps.length := by
    rcases b.2 with ⟨h0, _⟩ | ⟨g', cap', cur, h0, _⟩
    · simp at h0
    · simp at h0; exact h0.2.1
  subst hn
  have hb := b
  rcases b.2 with ⟨h0, _⟩ | ⟨g', cap', cur, h0, _, hg, _⟩
  · simp at h0
  simp only [Value.slice.injEq, Option.some.injEq, Addr.mk.injEq, and_true, true_and] at h0
  obtain ⟨rfl, rfl⟩ := h0
  have hk : KeptT 35 w (w.setCell ⟨g, i, none⟩ u) := keptT_setCell hg
  refine ⟨⟨us.set i u, by simp [a], ?_, fun j hj hj2 => ?_⟩, hk⟩
  · rw [List.length_set]
    exact (hb.stored i u).1
  · rw [List.length_set] at hj
    by_cases e : i = j
    · subst e
      rw [List.getElem_set_self, List.getElem_set_self]
      exact hE.keptT hk (by decide) (by decide)
    · rw [List.getElem_set_ne e, List.getElem_set_ne e]
      exact (c j hj (by omega)).keptT hk (by decide) (by decide)
theorem OwnPs.at_ {w : World} {B g n cap i : Nat} {ps : List (List Sg.Ent)} (h : OwnPs w B (.slice (some ⟨g, 0, none⟩) n cap) ps) (hi : i < ps.length) : ∃ v, w.cell? ⟨g, i, none⟩ = some v ∧ w.frozen? ⟨g, i, none⟩ = false ∧ OwnE w B v ps[i] ∧ B ≤ g ∧ g < w.heap.size := by
  obtain ⟨us, a, b, c⟩ := h
  have hn : n = ps.length := by
    rcases b.2 with ⟨h0, _⟩ | ⟨g', cap', cur, h0, _⟩
    · simp at h0
    · simp at h0; exact h0.2.1
  subst hn
  have hlt : B ≤ g ∧ g < w.heap.size := by
    rcases b.2 with ⟨h0, _⟩ | ⟨g', cap', cur, h0, hB, hg, _⟩
    · simp at h0
    · simp only [Value.slice.injEq, Option.some.injEq, Addr.mk.injEq, and_true, true_and] at h0
      obtain ⟨rfl, rfl⟩ := h0
      exact ⟨hB, lt_of_block hg⟩
  refine ⟨us[i]'(by omega), ?_, b.frozenAt i, c i hi (by omega), hlt⟩
  rw [World.ownsRow.cellAt b i (by omega), List.getElem?_eq_getElem (by omega)]

theorem eCells_length (es : List Sg.Ent) (us : List Value) (h : us.length = es.length) : (eCells es us).length = es.length * 2 := by
  unfold eCells
  induction es generalizing us with
  | nil => simp
  | cons e es ih =>
    cases us with
    | nil => simp at h
    | cons u us => simp only [List.zip_cons_cons, List.flatMap_cons, List.length_append, List.length_cons, List.length_nil]; rw [ih us (by simpa using h)]; omega
theorem eCells_one (es : List Sg.Ent) (us : List Value) (h : ∀ u ∈ us, u.oneCell' = true) : ∀ x ∈ eCells es us, x.oneCell' = true := by
  intro x hx
  unfold eCells at hx
  rw [List.mem_flatMap] at hx
  obtain ⟨⟨e, u⟩, h1, h2⟩ := hx
  simp at h2
  rcases h2 with rfl | rfl
  · rfl
  · exact h _ (List.of_mem_zip h1).2
/-- A list of entries, copied behind nothing: the row is new, the postings are shared. -/
theorem copy_ents {W : World} {B : Nat} {v : Value} {es : List Sg.Ent} (ty : TypeId) (h : OwnE W B v es) (h12 : es.length ≤ 12) :
    ∃ v' w' us, (Builtin.append_ #[33, 33] ty #[.slice none 0 0, v]).run Try.prog W = .ok v' w' ∧ us.length = es.length ∧ w'.ownsRow W.heap.size 40 2 v' es.length (eCells es us) ∧ (∀ i (h : i < es.length) (h2 : i < us.length), OwnP w' B us[i] es[i].posts) ∧ Below W.heap.size W w' := by
  obtain ⟨q0, qi, qz0, qz1, qz2⟩ := info_parts Try.infoEnt2
  obtain ⟨us, a, b, c⟩ := h
  have hk := b
  rcases b.2 with ⟨rfl, h0⟩ | ⟨g, cap, cur, rfl, hBg, hh, hle, hm, _, _⟩
  · have e0 : es = [] := List.eq_nil_of_length_eq_zero h0
    subst e0
    refine ⟨.slice none 0 0, W, us, run_append_owned_none (P := Try.prog) W B 33 ty 40 q0 2 Try.underlying33 qi _ 0 [] (World.ownsRow_nil W B _ _), a, World.ownsRow_nil W _ _ _, c, Below.refl _ _⟩
  · have hone : ∀ u ∈ us, u.oneCell' = true := by
      intro u hu
      obtain ⟨i, hi, rfl⟩ := List.getElem_of_mem hu
      obtain ⟨ao, n, cp, e⟩ := OwnP.shape (c i (by omega) hi)
      rw [e]; rfl
    obtain ⟨v', w', hr, hown, hg, _, _⟩ := run_append_own_at (P := Try.prog) W W.heap.size 33 ty 40 q0 (.agg #[.string ByteArray.empty, .slice none 0 0]) 2 40 Try.underlying33 qi qz0 qz1 qz2 rfl (by decide) (.slice none 0 0) 0 [] (World.ownsRow_nil W _ _ _) ⟨g, 0, none⟩ es.length cap (eCells es us) (eCells_length es us a)
      (fun j u hu => by
        have hj : j < es.length * 2 := by
          have := (List.getElem?_eq_some_iff.1 hu).1
          rw [eCells_length es us a] at this; exact this
        have ea : Addr.add ⟨g, 0, none⟩ j = ⟨g, j, none⟩ := by cases j <;> simp [Addr.add]
        rw [ea, World.ownsRow.cellAt hk j hj]; exact hu)
      (eCells_one es us hone) (by unfold maxLen; omega) (by omega) (Nat.le_refl _)
    have hb : Below W.heap.size W w' := (Below.refl _ _).grown hg (Nat.le_refl _) (fun k hk => by simp [Value.ownBlock] at hk)
    refine ⟨v', w', us, hr, a, ?_, fun i hi hi2 => ownsRow_below (c i hi hi2) hb, hb⟩
    simpa using hown
theorem OwnE.shape {w : World} {B : Nat} {v : Value} {es : List Sg.Ent} (h : OwnE w B v es) : ∃ ao cap, v = .slice ao es.length cap := by
  obtain ⟨us, a, b, c⟩ := h
  rcases b.2 with ⟨e, h0⟩ | ⟨g, cap, cur, e, _⟩
  · exact ⟨none, 0, by rw [e, h0]⟩
  · exact ⟨_, cap, e⟩

theorem OwnA.lt0 {w : World} {B : Nat} {v : Value} {ac : List Sg.Acc} (h : OwnA w B v ac) (hn : 0 < ac.length) : B < w.heap.size := by
  obtain ⟨g, cap, _, h1, h2⟩ := World.ownsRow.form h hn
  omega
theorem old_block2 (w : World) (o : Obj) (cs : Array Value) (t : TypeId) : ((w.alloc (.cells cs t)).alloc o).heap[w.heap.size]? = some (.cells cs t (0, 0)) := by
  rw [Below.heap_alloc _ _ _ (by simp)]
  exact heap_alloc_new w _
/-- An append whose run is known. -/
theorem wpList_append_known {P : Program} {w w' : World} {ops : Array Oper} {rest : List Oper} {o : Oper} {a : Act} {Q : Exit → Act → World → Prop} (hgd : o.guard = none) (s x : Operand) (t : TypeId)
    (ho : o.op = .call { callee := .builtin .append, args := #[s, x], argTypes := #[t, t] }) (v y v' : Value) (hs : a.eval s = v) (hx : a.eval x = y)
    (hrun : (Builtin.append_ #[t, t] o.type #[v, y]).run P w = .ok v' w') (h : wpList P ops Q rest (a.put o.dst v') w') : wpList P ops Q (o :: rest) a w := by
  refine wpList_plain hgd fun K hK => ?_
  unfold Oper.wp
  simp [execOp, ho, resolve, invoke, builtin, hs, hx, hrun, Result.andThen]
  exact hK _ _ h

/-- What stands between Balanced's steps: h's box, its lists, the entries that were there. -/
structure BdInv (w W : World) (hb B : Nat) (vA vP vW : Value) (ac : List Sg.Acc) (ps : List (List Sg.Ent)) (es : List Sg.Ent) : Prop where
  bel : Below w.heap.size w W
  box : Two W hb vA vP 26
  base : w.heap.size ≤ B
  accs : OwnA W B vA ac
  pers : OwnPs W B vP ps
  was : OwnE W B vW es
theorem BdInv.below {w W W' : World} {hb B : Nat} {vA vP vW : Value} {ac : List Sg.Acc} {ps : List (List Sg.Ent)} {es : List Sg.Ent} (m : BdInv w W hb B vA vP vW ac ps es) (h : Below W.heap.size W W') : BdInv w W' hb B vA vP vW ac ps es :=
  ⟨m.bel.trans (h.mono m.bel.size), m.box.below h, m.base, m.accs.below h, m.pers.below h, m.was.below h⟩
/-- An entry more, behind the copy. -/
theorem spoil_out {w W0 W X w5 : World} {hb B pb k : Nat} {vA vP vW vL v5 : Value} {ac : List Sg.Acc} {ps : List (List Sg.Ent)} {es es0 : List Sg.Ent} {us : List Value} {xs : List Sg.Pst} (m : BdInv w W0 hb B vA vP vW ac ps es0) (hB : B ≤ W0.heap.size) (hul : us.length = es.length) (hrow : W.ownsRow W0.heap.size 40 2 vL es.length (eCells es us)) (hus : ∀ i (h : i < es.length) (h2 : i < us.length), OwnP W B us[i] es[i].posts) (hb0 : Below W0.heap.size W0 W) (hX : Below W.heap.size W X)
    (hpb : X.heap[pb]? = some (.cells (pCells xs).toArray 37 (0, 0))) (hpB : B ≤ pb) (hk : xs.length = k) (hkm : k ≤ maxLen)
    (hgrow : X.grownBy w5 vL.ownBlock) (hown5 : w5.ownsRow W0.heap.size 40 2 v5 (es.length + 1) (eCells es us ++ [.string ByteArray.empty, .slice (some ⟨pb, 0, none⟩) k k])) :
    BdInv w w5 hb B vA vP vW ac ps es0 ∧ OwnE w5 B v5 (es ++ [⟨ByteArray.empty, xs⟩]) := by
  have h1 : Below W0.heap.size W0 X := hb0.trans (hX.mono hb0.size)
  have h2 : Below W0.heap.size W0 w5 := h1.grown hgrow h1.size (fun q hq => (World.ownsRow.lt hrow q hq).1)
  refine ⟨m.below h2, ?_⟩
  have hp : OwnP X B (.slice (some ⟨pb, 0, none⟩) k k) xs := by
    have hl : (pCells xs).length = k * 2 := by
      rw [← hk]
      unfold pCells
      clear hk hpb hown5
      induction xs with
      | nil => rfl
      | cons x xs ih => simp only [List.flatMap_cons, List.length_append, List.length_cons, List.length_nil]; rw [ih]; omega
    refine ⟨by rw [hl, hk], Or.inr ⟨pb, k, (pCells xs).toArray, by rw [hk], hpB, hpb, by omega, hkm, by rw [List.size_toArray, hl], ?_⟩⟩
    rw [List.toList_toArray, hk, ← hl, List.take_length]
  exact OwnE.push (W := X) (e := ⟨ByteArray.empty, xs⟩) hul (ownsRow_mono (ownsRow_below hrow hX) hB) (fun i h h2 => ownsRow_below (hus i h h2) hX) hp hgrow (ownsRow_mono hown5 hB)
/-- The store. -/
theorem BdInv.set {w W : World} {hb B g n cap i : Nat} {vA vW u : Value} {ac : List Sg.Acc} {ps : List (List Sg.Ent)} {es es1 : List Sg.Ent} (m : BdInv w W hb B vA (.slice (some ⟨g, 0, none⟩) n cap) vW ac ps es) (hi : i < ps.length) (hE : OwnE W B u es1) : BdInv w (W.setCell ⟨g, i, none⟩ u) hb B vA (.slice (some ⟨g, 0, none⟩) n cap) vW ac (ps.set i es1) es := by
  obtain ⟨hp, hk⟩ := m.pers.set (i := i) hE
  obtain ⟨_, _, _, _, hBg, _⟩ := m.pers.at_ hi
  exact ⟨m.bel.setCell (Nat.le_trans m.base hBg) _, hk _ _ _ _ m.box (by decide), m.base, m.accs.keptT hk (by decide), hp, m.was.keptT hk (by decide) (by decide)⟩
end Go.Proofs.Ytoadiibfmcjgaab
