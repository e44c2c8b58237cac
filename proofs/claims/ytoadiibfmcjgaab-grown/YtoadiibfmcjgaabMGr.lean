import Derived.Test.YtoadiibfmcjgaabMade
import Derived.Test.YtoadiibfmcjgaabHhead
import Derived.Test.YtoadiibfmcjgaabMadeSpec
import Derived.Test.YtoadiibfmcjgaabReadSpec
import Derived.Test.YtoadiibfmcjgaabMExt
/-
  WHAT Balanced LEANS ON: a history of signetkeep's, in memory; one whose period got an entry more.
-/
namespace Go.Proofs.Ytoadiibfmcjgaab
open Go.RowKit
set_option maxRecDepth 100000

/-- What Seal asks of a history's sizes. -/
structure HistSizes (h : Sg.Hist) : Prop where
  sizA : ∀ a ∈ h.accs, a.name.size ≤ 140737488355328 ∧ Sg.fits a.line = true
  sizP : ∀ p ∈ h.pers, p.length ≤ 140737488355328 ∧ ∀ e ∈ p, e.memo.size ≤ 140737488355328 ∧ e.posts.length ≤ 140737488355328
  sizQ : ∀ p ∈ h.pers, ∀ e ∈ p, ∀ t ∈ e.posts, Sg.fits t.acct = true ∧ Sg.fits t.amt = true
theorem entFine_sizes {nA : Nat} (hn : nA ≤ 8) {e : Sg.Ent} (h : Sg.EntFine nA e) : (e.memo.size ≤ 140737488355328 ∧ e.posts.length ≤ 140737488355328) ∧ ∀ t ∈ e.posts, Sg.fits t.acct = true ∧ Sg.fits t.amt = true := by
  refine ⟨⟨by have := h.memo; omega, by have := h.few; omega⟩, fun t ht => ?_⟩
  have h1 := h.accts t ht
  have h2 := h.small t ht
  unfold Sg.acctOk at h1
  exact ⟨decide_eq_true (by omega), decide_eq_true (by omega)⟩
theorem Sg.MadeOk.sizes {h : Sg.Hist} (m : Sg.MadeOk h) : HistSizes h := by
  refine ⟨fun a ha => ?_, fun p hp => ⟨by have := (m.ents p hp).1; omega, fun e he => (entFine_sizes m.accs.2 ((m.ents p hp).2 e he)).1⟩, fun p hp e he => (entFine_sizes m.accs.2 ((m.ents p hp).2 e he)).2⟩
  have := Sg.bnd_accs m.inb a ha
  exact ⟨by omega, decide_eq_true (by omega)⟩
/-- One period got an entry more. -/
theorem HistSizes.more {ac : List Sg.Acc} {ps : List (List Sg.Ent)} (s : HistSizes ⟨ac, ps⟩) {i : Nat} (hi : i < ps.length) (h12 : ps[i].length < 12) (x : Sg.Ent) (hm : x.memo.size ≤ 20) (hl : x.posts.length ≤ 6) (hx : ∀ t ∈ x.posts, Sg.fits t.acct = true ∧ Sg.fits t.amt = true) : HistSizes ⟨ac, ps.set i (ps[i] ++ [x])⟩ := by
  refine ⟨s.sizA, fun p hp => ?_, fun p hp e he => ?_⟩
  · rcases List.mem_or_eq_of_mem_set hp with hp | rfl
    · exact s.sizP p hp
    · have h1 := s.sizP _ (List.getElem_mem hi)
      refine ⟨by simp; omega, fun e he => ?_⟩
      rcases List.mem_append.1 he with he | he
      · exact h1.2 e he
      · simp at he; subst he; omega
  · rcases List.mem_or_eq_of_mem_set hp with hp | rfl
    · exact s.sizQ p hp e he
    · rcases List.mem_append.1 he with he | he
      · exact s.sizQ _ (List.getElem_mem hi) e he
      · simp at he; subst he; exact hx

/-- A history of own lists, as Seal asks for it. -/
theorem hist_own {W : World} {B : Nat} {vA vP : Value} {h : Sg.Hist} (hA : OwnA W B vA h.accs) (hP : OwnPs W B vP h.pers) (s : HistSizes h) : ∃ aoA capA aoP capP, vA = .slice aoA h.accs.length capA ∧ vP = .slice aoP h.pers.length capP ∧ h.accs.length ≤ capA ∧ capA ≤ 9223372036854775807 ∧ HistIn W aoA aoP h.accs.length h.pers.length h := by
  obtain ⟨aoA, capA, e1, c1, c2, iA⟩ := hA.in_
  obtain ⟨aoP, capP, e2, _, iP⟩ := hP.in_
  refine ⟨aoA, capA, aoP, capP, e1, e2, c1, by unfold maxLen at c2; omega, iA, iP, rfl, rfl, s.sizA, s.sizP, s.sizQ⟩
theorem seal_own {W : World} {B : Nat} {vA vP : Value} {h : Sg.Hist} (hA : OwnA W B vA h.accs) (hP : OwnPs W B vP h.pers) (s : HistSizes h) :
    Calls Try.prog 6 #[.agg #[vA, vP]] W fun e w' => e = .returned (.tuple #[.string (Sg.package h), .string (Sg.headOf h), .int .i64 (Sg.closeErr h)]) ∧ Below W.heap.size W w' := by
  obtain ⟨aoA, capA, aoP, capP, rfl, rfl, c1, c2, hH⟩ := hist_own hA hP s
  exact seal_any h aoA aoP _ _ capA capP W hH c1 c2

/-- A store into the list of periods. -/
theorem OwnPs.set {w : World} {B g n cap i : Nat} {ps : List (List Sg.Ent)} {es : List Sg.Ent} {u : Value} (h : OwnPs w B (.slice (some ⟨g, 0, none⟩) n cap) ps) (hE : OwnE w B u es) : OwnPs (w.setCell ⟨g, i, none⟩ u) B (.slice (some ⟨g, 0, none⟩) n cap) (ps.set i es) ∧ KeptT 35 w (w.setCell ⟨g, i, none⟩ u) := by
  obtain ⟨us, a, b, c⟩ := h
  have hn : n = ps.length := by
    rcases b.2 with ⟨h0, _⟩ | ⟨g', cap', cur, h0, _⟩
    · simp at h0
    · simp at h0; exact h0.2.1
  subst hn
  have hb := b
  rcases b.2 with ⟨h0, _⟩ | ⟨g', cap', cur, h0, _, hg, _⟩
  · simp at h0
  simp only [Value.slice.injEq, Option.some.injEq, Addr.mk.injEq, and_true, true_and] at h0
  obtain ⟨rfl, rfl⟩ := h0
  have hk : KeptT 35 w (w.setCell ⟨g, i, none⟩ u) := keptT_setCell hg
  refine ⟨⟨us.set i u, by simp [a], ?_, fun j hj hj2 => ?_⟩, hk⟩
  · rw [List.length_set]
    exact (hb.stored i u).1
  · rw [List.length_set] at hj
    by_cases e : i = j
    · subst e
      rw [List.getElem_set_self, List.getElem_set_self]
      exact hE.keptT hk (by decide) (by decide)
    · rw [List.getElem_set_ne e, List.getElem_set_ne e]
      exact (c j hj (by omega)).keptT hk (by decide) (by decide)
theorem OwnPs.at_ {w : World} {B g n cap i : Nat} {ps : List (List Sg.Ent)} (h : OwnPs w B (.slice (some ⟨g, 0, none⟩) n cap) ps) (hi : i < ps.length) : ∃ v, w.cell? ⟨g, i, none⟩ = some v ∧ w.frozen? ⟨g, i, none⟩ = false ∧ OwnE w B v ps[i] ∧ B ≤ g ∧ g < w.heap.size := by
  obtain ⟨us, a, b, c⟩ := h
  have hn : n = ps.length := by
    rcases b.2 with ⟨h0, _⟩ | ⟨g', cap', cur, h0, _⟩
    · simp at h0
    · simp at h0; exact h0.2.1
  subst hn
  have hlt : B ≤ g ∧ g < w.heap.size := by
    rcases b.2 with ⟨h0, _⟩ | ⟨g', cap', cur, h0, hB, hg, _⟩
    · simp at h0
    · simp only [Value.slice.injEq, Option.some.injEq, Addr.mk.injEq, and_true, true_and] at h0
      obtain ⟨rfl, rfl⟩ := h0
      exact ⟨hB, lt_of_block hg⟩
  refine ⟨us[i]'(by omega), ?_, b.frozenAt i, c i hi (by omega), hlt⟩
  rw [World.ownsRow.cellAt b i (by omega), List.getElem?_eq_getElem (by omega)]

theorem eCells_length (es : List Sg.Ent) (us : List Value) (h : us.length = es.length) : (eCells es us).length = es.length * 2 := by
  unfold eCells
  induction es generalizing us with
  | nil => simp
  | cons e es ih =>
    cases us with
    | nil => simp at h
    | cons u us => simp only [List.zip_cons_cons, List.flatMap_cons, List.length_append, List.length_cons, List.length_nil]; rw [ih us (by simpa using h)]; omega
theorem eCells_one (es : List Sg.Ent) (us : List Value) (h : ∀ u ∈ us, u.oneCell' = true) : ∀ x ∈ eCells es us, x.oneCell' = true := by
  intro x hx
  unfold eCells at hx
  rw [List.mem_flatMap] at hx
  obtain ⟨⟨e, u⟩, h1, h2⟩ := hx
  simp at h2
  rcases h2 with rfl | rfl
  · rfl
  · exact h _ (List.of_mem_zip h1).2
/-- A list of entries, copied behind nothing: the row is new, the postings are shared. -/
theorem copy_ents {W : World} {B : Nat} {v : Value} {es : List Sg.Ent} (ty : TypeId) (h : OwnE W B v es) (h12 : es.length ≤ 12) :
    ∃ v' w' us, (Builtin.append_ #[33, 33] ty #[.slice none 0 0, v]).run Try.prog W = .ok v' w' ∧ us.length = es.length ∧ w'.ownsRow W.heap.size 40 2 v' es.length (eCells es us) ∧ (∀ i (h : i < es.length) (h2 : i < us.length), OwnP w' B us[i] es[i].posts) ∧ Below W.heap.size W w' := by
  obtain ⟨q0, qi, qz0, qz1, qz2⟩ := info_parts Try.infoEnt2
  obtain ⟨us, a, b, c⟩ := h
  have hk := b
  rcases b.2 with ⟨rfl, h0⟩ | ⟨g, cap, cur, rfl, hBg, hh, hle, hm, _, _⟩
  · have e0 : es = [] := List.eq_nil_of_length_eq_zero h0
    subst e0
    refine ⟨.slice none 0 0, W, us, run_append_owned_none (P := Try.prog) W B 33 ty 40 q0 2 Try.underlying33 qi _ 0 [] (World.ownsRow_nil W B _ _), a, World.ownsRow_nil W _ _ _, c, Below.refl _ _⟩
  · have hone : ∀ u ∈ us, u.oneCell' = true := by
      intro u hu
      obtain ⟨i, hi, rfl⟩ := List.getElem_of_mem hu
      obtain ⟨ao, n, cp, e⟩ := OwnP.shape (c i (by omega) hi)
      rw [e]; rfl
    obtain ⟨v', w', hr, hown, hg, _, _⟩ := run_append_own_at (P := Try.prog) W W.heap.size 33 ty 40 q0 (.agg #[.string ByteArray.empty, .slice none 0 0]) 2 40 Try.underlying33 qi qz0 qz1 qz2 rfl (by decide) (.slice none 0 0) 0 [] (World.ownsRow_nil W _ _ _) ⟨g, 0, none⟩ es.length cap (eCells es us) (eCells_length es us a)
      (fun j u hu => by
        have hj : j < es.length * 2 := by
          have := (List.getElem?_eq_some_iff.1 hu).1
          rw [eCells_length es us a] at this; exact this
        have ea : Addr.add ⟨g, 0, none⟩ j = ⟨g, j, none⟩ := by cases j <;> simp [Addr.add]
        rw [ea, World.ownsRow.cellAt hk j hj]; exact hu)
      (eCells_one es us hone) (by unfold maxLen; omega) (by omega) (Nat.le_refl _)
    have hb : Below W.heap.size W w' := (Below.refl _ _).grown hg (Nat.le_refl _) (fun k hk => by simp [Value.ownBlock] at hk)
    refine ⟨v', w', us, hr, a, ?_, fun i hi hi2 => ownsRow_below (c i hi hi2) hb, hb⟩
    simpa using hown
theorem OwnE.shape {w : World} {B : Nat} {v : Value} {es : List Sg.Ent} (h : OwnE w B v es) : ∃ ao cap, v = .slice ao es.length cap := by
  obtain ⟨us, a, b, c⟩ := h
  rcases b.2 with ⟨e, h0⟩ | ⟨g, cap, cur, e, _⟩
  · exact ⟨none, 0, by rw [e, h0]⟩
  · exact ⟨_, cap, e⟩

theorem OwnA.lt0 {w : World} {B : Nat} {v : Value} {ac : List Sg.Acc} (h : OwnA w B v ac) (hn : 0 < ac.length) : B < w.heap.size := by
  obtain ⟨g, cap, _, h1, h2⟩ := World.ownsRow.form h hn
  omega
theorem old_block2 (w : World) (o : Obj) (cs : Array Value) (t : TypeId) : ((w.alloc (.cells cs t)).alloc o).heap[w.heap.size]? = some (.cells cs t (0, 0)) := by
  rw [Below.heap_alloc _ _ _ (by simp)]
  exact heap_alloc_new w _
/-- An append whose run is known. -/
theorem wpList_append_known {P : Program} {w w' : World} {ops : Array Oper} {rest : List Oper} {o : Oper} {a : Act} {Q : Exit → Act → World → Prop} (hgd : o.guard = none) (s x : Operand) (t : TypeId)
    (ho : o.op = .call { callee := .builtin .append, args := #[s, x], argTypes := #[t, t] }) (v y v' : Value) (hs : a.eval s = v) (hx : a.eval x = y)
    (hrun : (Builtin.append_ #[t, t] o.type #[v, y]).run P w = .ok v' w') (h : wpList P ops Q rest (a.put o.dst v') w') : wpList P ops Q (o :: rest) a w := by
  refine wpList_plain hgd fun K hK => ?_
  unfold Oper.wp
  simp [execOp, ho, resolve, invoke, builtin, hs, hx, hrun, Result.andThen]
  exact hK _ _ h

/-- What stands between Balanced's steps: h's box, its lists, the entries that were there. -/
structure BdInv (w W : World) (hb B : Nat) (vA vP vW : Value) (ac : List Sg.Acc) (ps : List (List Sg.Ent)) (es : List Sg.Ent) : Prop where
  bel : Below w.heap.size w W
  box : Two W hb vA vP 26
  base : w.heap.size ≤ B
  accs : OwnA W B vA ac
  pers : OwnPs W B vP ps
  was : OwnE W B vW es
theorem BdInv.below {w W W' : World} {hb B : Nat} {vA vP vW : Value} {ac : List Sg.Acc} {ps : List (List Sg.Ent)} {es : List Sg.Ent} (m : BdInv w W hb B vA vP vW ac ps es) (h : Below W.heap.size W W') : BdInv w W' hb B vA vP vW ac ps es :=
  ⟨m.bel.trans (h.mono m.bel.size), m.box.below h, m.base, m.accs.below h, m.pers.below h, m.was.below h⟩
/-- An entry more, behind the copy. -/
theorem spoil_out {w W0 W X w5 : World} {hb B pb k : Nat} {vA vP vW vL v5 : Value} {ac : List Sg.Acc} {ps : List (List Sg.Ent)} {es es0 : List Sg.Ent} {us : List Value} {xs : List Sg.Pst} (m : BdInv w W0 hb B vA vP vW ac ps es0) (hB : B ≤ W0.heap.size) (hul : us.length = es.length) (hrow : W.ownsRow W0.heap.size 40 2 vL es.length (eCells es us)) (hus : ∀ i (h : i < es.length) (h2 : i < us.length), OwnP W B us[i] es[i].posts) (hb0 : Below W0.heap.size W0 W) (hX : Below W.heap.size W X)
    (hpb : X.heap[pb]? = some (.cells (pCells xs).toArray 37 (0, 0))) (hpB : B ≤ pb) (hk : xs.length = k) (hkm : k ≤ maxLen)
    (hgrow : X.grownBy w5 vL.ownBlock) (hown5 : w5.ownsRow W0.heap.size 40 2 v5 (es.length + 1) (eCells es us ++ [.string ByteArray.empty, .slice (some ⟨pb, 0, none⟩) k k])) :
    BdInv w w5 hb B vA vP vW ac ps es0 ∧ OwnE w5 B v5 (es ++ [⟨ByteArray.empty, xs⟩]) := by
  have h1 : Below W0.heap.size W0 X := hb0.trans (hX.mono hb0.size)
  have h2 : Below W0.heap.size W0 w5 := h1.grown hgrow h1.size (fun q hq => (World.ownsRow.lt hrow q hq).1)
  refine ⟨m.below h2, ?_⟩
  have hp : OwnP X B (.slice (some ⟨pb, 0, none⟩) k k) xs := by
    have hl : (pCells xs).length = k * 2 := by
      rw [← hk]
      unfold pCells
      clear hk hpb hown5
      induction xs with
      | nil => rfl
      | cons x xs ih => simp only [List.flatMap_cons, List.length_append, List.length_cons, List.length_nil]; rw [ih]; omega
    refine ⟨by rw [hl, hk], Or.inr ⟨pb, k, (pCells xs).toArray, by rw [hk], hpB, hpb, by omega, hkm, by rw [List.size_toArray, hl], ?_⟩⟩
    rw [List.toList_toArray, hk, ← hl, List.take_length]
  exact OwnE.push (W := X) (e := ⟨ByteArray.empty, xs⟩) hul (ownsRow_mono (ownsRow_below hrow hX) hB) (fun i h h2 => ownsRow_below (hus i h h2) hX) hp hgrow (ownsRow_mono hown5 hB)
/-- The store. -/
theorem BdInv.set {w W : World} {hb B g n cap i : Nat} {vA vW u : Value} {ac : List Sg.Acc} {ps : List (List Sg.Ent)} {es es1 : List Sg.Ent} (m : BdInv w W hb B vA (.slice (some ⟨g, 0, none⟩) n cap) vW ac ps es) (hi : i < ps.length) (hE : OwnE W B u es1) : BdInv w (W.setCell ⟨g, i, none⟩ u) hb B vA (.slice (some ⟨g, 0, none⟩) n cap) vW ac (ps.set i es1) es := by
  obtain ⟨hp, hk⟩ := m.pers.set (i := i) hE
  obtain ⟨_, _, _, _, hBg, _⟩ := m.pers.at_ hi
  exact ⟨m.bel.setCell (Nat.le_trans m.base hBg) _, hk _ _ _ _ m.box (by decide), m.base, m.accs.keptT hk (by decide), hp, m.was.keptT hk (by decide) (by decide)⟩
end Go.Proofs.Ytoadiibfmcjgaab

/-
  PLAIN MATHEMATICS OF Opened: no package stands at the head of another.
-/
namespace Go.Proofs.Ytoadiibfmcjgaab.Sg

/-- What is read out of a package, whatever stands behind it, is the history that was sealed. -/
theorem rdHist_front {R : Rd} (ok : RdOk R) {h : Hist} (hc : closeErr h = 0) (hf : HistFits h) (r : List UInt8) : rdHist R (tx (package h) ++ r) = h := by
  have hi : inBounds h = true := by
    cases hb : inBounds h with
    | true => rfl
    | false => unfold closeErr at hc; rw [hb] at hc; simp at hc
  have hp0 : (persTo h.accs h.pers (List.replicate h.accs.length 0)).1 = 0 := by
    unfold closeErr at hc; rw [if_pos hi] at hc; exact hc
  obtain ⟨l1, l2, l3, l4⟩ := persTo_lens h.accs h.pers _ hp0
  have hok := persTo_ok _ _ _ hp0
  have hba := bnd_accs hi
  have hbp := bnd_pers hi
  have hnum : (1 ≤ h.accs.length ∧ h.accs.length ≤ 8) ∧ 1 ≤ h.pers.length ∧ h.pers.length ≤ 6 := by
    unfold inBounds at hi
    simp only [Bool.and_eq_true, decide_eq_true_eq] at hi
    omega
  have ea := ok.a
  have ep := ok.p
  have hfine : ∀ p ∈ h.pers, perFine h.accs.length p := fun p hp => ⟨(hbp p hp).1, fun e he => ⟨((hbp p hp).2 e he).1, ((hbp p hp).2 e he).2, fun t ht => ⟨(hok p hp e he t ht).1, (hok p hp e he t ht).2, (hf p hp e he t ht).2⟩⟩⟩
  have et : tx (package h) ++ r = tx signT ++ (beL h.accs.length 1 ++ (h.accs.flatMap accL ++ (beL h.pers.length 1 ++ ((h.pers.zip ((balances h).zip (totals h))).flatMap perL ++ r)))) := by
    unfold package
    rw [if_pos hc]
    unfold pkTo
    have m1 : (balances h).length ≤ h.pers.length := Nat.le_of_eq l1
    have m2 : (totals h).length ≤ h.pers.length := Nat.le_of_eq l2
    rw [List.take_length, List.take_of_length_le m1, List.take_of_length_le m2, tx_persText, tx_append, tx_append, tx_chartB, tx_beB]
    simp only [List.append_assoc]
  have e4 : ∀ r, (tx signT ++ r).drop 4 = r := fun r => drop_txt signT r
  have hzl : (h.pers.zip ((balances h).zip (totals h))).length = h.pers.length := by
    rw [List.length_zip, List.length_zip]
    have m1 : (balances h).length = h.pers.length := l1
    have m2 : (totals h).length = h.pers.length := l2
    omega
  have eA : rdAccs R (tx (package h) ++ r) = (h.accs, beL h.pers.length 1 ++ ((h.pers.zip ((balances h).zip (totals h))).flatMap perL ++ r)) := by
    unfold rdAccs
    rw [et, e4, take_beL, drop_beL, numL_nat (by omega), Nat.min_eq_left (by omega), rdMany_back rdAcc accL id h.accs (fun a ha r => rdAcc_back (hba a ha).1 (hba a ha).2 r)]
    simp
  have eP : (rdPers R h.accs.length (beL h.pers.length 1 ++ ((h.pers.zip ((balances h).zip (totals h))).flatMap perL ++ r))).1 = h.pers := by
    unfold rdPers
    rw [take_beL, drop_beL, numL_nat (by omega), Nat.min_eq_left (by omega)]
    have := rdMany_back (rdPer R h.accs.length) perL (fun x => x.1) (h.pers.zip ((balances h).zip (totals h))) (fun x hx r => by
      obtain ⟨m1, m2, m3⟩ := mem_zip3 hx
      refine rdPer_back ok hnum.1.2 (hfine _ m1) ?_ (l4 _ m3) r
      have := l3 _ m2
      simpa using this) r
    rw [hzl] at this
    rw [this]
    simp only
    rw [List.map_fst_zip]
    rw [List.length_zip]
    have m1 : (balances h).length = h.pers.length := l1
    have m2 : (totals h).length = h.pers.length := l2
    omega
  unfold rdHist
  rw [eA]
  simp only
  rw [eP]

/-- A package is one. -/
theorem isPk_package {h : Hist} (hc : closeErr h = 0) (hf : HistFits h) : rdHist rdP (tx (package h)) = h ∧ isPk h (package h) :=
  ⟨rdHist_back rdP_ok hc hf, hc, rfl⟩
/-- What stands at the head of a package, or has one at its head, is the package itself. -/
theorem no_front {h g : Hist} {t : ByteArray} (hc : closeErr h = 0) (hf : HistFits h) (hg : isPk g t) (hfg : HistFits g) (r : List UInt8) (he : tx t ++ r = tx (package h) ∨ tx t = tx (package h) ++ r) : t = package h := by
  have e : g = h := by
    rcases he with he | he
    · have h1 := rdHist_front rdP_ok hg.1 hfg r
      rw [hg.2, he, rdHist_back rdP_ok hc hf] at h1
      exact h1.symm
    · have h1 := rdHist_front rdP_ok hc hf r
      rw [← he, ← hg.2, rdHist_back rdP_ok hg.1 hfg] at h1
      exact h1
  rw [← hg.2, e]
theorem not_cut {h : Hist} (hc : closeErr h = 0) (hf : HistFits h) (k : Nat) (hk : k < (package h).size) : ¬ isPk (rdHist rdP (tx ((package h).extract 0 k))) ((package h).extract 0 k) := by
  intro hg
  have et : tx ((package h).extract 0 k) = (tx (package h)).take k := by
    unfold tx
    rw [ByteArray.data_extract]
    simp
  have := no_front hc hf hg (rdHist_fits (fun s => fits_wrap _) _) ((tx (package h)).drop k) (Or.inl (by rw [et, List.take_append_drop]))
  have hs := congrArg ByteArray.size this
  rw [← tx_length, et, List.length_take, tx_length] at hs
  omega
theorem not_more {h : Hist} (hc : closeErr h = 0) (hf : HistFits h) (x : ByteArray) (hx : 0 < x.size) : ¬ isPk (rdHist rdP (tx (package h ++ x))) (package h ++ x) := by
  intro hg
  have := no_front hc hf hg (rdHist_fits (fun s => fits_wrap _) _) (tx x) (Or.inr (tx_append _ _))
  have hs := congrArg ByteArray.size this
  rw [ByteArray.size_append] at hs
  omega
theorem MadeOk.fits {h : Hist} (m : MadeOk h) : HistFits h := m.sizes.sizQ
theorem package_pos {h : Hist} (hc : closeErr h = 0) : 1 ≤ (package h).size := by
  unfold package
  rw [if_pos hc]
  unfold pkTo
  have : ∀ (o : ByteArray) (ps : List (List Ent)) (bs ts : List (List Int)), o.size ≤ (persText o ps bs ts).size := by
    intro o ps bs ts
    have h1 := congrArg List.length (tx_persText o ps bs ts)
    rw [tx_length, List.length_append, tx_length] at h1
    omega
  have h1 := this (signT ++ chartB h.accs ++ beB h.pers.length 1) (h.pers.take h.pers.length) ((balances h).take h.pers.length) ((totals h).take h.pers.length)
  rw [ByteArray.size_append, beB_size] at h1
  omega
theorem persText_size : ∀ (ps : List (List Ent)) (bs ts : List (List Int)) (o : ByteArray), (∀ p ∈ ps, p.length ≤ 12 ∧ ∀ e ∈ p, e.memo.size ≤ 20 ∧ e.posts.length ≤ 6) → (∀ b ∈ bs, b.length ≤ 8) → (∀ t ∈ ts, t.length ≤ 4) → (persText o ps bs ts).size ≤ o.size + 1100 * ps.length
  | [], _, _, o, _, _, _ => by simp [persText]
  | _ :: _, [], _, o, _, _, _ => by simp only [persText]; omega
  | _ :: _, _ :: _, [], o, _, _, _ => by simp only [persText]; omega
  | p :: ps, b :: bs, t :: ts, o, h1, h2, h3 => by
    simp only [persText, List.length_cons]
    have hp := h1 p (by simp)
    have k1 := perText_size o p b t hp.2 hp.1 (h2 b (by simp)) (h3 t (by simp))
    have k2 := persText_size ps bs ts (perText o p b t) (fun q hq => h1 q (by simp [hq])) (fun q hq => h2 q (by simp [hq])) (fun q hq => h3 q (by simp [hq]))
    omega
theorem package_small {h : Hist} (hc : closeErr h = 0) : (package h).size ≤ 10000 := by
  have hi : inBounds h = true := by
    cases hb : inBounds h with
    | true => rfl
    | false => unfold closeErr at hc; rw [hb] at hc; simp at hc
  have hp0 : (persTo h.accs h.pers (List.replicate h.accs.length 0)).1 = 0 := by
    unfold closeErr at hc; rw [if_pos hi] at hc; exact hc
  obtain ⟨l1, l2, l3, l4⟩ := persTo_lens h.accs h.pers _ hp0
  have hnum : (1 ≤ h.accs.length ∧ h.accs.length ≤ 8) ∧ 1 ≤ h.pers.length ∧ h.pers.length ≤ 6 := by
    unfold inBounds at hi
    simp only [Bool.and_eq_true, decide_eq_true_eq] at hi
    omega
  unfold package
  rw [if_pos hc]
  unfold pkTo
  have hb := bnd_pers hi
  have k := persText_size (h.pers.take h.pers.length) ((balances h).take h.pers.length) ((totals h).take h.pers.length) (signT ++ chartB h.accs ++ beB h.pers.length 1)
    (fun p hp => hb p (List.mem_of_mem_take hp)) (fun b hb' => by have := l3 b (List.mem_of_mem_take hb'); rw [this]; simp; omega) (fun t ht' => by have := l4 t (List.mem_of_mem_take ht'); omega)
  rw [ByteArray.size_append, ByteArray.size_append, beB_size, List.take_length] at k
  have k1 := chartB_size h.accs (fun a ha => (bnd_accs hi a ha).1)
  have k2 : signT.size = 4 := rfl
  rw [List.take_length]
  omega
theorem headOf_size {h : Hist} (hc : closeErr h = 0) : (headOf h).size = 2 := by
  unfold headOf
  rw [if_pos hc]
  exact hdTo_last _ _ _ _
end Go.Proofs.Ytoadiibfmcjgaab.Sg

/-
  THE WALK of signetkeep.Grown (P7, P13).
-/
namespace Go.Proofs.Ytoadiibfmcjgaab
open Go.RowKit
set_option maxRecDepth 100000
attribute [local go_sem ↓] Go.wp_at_zero Go.wp_at_succ

namespace Sg
/-- The history's first periods. -/
def upto (h : Hist) (k : Nat) : Hist := ⟨h.accs, h.pers.take k⟩
theorem MadeOk.upto {h : Hist} (m : MadeOk h) {k : Nat} (h1 : 1 ≤ k) : MadeOk (upto h k) :=
  ⟨m.accs, m.chart, by have := m.pers; show 1 ≤ (h.pers.take k).length ∧ (h.pers.take k).length ≤ 6; rw [List.length_take]; omega, fun p hp => m.ents p (List.mem_of_mem_take hp)⟩
theorem upto_all (h : Hist) : upto h h.pers.length = h := by unfold upto; rw [List.take_length]
theorem upto_plus (h : Hist) (k : Nat) (hk : k < h.pers.length) : plus (upto h k) h.pers[k] = upto h (k + 1) := by
  unfold plus upto; rw [List.take_succ_eq_append_getElem hk]
def badEnt : Ent := ⟨ByteArray.empty, [⟨0, 1⟩]⟩
theorem bad_err {nA : Nat} (h2 : 1 ≤ nA) (now : List Int) : entErr nA badEnt now = 3 :=
  entErr_three (fun p hp => by simp [badEnt] at hp; subst hp; exact ⟨by simp, by simp; omega⟩) (by simp [amtSum, badEnt])
theorem set_snoc {α : Type} (l : List α) (a b : α) : (l ++ [a]).set l.length b = l ++ [b] := by simp
/-- What cannot be sealed at once cannot be added. -/
theorem plus_bad {h : Hist} (m : MadeOk h) : closeErr (plus h [badEnt]) = if h.pers.length = 6 then 1 else 3 := by
  by_cases h6 : h.pers.length = 6
  · rw [if_pos h6]
    unfold closeErr
    rw [if_neg]
    unfold inBounds
    have : (plus h [badEnt]).pers.length = 7 := by unfold plus; simp [h6]
    rw [this]
    simp
  · rw [if_neg h6]
    have hp := m.pers
    have m2 : MadeOk ⟨h.accs, h.pers ++ [[]]⟩ := ⟨m.accs, m.chart, by show 1 ≤ (h.pers ++ [[]]).length ∧ _; rw [List.length_append]; simp; omega, fun p hp' => by
      rcases List.mem_append.1 hp' with hq | hq
      · exact m.ents p hq
      · simp at hq; subst hq; exact ⟨by simp, by simp⟩⟩
    have hi : h.pers.length < (h.pers ++ [[]]).length := by rw [List.length_append]; simp
    have e0 : (h.pers ++ [([] : List Ent)])[h.pers.length]'hi = [] := snoc_last h.pers [] _ hi rfl
    have := m2.spoilt (i := h.pers.length) hi (by show ((h.pers ++ [([] : List Ent)])[h.pers.length]'hi).length < 12; rw [e0]; simp) badEnt (decide_eq_true ⟨by decide, by decide, by decide⟩) 3 (by decide) (fun now b _ _ _ _ => bad_err (by have := m.accs; simp; omega) now)
    simp only at this
    rw [e0, List.nil_append, set_snoc] at this
    exact this
end Sg

/-- Extend of a package. -/
theorem extend_pk {h : Sg.Hist} {t : ByteArray} (hc : Sg.closeErr h = 0) (hf : Sg.HistFits h) (ht : t = Sg.package h) (p : List Sg.Ent) (aoX : Option Addr) (nX capX : Nat) (w : World) (hE : EntsIn w aoX p) (hn : p.length = nX) (hp : PerSizes p) :
    Calls Try.prog 8 #[.string t, .agg #[.slice aoX nX capX]] w fun e w' => ∃ pk hd ee, e = .returned (.tuple #[.string pk, .string hd, .int .i64 ee]) ∧ Hid (pk = Sg.package (Sg.plus h p) ∧ hd = Sg.headOf (Sg.plus h p) ∧ ee = Sg.closeErr (Sg.plus h p)) ∧ Below w.heap.size w w' := by
  obtain ⟨q1, q2⟩ := Sg.isPk_package hc hf
  rw [← ht] at q1 q2
  refine (extend_any t p aoX nX capX w hE hn hp).mono ?_
  rw [q1]
  rintro e w' ⟨hb, ⟨hn', _⟩ | ⟨_, rfl⟩⟩
  · exact absurd q2 hn'
  · exact ⟨_, _, _, rfl, ⟨rfl, rfl, rfl⟩, hb⟩
/-- Seal, what it answers under names of its own. -/
theorem seal_txt (h : Sg.Hist) (hc0 : Sg.closeErr h = 0) (aoA aoP : Option Addr) (nA nP capA capP : Nat) (w : World) (hH : HistIn w aoA aoP nA nP h) (hnc : nA ≤ capA) (hcap : capA ≤ 9223372036854775807) :
    Calls Try.prog 6 #[.agg #[.slice aoA nA capA, .slice aoP nP capP]] w fun e w' => ∃ pk hd, e = .returned (.tuple #[.string pk, .string hd, .int .i64 0]) ∧ Hid (pk = Sg.package h ∧ hd = Sg.headOf h) ∧ Below w.heap.size w w' := by
  refine (seal_any h aoA aoP nA nP capA capP w hH hnc hcap).mono ?_
  rintro e w' ⟨rfl, hb⟩
  exact ⟨_, _, by rw [hc0], ⟨rfl, rfl⟩, hb⟩
/-- A list's first periods, in memory. -/
theorem HistIn.upto {w : World} {aoA aoP : Option Addr} {nA nP k : Nat} {h : Sg.Hist} (b : HistIn w aoA aoP nA nP h) (hk : k ≤ nP) : HistIn w aoA aoP nA k (Sg.upto h k) := by
  have hl := b.lenP
  have hlk : (h.pers.take k).length = k := by rw [List.length_take]; omega
  refine ⟨b.accs, ?_, b.lenA, hlk, b.sizA, fun p hp => b.sizP p (List.mem_of_mem_take hp), fun p hp => b.sizQ p (List.mem_of_mem_take hp)⟩
  rcases b.pers with h0 | ⟨bb, off, e, hb, hat⟩
  · exact Or.inl (by show (h.pers.take k).length = 0; omega)
  · refine Or.inr ⟨bb, off, e, hb, fun i hi => ?_⟩
    have hi' : i < k := by have h' : i < (h.pers.take k).length := hi; omega
    have e1 : (Sg.upto h k).pers[i]'hi = h.pers[i]'(by omega) := by
      have : (h.pers.take k)[i]'hi = h.pers[i]'(by omega) := List.getElem_take
      exact this
    rw [e1]
    exact hat i (by omega)

theorem bad_ents {W : World} {b1 b2 : Nat} (h1 : W.heap[b1]? = some (.cells #[.int .i64 0, .int .i64 1] 37 (0, 0))) (h2 : W.heap[b2]? = some (.cells #[.string { data := #[] }, .slice (some ⟨b1, 0, none⟩) 1 1] 40 (0, 0))) : EntsIn W (some ⟨b2, 0, none⟩) [Sg.badEnt] := by
  refine Or.inr ⟨b2, 0, rfl, lt_of_block h2, fun i hi => ?_⟩
  have hi0 : i = 0 := by simp at hi; omega
  subst hi0
  refine ⟨by rw [cell_of_row W _ _ _ _ _ h2]; rfl, some ⟨b1, 0, none⟩, 1, by rw [cell_of_row W _ _ _ _ _ h2]; rfl, Or.inr ⟨b1, 0, rfl, lt_of_block h1, fun j hj => ?_⟩⟩
  have hj0 : j = 0 := by
    have : j < 1 := hj
    omega
  subst hj0
  exact ⟨by rw [cell_of_row W _ _ _ _ _ h1]; rfl, by rw [cell_of_row W _ _ _ _ _ h1]; rfl⟩
theorem three_blocks (w : World) (o3 : Obj) (c1 c2 : Array Value) (t1 t2 : TypeId) : (((w.alloc (.cells c1 t1)).alloc (.cells c2 t2)).alloc o3).heap[w.heap.size]? = some (.cells c1 t1 (0, 0)) ∧ (((w.alloc (.cells c1 t1)).alloc (.cells c2 t2)).alloc o3).heap[w.heap.size + 1]? = some (.cells c2 t2 (0, 0)) := by
  refine ⟨?_, ?_⟩
  · rw [Below.heap_alloc _ _ _ (by simp; omega), Below.heap_alloc _ _ _ (by simp)]
    exact heap_alloc_new w _
  · rw [Below.heap_alloc _ _ _ (by simp)]
    have := heap_alloc_new (w.alloc (.cells c1 t1)) (.cells c2 t2)
    simpa using this

set_option maxHeartbeats 6400000 in
theorem grown_any (c each : Int) (rs : List Raw) (ao : Option Addr) (nr cap : Nat) (w : World) (hc : -9223372036854775808 ≤ c ∧ c ≤ 9223372036854775807) (he : -9223372036854775808 ≤ each ∧ each ≤ 9223372036854775807) (hl : rs.length = nr) (hnr : nr ≤ 4611686018427387904) (hR : RawsIn w ao rs) (hf : ∀ r ∈ rs, rawFits r) :
    Calls Try.prog 3 #[.int .i64 c, .slice ao nr cap, .int .i64 each] w fun e w' => e = .returned (.bool true) ∧ Below w.heap.size w w' := by
  have hcall := made_any c each rs ao nr cap w hc he hl hnr hR hf
  clear hl hR hf hnr hc he
  go_enter Try.func3, Try.ntmps3
  go_wp2_with fail
  refine hcall.mono ?_
  rintro e w1 ⟨vA, vP, rfl, HM⟩
  clear hcall
  obtain ⟨ac, ps, hA, hP, hok, hb1⟩ := HM
  obtain ⟨aoA, capA, aoP, capP, e1, e2, c1, c2, hH⟩ := hist_own (h := ⟨ac, ps⟩) hA hP hok.sizes
  have hcP : ps.length ≤ capP ∧ capP ≤ 9223372036854775807 := by
    obtain ⟨us, _, hrow, _⟩ := hP
    rcases hrow.2 with ⟨e, h0⟩ | ⟨g, cp, cur, e, _, _, h3, h4, _⟩
    · rw [e2] at e
      simp only [Value.slice.injEq] at e
      have := hok.pers
      simp at this
      omega
    · rw [e2] at e
      simp only [Value.slice.injEq] at e
      unfold maxLen at h4
      omega
  obtain ⟨h, hh⟩ : ∃ h, (⟨ac, ps⟩ : Sg.Hist) = h := ⟨_, rfl⟩
  have hpe : h.pers = ps := by rw [← hh]
  rw [hh] at e1 e2 c1 hH hok
  rw [← hpe] at hcP
  obtain ⟨nA, hnA⟩ : ∃ k, h.accs.length = k := ⟨_, rfl⟩
  obtain ⟨nP, hnP⟩ : ∃ k, h.pers.length = k := ⟨_, rfl⟩
  rw [hnA] at e1 c1 hH
  rw [hnP] at e2 hH hcP
  subst e1 e2
  have hc0 := hok.sealed
  have hp1 : 1 ≤ nP ∧ nP ≤ 6 := by rw [← hnP]; exact hok.pers
  obtain ⟨bP, offP, eP⟩ : ∃ bP offP, aoP = some ⟨bP, offP, none⟩ := by
    obtain ⟨b, o, e, _⟩ := hH.pers.cell (k := 0) (by rw [hnP]; omega)
    exact ⟨b, o, e⟩
  subst eP
  have HOk : Hid (Sg.MadeOk h) := hok
  have HNA : Hid (h.accs.length = nA) := hnA
  have HNP : Hid (h.pers.length = nP) := hnP
  have HH1 : Hid (HistIn w1 aoA (some ⟨bP, offP, none⟩) nA nP h) := hH
  clear hA hP hok hh hpe hH hnA hnP
  have aB : Below w1.heap.size w1 (w1.alloc (.cells #[.slice aoA nA capA, .slice (some ⟨bP, offP, none⟩) nP capP] 26)) := (Below.refl _ _).alloc (Nat.le_refl _) _
  have hT := Two.new w1 (.slice aoA nA capA) (.slice (some ⟨bP, offP, none⟩) nP capP) 26
  have b1 := hb1.trans (aB.mono hb1.size)
  have HH2 : Hid (HistIn (w1.alloc (.cells #[.slice aoA nA capA, .slice (some ⟨bP, offP, none⟩) nP capP] 26)) aoA (some ⟨bP, offP, none⟩) nA nP h) := HH1.out.below aB
  have hcall := seal_txt h hc0 aoA (some ⟨bP, offP, none⟩) nA nP capA capP _ HH2.out c1 c2
  clear HH1 aB hb1 hc0
  go_wp2_with fail
  generalize w1.alloc (.cells #[.slice aoA nA capA, .slice (some ⟨bP, offP, none⟩) nP capP] 26) = W at *
  refine hcall.mono ?_
  rintro e w2 ⟨pk, hd, rfl, HPk, hb2⟩
  have hT2 := hT.below hb2
  have b2 := b1.trans (hb2.mono b1.size)
  have HH3 : Hid (HistIn w2 aoA (some ⟨bP, offP, none⟩) nA nP h) := HH2.out.below hb2
  clear HH2 hT b1 hb2 hcall
  obtain ⟨bx0, bx1⟩ := hT2.cells
  have hlt2 : w1.heap.size < w2.heap.size := lt_of_block hT2
  have aC : Below w2.heap.size w2 (w2.alloc (.cells #[.slice aoA nA capA, .slice (some ⟨bP, offP, none⟩) 1 capP] 26)) := (Below.refl _ _).alloc (Nat.le_refl _) _
  have hT3 := hT2.below aC
  have b3 := b2.trans (aC.mono b2.size)
  have HH4 : Hid (HistIn (w2.alloc (.cells #[.slice aoA nA capA, .slice (some ⟨bP, offP, none⟩) 1 capP] 26)) aoA (some ⟨bP, offP, none⟩) nA nP h) := HH3.out.below aC
  have hcall := seal_txt (Sg.upto h 1) (HOk.out.upto (Nat.le_refl _)).sealed aoA (some ⟨bP, offP, none⟩) nA 1 capA capP _ (HH4.out.upto (k := 1) (by omega)) c1 c2
  have i1 : (1 : Int) ≤ (capP : Int) := by omega
  clear hT2 HH3 aC b2
  go_wp2_with fail
  generalize w2.alloc (.cells #[.slice aoA nA capA, .slice (some ⟨bP, offP, none⟩) 1 capP] 26) = W3 at *
  refine hcall.mono ?_
  rintro e w4 ⟨pk1, hd1, rfl, HPk1, hb4⟩
  have hT4 := hT3.below hb4
  have b4 := b3.trans (hb4.mono b3.size)
  have HH5 : Hid (HistIn w4 aoA (some ⟨bP, offP, none⟩) nA nP h) := HH4.out.below hb4
  clear hT3 b3 HH4 hb4 hcall bx0 bx1
  go_wp2_with fail
  refine (lives_any _).mono ?_
  rintro e w5 ⟨rfl, hb5⟩
  have HI0 : Hid (Two w5 w1.heap.size (.slice aoA nA capA) (.slice (some ⟨bP, offP, none⟩) nP capP) 26 ∧ HistIn w5 aoA (some ⟨bP, offP, none⟩) nA nP h ∧ Below w.heap.size w w5) := ⟨hT4.below hb5, HH5.out.below hb5, b4.trans (hb5.mono b4.size)⟩
  clear hT4 b4 HH5 hb5
  go_wp2_with fail
  go_loopw [12, 13, 16] (fun q t i wr => ∃ k : Nat, 1 ≤ k ∧ k ≤ nP ∧ i = .int .i64 (k : Int) ∧ ∃ qq tt, q = .string qq ∧ t = .string tt ∧ Hid (qq = Sg.package (Sg.upto h k) ∧ tt = Sg.headOf (Sg.upto h k)) ∧ Hid (Two wr w1.heap.size (.slice aoA nA capA) (.slice (some ⟨bP, offP, none⟩) nP capP) 26 ∧ HistIn wr aoA (some ⟨bP, offP, none⟩) nA nP h ∧ Below w.heap.size w wr)) (fun _ _ i _ => nP - (intOf i).toNat)
  case atStart => exact ⟨1, by omega, by omega, rfl, _, _, rfl, rfl, HPk1, HI0⟩
  case round =>
    obtain ⟨k, hk1, hk, rfl, qq, tt, rfl, rfl, HQ, HI⟩ := hrel
    obtain ⟨wz, ewz⟩ : ∃ z : World, z = wr := ⟨_, rfl⟩
    subst ewz
    clear HI0
    obtain ⟨bx0, bx1⟩ := HI.out.1.cells
    by_cases hgo : k < nP
    · have g1 : (k : Int) < (nP : Int) := by omega
      have g0 : (0 : Int) ≤ (k : Int) := by omega
      have hka : k < h.pers.length := by rw [HNP.out]; exact hgo
      obtain ⟨bQ, offQ, eQ, _, aoE, capE, hx, hE⟩ := HI.out.2.1.pers.cell (k := k) hka
      simp only [Option.some.injEq, Addr.mk.injEq, and_true] at eQ
      obtain ⟨rfl, rfl⟩ := eQ
      have hps : PerSizes h.pers[k] := ⟨HI.out.2.1.sizP _ (List.getElem_mem hka), HI.out.2.1.sizQ _ (List.getElem_mem hka)⟩
      have mk := HOk.out.upto hk1
      have hcall := extend_pk (h := Sg.upto h k) mk.sealed mk.fits HQ.out.1 h.pers[k] aoE h.pers[k].length capE wz hE rfl hps
      rw [Sg.upto_plus h k hka] at hcall
      have HC : Hid (Sg.closeErr (Sg.upto h (k + 1)) = 0) := (HOk.out.upto (by omega : 1 ≤ k + 1)).sealed
      generalize h.pers[k].length = nE at *
      clear hE hps mk
      go_wp2_with fail
      refine hcall.mono ?_
      clear hcall
      rintro e w7 ⟨u, v, g, rfl, HU, hb7⟩
      have hg0 : g = 0 := by rw [HU.out.2.2]; exact HC.out
      subst hg0
      have HI7 : Hid (Two w7 w1.heap.size (.slice aoA nA capA) (.slice (some ⟨bP, offP, none⟩) nP capP) 26 ∧ HistIn w7 aoA (some ⟨bP, offP, none⟩) nA nP h ∧ Below w.heap.size w w7) := ⟨HI.out.1.below hb7, HI.out.2.1.below hb7, HI.out.2.2.trans (hb7.mono HI.out.2.2.size)⟩
      have HU2 : Hid (u = Sg.package (Sg.upto h (k + 1)) ∧ v = Sg.headOf (Sg.upto h (k + 1))) := ⟨HU.out.1, HU.out.2.1⟩
      clear HI hb7 HU HC bx0 bx1 hx
      go_wp2_with fail
      go_roundw
      case rel => exact ⟨k + 1, by omega, by omega, by go_num, _, _, rfl, rfl, HU2, HI7⟩
      case measure => simp [intOf]; omega
    · have g1 : ¬ (k : Int) < (nP : Int) := by omega
      have hkn : k = nP := by omega
      have hall : Sg.upto h k = h := by rw [hkn, ← HNP.out]; exact Sg.upto_all h
      have hqq : qq = pk := by rw [HQ.out.1, hall, HPk.out.1]
      have htt : tt = hd := by rw [HQ.out.2, hall, HPk.out.2]
      subst hqq htt
      have aZ : Below wz.heap.size wz (((wz.alloc (.cells #[.int .i64 0, .int .i64 1] 37)).alloc (.cells #[.string { data := #[] }, .slice (some ⟨wz.heap.size, 0, none⟩) 1 1] 40)).alloc (.cells #[.slice (some ⟨wz.heap.size + 1, 0, none⟩) 1 1] 35)) := (((Below.refl _ _).alloc (Nat.le_refl _) _).alloc (by simp) _).alloc (by simp; omega) _
      have hE : EntsIn (((wz.alloc (.cells #[.int .i64 0, .int .i64 1] 37)).alloc (.cells #[.string { data := #[] }, .slice (some ⟨wz.heap.size, 0, none⟩) 1 1] 40)).alloc (.cells #[.slice (some ⟨wz.heap.size + 1, 0, none⟩) 1 1] 35)) (some ⟨wz.heap.size + 1, 0, none⟩) [Sg.badEnt] := by
        exact bad_ents (three_blocks wz _ _ _ _ _).1 (three_blocks wz _ _ _ _ _).2
      have hps : PerSizes [Sg.badEnt] := ⟨⟨by simp, fun e he => by simp at he; subst he; exact ⟨by decide, by decide⟩⟩, fun e he t ht => by simp at he; subst he; simp [Sg.badEnt] at ht; subst ht; exact ⟨by decide, by decide⟩⟩
      have hcall := extend_pk (h := h) HOk.out.sealed HOk.out.fits HPk.out.1 [Sg.badEnt] (some ⟨wz.heap.size + 1, 0, none⟩) 1 1 _ hE rfl hps
      have HBad : Hid (Sg.closeErr (Sg.plus h [Sg.badEnt]) = if nP = 6 then 1 else 3) := by show _ = _; rw [Sg.plus_bad HOk.out, HNP.out]
      have hT9 := HI.out.1.below aZ
      have b9 := HI.out.2.2.trans (aZ.mono HI.out.2.2.size)
      clear hE hps HI aZ hall hkn HQ
      go_wp2_with fail
      refine hcall.mono ?_
      clear hcall
      rintro e w9 ⟨u, v, g, rfl, HU, hb9⟩
      clear bx0 bx1
      obtain ⟨bx0, bx1⟩ := (hT9.below hb9).cells
      have b10 := b9.trans (hb9.mono b9.size)
      have hg : g = if nP = 6 then 1 else 3 := by rw [HU.out.2.2, HBad.out]
      by_cases h6 : nP = 6
      · rw [if_pos h6] at hg
        subst hg
        have q6 : ((nP : Int) == 6) = true := by rw [h6]; rfl
        clear HU HBad hT9 h6
        go_wp2_with fail
        go_ret
        exact ⟨rfl, b10⟩
      · rw [if_neg h6] at hg
        subst hg
        have q6 : ((nP : Int) == 6) = false := by simp; omega
        clear HU HBad hT9
        go_wp2_with fail
        go_ret
        exact ⟨rfl, b10⟩
end Go.Proofs.Ytoadiibfmcjgaab
