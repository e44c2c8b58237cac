import Derived.Test.YtoadiibfmcjgaaaMade
import Derived.Test.YtoadiibfmcjgaaaHhead
import Derived.Test.YtoadiibfmcjgaaaMadeSpec
import Derived.Test.YtoadiibfmcjgaaaReadSpec
import Derived.Test.YtoadiibfmcjgaaaRefSeal
import Derived.Test.YtoadiibfmcjgaaaMDec
/-
  WHAT Balanced LEANS ON: a history of signetkeep's, in memory; one whose period got an entry more.
-/
namespace Go.Proofs.Ytoadiibfmcjgaaa
open Go.RowKit
set_option maxRecDepth 100000

/-- What Seal asks of a history's sizes. -/
structure HistSizes (h : Sg.Hist) : Prop where
  sizA : ∀ a ∈ h.accs, a.name.size ≤ 140737488355328 ∧ Sg.fits a.line = true
  sizP : ∀ p ∈ h.pers, p.length ≤ 140737488355328 ∧ ∀ e ∈ p, e.memo.size ≤ 140737488355328 ∧ e.posts.length ≤ 140737488355328
  sizQ : ∀ p ∈ h.pers, ∀ e ∈ p, ∀ t ∈ e.posts, Sg.fits t.acct = true ∧ Sg.fits t.amt = true
theorem entFine_sizes {nA : Nat} (hn : nA ≤ 8) {e : Sg.Ent} (h : Sg.EntFine nA e) : (e.memo.size ≤ 140737488355328 ∧ e.posts.length ≤ 140737488355328) ∧ ∀ t ∈ e.posts, Sg.fits t.acct = true ∧ Sg.fits t.amt = true := by
  refine ⟨⟨by have := h.memo; omega, by have := h.few; omega⟩, fun t ht => ?_⟩
  have h1 := h.accts t ht
  have h2 := h.small t ht
  unfold Sg.acctOk at h1
  exact ⟨decide_eq_true (by omega), decide_eq_true (by omega)⟩
theorem Sg.MadeOk.sizes {h : Sg.Hist} (m : Sg.MadeOk h) : HistSizes h := by
  refine ⟨fun a ha => ?_, fun p hp => ⟨by have := (m.ents p hp).1; omega, fun e he => (entFine_sizes m.accs.2 ((m.ents p hp).2 e he)).1⟩, fun p hp e he => (entFine_sizes m.accs.2 ((m.ents p hp).2 e he)).2⟩
  have := Sg.bnd_accs m.inb a ha
  exact ⟨by omega, decide_eq_true (by omega)⟩
/-- One period got an entry more. -/
theorem HistSizes.more {ac : List Sg.Acc} {ps : List (List Sg.Ent)} (s : HistSizes ⟨ac, ps⟩) {i : Nat} (hi : i < ps.length) (h12 : ps[i].length < 12) (x : Sg.Ent) (hm : x.memo.size ≤ 20) (hl : x.posts.length ≤ 6) (hx : ∀ t ∈ x.posts, Sg.fits t.acct = true ∧ Sg.fits t.amt = true) : HistSizes ⟨ac, ps.set i (ps[i] ++ [x])⟩ := by
  refine ⟨s.sizA, fun p hp => ?_, fun p hp e he => ?_⟩
  · rcases List.mem_or_eq_of_mem_set hp with hp | rfl
    · exact s.sizP p hp
    · have h1 := s.sizP _ (List.getElem_mem hi)
      refine ⟨by simp; omega, fun e he => ?_⟩
      rcases List.mem_append.1 he with he | he
      · exact h1.2 e he
      · simp at he; subst he; omega
  · rcases List.mem_or_eq_of_mem_set hp with hp | rfl
    · exact s.sizQ p hp e he
    · rcases List.mem_append.1 he with he | he
      · exact s.sizQ _ (List.getElem_mem hi) e he
      · simp at he; subst he; exact hx

/-- A history of own lists, as Seal asks for it. -/
theorem hist_own {W : World} {B : Nat} {vA vP : Value} {h : Sg.Hist} (hA : OwnA W B vA h.accs) (hP : OwnPs W B vP h.pers) (s : HistSizes h) : ∃ aoA capA aoP capP, vA = .slice aoA h.accs.length capA ∧ vP = .slice aoP h.pers.length capP ∧ h.accs.length ≤ capA ∧ capA ≤ 9223372036854775807 ∧ HistIn W aoA aoP h.accs.length h.pers.length h := by
  obtain ⟨aoA, capA, e1, c1, c2, iA⟩ := hA.in_
  obtain ⟨aoP, capP, e2, _, iP⟩ := hP.in_
  refine ⟨aoA, capA, aoP, capP, e1, e2, c1, by unfold maxLen at c2; omega, iA, iP, rfl, rfl, s.sizA, s.sizP, s.sizQ⟩
theorem seal_own {W : World} {B : Nat} {vA vP : Value} {h : Sg.Hist} (hA : OwnA W B vA h.accs) (hP : OwnPs W B vP h.pers) (s : HistSizes h) :
    Calls Try.prog 25 #[.agg #[vA, vP]] W fun e w' => e = .returned (.tuple #[.string (Sg.package h), .string (Sg.headOf h), .int .i64 (Sg.closeErr h)]) ∧ Below W.heap.size W w' := by
  obtain ⟨aoA, capA, aoP, capP, rfl, rfl, c1, c2, hH⟩ := hist_own hA hP s
  exact seal_any h aoA aoP _ _ capA capP W hH c1 c2

/-- A store into the list of periods. -/
theorem OwnPs.set {w : World} {B g n cap i : Nat} {ps : List (List Sg.Ent)} {es : List Sg.Ent} {u : Value} (h : OwnPs w B (.slice (some ⟨g, 0, none⟩) n cap) ps) (hE : OwnE w B u es) : OwnPs (w.setCell ⟨g, i, none⟩ u) B (.slice (some ⟨g, 0, none⟩) n cap) (ps.set i es) ∧ KeptT 47 w (w.setCell ⟨g, i, none⟩ u) := by
  obtain ⟨us, a, b, c⟩ := h
  have hn : n = ps.length := by
    rcases b.2 with ⟨h0, _⟩ | ⟨g', cap', cur, h0, _⟩
    · simp at h0
    · simp at h0; exact h0.2.1
  subst hn
  have hb := b
  rcases b.2 with ⟨h0, _⟩ | ⟨g', cap', cur, h0, _, hg, _⟩
  · simp at h0
  simp only [Value.slice.injEq, Option.some.injEq, Addr.mk.injEq, and_true, true_and] at h0
  obtain ⟨rfl, rfl⟩ := h0
  have hk : KeptT 47 w (w.setCell ⟨g, i, none⟩ u) := keptT_setCell hg
  refine ⟨⟨us.set i u, by simp [a], ?_, fun j hj hj2 => ?_⟩, hk⟩
  · rw [List.length_set]
    exact (hb.stored i u).1
  · rw [List.length_set] at hj
    by_cases e : i = j
    · subst e
      rw [List.getElem_set_self, List.getElem_set_self]
      exact hE.keptT hk (by decide) (by decide)
    · rw [List.getElem_set_ne e, List.getElem_set_ne e]
      exact (c j hj (by omega)).keptT hk (by decide) (by decide)
theorem OwnPs.at_ {w : World} {B g n cap i : Nat} {ps : List (List Sg.Ent)} (h : OwnPs w B (.slice (some ⟨g, 0, none⟩) n cap) ps) (hi : i < ps.length) : ∃ v, w.cell? ⟨g, i, none⟩ = some v ∧ w.frozen? ⟨g, i, none⟩ = false ∧ OwnE w B v ps[i] ∧ B ≤ g ∧ g < w.heap.size := by
  obtain ⟨us, a, b, c⟩ := h
  have hn : n = ps.length := by
    rcases b.2 with ⟨h0, _⟩ | ⟨g', cap', cur, h0, _⟩
    · simp at h0
    · simp at h0; exact h0.2.1
  subst hn
  have hlt : B ≤ g ∧ g < w.heap.size := by
    rcases b.2 with ⟨h0, _⟩ | ⟨g', cap', cur, h0, hB, hg, _⟩
    · simp at h0
    · simp only [Value.slice.injEq, Option.some.injEq, Addr.mk.injEq, and_true, true_and] at h0
      obtain ⟨rfl, rfl⟩ := h0
      exact ⟨hB, lt_of_block hg⟩
  refine ⟨us[i]'(by omega), ?_, b.frozenAt i, c i hi (by omega), hlt⟩
  rw [World.ownsRow.cellAt b i (by omega), List.getElem?_eq_getElem (by omega)]

theorem eCells_length (es : List Sg.Ent) (us : List Value) (h : us.length = es.length) : (eCells es us).length = es.length * 2 := by
  unfold eCells
  induction es generalizing us with
  | nil => simp
  | cons e es ih =>
    cases us with
    | nil => simp at h
    | cons u us => simp only [List.zip_cons_cons, List.flatMap_cons, List.length_append, List.length_cons, List.length_nil]; rw [ih us (by simpa using h)]; omega
theorem eCells_one (es : List Sg.Ent) (us : List Value) (h : ∀ u ∈ us, u.oneCell' = true) : ∀ x ∈ eCells es us, x.oneCell' = true := by
  intro x hx
  unfold eCells at hx
  rw [List.mem_flatMap] at hx
  obtain ⟨⟨e, u⟩, h1, h2⟩ := hx
  simp at h2
  rcases h2 with rfl | rfl
  · rfl
  · exact h _ (List.of_mem_zip h1).2
/-- A list of entries, copied behind nothing: the row is new, the postings are shared. -/
theorem copy_ents {W : World} {B : Nat} {v : Value} {es : List Sg.Ent} (ty : TypeId) (h : OwnE W B v es) (h12 : es.length ≤ 12) :
    ∃ v' w' us, (Builtin.append_ #[45, 45] ty #[.slice none 0 0, v]).run Try.prog W = .ok v' w' ∧ us.length = es.length ∧ w'.ownsRow W.heap.size 55 2 v' es.length (eCells es us) ∧ (∀ i (h : i < es.length) (h2 : i < us.length), OwnP w' B us[i] es[i].posts) ∧ Below W.heap.size W w' := by
  obtain ⟨q0, qi, qz0, qz1, qz2⟩ := info_parts Try.infoEnt2
  obtain ⟨us, a, b, c⟩ := h
  have hk := b
  rcases b.2 with ⟨rfl, h0⟩ | ⟨g, cap, cur, rfl, hBg, hh, hle, hm, _, _⟩
  · have e0 : es = [] := List.eq_nil_of_length_eq_zero h0
    subst e0
    refine ⟨.slice none 0 0, W, us, run_append_owned_none (P := Try.prog) W B 45 ty 55 q0 2 Try.underlying45 qi _ 0 [] (World.ownsRow_nil W B _ _), a, World.ownsRow_nil W _ _ _, c, Below.refl _ _⟩
  · have hone : ∀ u ∈ us, u.oneCell' = true := by
      intro u hu
      obtain ⟨i, hi, rfl⟩ := List.getElem_of_mem hu
      obtain ⟨ao, n, cp, e⟩ := OwnP.shape (c i (by omega) hi)
      rw [e]; rfl
    obtain ⟨v', w', hr, hown, hg, _, _⟩ := run_append_own_at (P := Try.prog) W W.heap.size 45 ty 55 q0 (.agg #[.string ByteArray.empty, .slice none 0 0]) 2 40 Try.underlying45 qi qz0 qz1 qz2 rfl (by decide) (.slice none 0 0) 0 [] (World.ownsRow_nil W _ _ _) ⟨g, 0, none⟩ es.length cap (eCells es us) (eCells_length es us a)
      (fun j u hu => by
        have hj : j < es.length * 2 := by
          have := (List.getElem?_eq_some_iff.1 hu).1
          rw [eCells_length es us a] at this; exact this
        have ea : Addr.add ⟨g, 0, none⟩ j = ⟨g, j, none⟩ := by cases j <;> simp [Addr.add]
        rw [ea, World.ownsRow.cellAt hk j hj]; exact hu)
      (eCells_one es us hone) (by unfold maxLen; omega) (by omega) (Nat.le_refl _)
    have hb : Below W.heap.size W w' := (Below.refl _ _).grown hg (Nat.le_refl _) (fun k hk => by simp [Value.ownBlock] at hk)
    refine ⟨v', w', us, hr, a, ?_, fun i hi hi2 => ownsRow_below (c i hi hi2) hb, hb⟩
    simpa using hown
theorem OwnE.shape {w : World} {B : Nat} {v : Value} {es : List Sg.Ent} (h : OwnE w B v es) : ∃ ao cap, v = .slice ao es.length cap := by
  obtain ⟨us, a, b, c⟩ := h
  rcases b.2 with ⟨e, h0⟩ | ⟨g, cap, cur, e, _⟩
  · exact ⟨none, 0, by rw [e, h0]⟩
  · exact ⟨_, cap, e⟩

theorem OwnA.lt0 {w : World} {B : Nat} {v : Value} {ac : List Sg.Acc} (h : OwnA w B v ac) (hn : 0 < ac.length) : B < w.heap.size := by
  obtain ⟨g, cap, _, h1, h2⟩ := World.ownsRow.form h hn
  omega
theorem old_block2 (w : World) (o : Obj) (cs : Array Value) (t : TypeId) : ((w.alloc (.cells cs t)).alloc o).heap[w.heap.size]? = some (.cells cs t (0, 0)) := by
  rw [Below.heap_alloc _ _ _ (by simp)]
  exact heap_alloc_new w _
/-- An append whose run is known. -/
theorem wpList_append_known {P : Program} {w w' : World} {ops : Array Oper} {rest : List Oper} {o : Oper} {a : Act} {Q : Exit → Act → World → Prop} (hgd : o.guard = none) (s x : Operand) (t : TypeId)
    (ho : o.op = .call { callee := .builtin .append, args := #[s, x], argTypes := #[t, t] }) (v y v' : Value) (hs : a.eval s = v) (hx : a.eval x = y)
    (hrun : (Builtin.append_ #[t, t] o.type #[v, y]).run P w = .ok v' w') (h : wpList P ops Q rest (a.put o.dst v') w') : wpList P ops Q (o :: rest) a w := by
  refine wpList_plain hgd fun K hK => ?_
  unfold Oper.wp
  simp [execOp, ho, resolve, invoke, builtin, hs, hx, hrun, Result.andThen]
  exact hK _ _ h

/-- What stands between Balanced's steps: h's box, its lists, the entries that were there. -/
structure BdInv (w W : World) (hb B : Nat) (vA vP vW : Value) (ac : List Sg.Acc) (ps : List (List Sg.Ent)) (es : List Sg.Ent) : Prop where
  bel : Below w.heap.size w W
  box : Two W hb vA vP 41
  base : w.heap.size ≤ B
  accs : OwnA W B vA ac
  pers : OwnPs W B vP ps
  was : OwnE W B vW es
theorem BdInv.below {w W W' : World} {hb B : Nat} {vA vP vW : Value} {ac : List Sg.Acc} {ps : List (List Sg.Ent)} {es : List Sg.Ent} (m : BdInv w W hb B vA vP vW ac ps es) (h : Below W.heap.size W W') : BdInv w W' hb B vA vP vW ac ps es :=
  ⟨m.bel.trans (h.mono m.bel.size), m.box.below h, m.base, m.accs.below h, m.pers.below h, m.was.below h⟩
/-- An entry more, behind the copy. -/
theorem spoil_out {w W0 W X w5 : World} {hb B pb k : Nat} {vA vP vW vL v5 : Value} {ac : List Sg.Acc} {ps : List (List Sg.Ent)} {es es0 : List Sg.Ent} {us : List Value} {xs : List Sg.Pst} (m : BdInv w W0 hb B vA vP vW ac ps es0) (hB : B ≤ W0.heap.size) (hul : us.length = es.length) (hrow : W.ownsRow W0.heap.size 55 2 vL es.length (eCells es us)) (hus : ∀ i (h : i < es.length) (h2 : i < us.length), OwnP W B us[i] es[i].posts) (hb0 : Below W0.heap.size W0 W) (hX : Below W.heap.size W X)
    (hpb : X.heap[pb]? = some (.cells (pCells xs).toArray 90 (0, 0))) (hpB : B ≤ pb) (hk : xs.length = k) (hkm : k ≤ maxLen)
    (hgrow : X.grownBy w5 vL.ownBlock) (hown5 : w5.ownsRow W0.heap.size 55 2 v5 (es.length + 1) (eCells es us ++ [.string ByteArray.empty, .slice (some ⟨pb, 0, none⟩) k k])) :
    BdInv w w5 hb B vA vP vW ac ps es0 ∧ OwnE w5 B v5 (es ++ [⟨ByteArray.empty, xs⟩]) := by
  have h1 : Below W0.heap.size W0 X := hb0.trans (hX.mono hb0.size)
  have h2 : Below W0.heap.size W0 w5 := h1.grown hgrow h1.size (fun q hq => (World.ownsRow.lt hrow q hq).1)
  refine ⟨m.below h2, ?_⟩
  have hp : OwnP X B (.slice (some ⟨pb, 0, none⟩) k k) xs := by
    have hl : (pCells xs).length = k * 2 := by
      rw [← hk]
      unfold pCells
      clear hk hpb hown5
      induction xs with
      | nil => rfl
      | cons x xs ih => simp only [List.flatMap_cons, List.length_append, List.length_cons, List.length_nil]; rw [ih]; omega
    refine ⟨by rw [hl, hk], Or.inr ⟨pb, k, (pCells xs).toArray, by rw [hk], hpB, hpb, by omega, hkm, by rw [List.size_toArray, hl], ?_⟩⟩
    rw [List.toList_toArray, hk, ← hl, List.take_length]
  exact OwnE.push (W := X) (e := ⟨ByteArray.empty, xs⟩) hul (ownsRow_mono (ownsRow_below hrow hX) hB) (fun i h h2 => ownsRow_below (hus i h h2) hX) hp hgrow (ownsRow_mono hown5 hB)
/-- The store. -/
theorem BdInv.set {w W : World} {hb B g n cap i : Nat} {vA vW u : Value} {ac : List Sg.Acc} {ps : List (List Sg.Ent)} {es es1 : List Sg.Ent} (m : BdInv w W hb B vA (.slice (some ⟨g, 0, none⟩) n cap) vW ac ps es) (hi : i < ps.length) (hE : OwnE W B u es1) : BdInv w (W.setCell ⟨g, i, none⟩ u) hb B vA (.slice (some ⟨g, 0, none⟩) n cap) vW ac (ps.set i es1) es := by
  obtain ⟨hp, hk⟩ := m.pers.set (i := i) hE
  obtain ⟨_, _, _, _, hBg, _⟩ := m.pers.at_ hi
  exact ⟨m.bel.setCell (Nat.le_trans m.base hBg) _, hk _ _ _ _ m.box (by decide), m.base, m.accs.keptT hk (by decide), hp, m.was.keptT hk (by decide) (by decide)⟩
end Go.Proofs.Ytoadiibfmcjgaaa

/-
  PLAIN MATHEMATICS OF Opened: no package stands at the head of another.
-/
namespace Go.Proofs.Ytoadiibfmcjgaaa.Sg

/-- What is read out of a package, whatever stands behind it, is the history that was sealed. -/
theorem rdHist_front {R : Rd} (ok : RdOk R) {h : Hist} (hc : closeErr h = 0) (hf : HistFits h) (r : List UInt8) : rdHist R (tx (package h) ++ r) = h := by
  have hi : inBounds h = true := by
    cases hb : inBounds h with
    | true => rfl
    | false => unfold closeErr at hc; rw [hb] at hc; simp at hc
  have hp0 : (persTo h.accs h.pers (List.replicate h.accs.length 0)).1 = 0 := by
    unfold closeErr at hc; rw [if_pos hi] at hc; exact hc
  obtain ⟨l1, l2, l3, l4⟩ := persTo_lens h.accs h.pers _ hp0
  have hok := persTo_ok _ _ _ hp0
  have hba := bnd_accs hi
  have hbp := bnd_pers hi
  have hnum : (1 ≤ h.accs.length ∧ h.accs.length ≤ 8) ∧ 1 ≤ h.pers.length ∧ h.pers.length ≤ 6 := by
    unfold inBounds at hi
    simp only [Bool.and_eq_true, decide_eq_true_eq] at hi
    omega
  have ea := ok.a
  have ep := ok.p
  have hfine : ∀ p ∈ h.pers, perFine h.accs.length p := fun p hp => ⟨(hbp p hp).1, fun e he => ⟨((hbp p hp).2 e he).1, ((hbp p hp).2 e he).2, fun t ht => ⟨(hok p hp e he t ht).1, (hok p hp e he t ht).2, (hf p hp e he t ht).2⟩⟩⟩
  have et : tx (package h) ++ r = tx signT ++ (beL h.accs.length 1 ++ (h.accs.flatMap accL ++ (beL h.pers.length 1 ++ ((h.pers.zip ((balances h).zip (totals h))).flatMap perL ++ r)))) := by
    unfold package
    rw [if_pos hc]
    unfold pkTo
    have m1 : (balances h).length ≤ h.pers.length := Nat.le_of_eq l1
    have m2 : (totals h).length ≤ h.pers.length := Nat.le_of_eq l2
    rw [List.take_length, List.take_of_length_le m1, List.take_of_length_le m2, tx_persText, tx_append, tx_append, tx_chartB, tx_beB]
    simp only [List.append_assoc]
  have e4 : ∀ r, (tx signT ++ r).drop 4 = r := fun r => drop_txt signT r
  have hzl : (h.pers.zip ((balances h).zip (totals h))).length = h.pers.length := by
    rw [List.length_zip, List.length_zip]
    have m1 : (balances h).length = h.pers.length := l1
    have m2 : (totals h).length = h.pers.length := l2
    omega
  have eA : rdAccs R (tx (package h) ++ r) = (h.accs, beL h.pers.length 1 ++ ((h.pers.zip ((balances h).zip (totals h))).flatMap perL ++ r)) := by
    unfold rdAccs
    rw [et, e4, take_beL, drop_beL, numL_nat (by omega), Nat.min_eq_left (by omega), rdMany_back rdAcc accL id h.accs (fun a ha r => rdAcc_back (hba a ha).1 (hba a ha).2 r)]
    simp
  have eP : (rdPers R h.accs.length (beL h.pers.length 1 ++ ((h.pers.zip ((balances h).zip (totals h))).flatMap perL ++ r))).1 = h.pers := by
    unfold rdPers
    rw [take_beL, drop_beL, numL_nat (by omega), Nat.min_eq_left (by omega)]
    have := rdMany_back (rdPer R h.accs.length) perL (fun x => x.1) (h.pers.zip ((balances h).zip (totals h))) (fun x hx r => by
      obtain ⟨m1, m2, m3⟩ := mem_zip3 hx
      refine rdPer_back ok hnum.1.2 (hfine _ m1) ?_ (l4 _ m3) r
      have := l3 _ m2
      simpa using this) r
    rw [hzl] at this
    rw [this]
    simp only
    rw [List.map_fst_zip]
    rw [List.length_zip]
    have m1 : (balances h).length = h.pers.length := l1
    have m2 : (totals h).length = h.pers.length := l2
    omega
  unfold rdHist
  rw [eA]
  simp only
  rw [eP]

/-- A package is one. -/
theorem isPk_package {h : Hist} (hc : closeErr h = 0) (hf : HistFits h) : rdHist rdP (tx (package h)) = h ∧ isPk h (package h) :=
  ⟨rdHist_back rdP_ok hc hf, hc, rfl⟩
/-- What stands at the head of a package, or has one at its head, is the package itself. -/
theorem no_front {h g : Hist} {t : ByteArray} (hc : closeErr h = 0) (hf : HistFits h) (hg : isPk g t) (hfg : HistFits g) (r : List UInt8) (he : tx t ++ r = tx (package h) ∨ tx t = tx (package h) ++ r) : t = package h := by
  have e : g = h := by
    rcases he with he | he
    · have h1 := rdHist_front rdP_ok hg.1 hfg r
      rw [hg.2, he, rdHist_back rdP_ok hc hf] at h1
      exact h1.symm
    · have h1 := rdHist_front rdP_ok hc hf r
      rw [← he, ← hg.2, rdHist_back rdP_ok hg.1 hfg] at h1
      exact h1
  rw [← hg.2, e]
theorem not_cut {h : Hist} (hc : closeErr h = 0) (hf : HistFits h) (k : Nat) (hk : k < (package h).size) : ¬ isPk (rdHist rdP (tx ((package h).extract 0 k))) ((package h).extract 0 k) := by
  intro hg
  have et : tx ((package h).extract 0 k) = (tx (package h)).take k := by
    unfold tx
    rw [ByteArray.data_extract]
    simp
  have := no_front hc hf hg (rdHist_fits (fun s => fits_wrap _) _) ((tx (package h)).drop k) (Or.inl (by rw [et, List.take_append_drop]))
  have hs := congrArg ByteArray.size this
  rw [← tx_length, et, List.length_take, tx_length] at hs
  omega
theorem not_more {h : Hist} (hc : closeErr h = 0) (hf : HistFits h) (x : ByteArray) (hx : 0 < x.size) : ¬ isPk (rdHist rdP (tx (package h ++ x))) (package h ++ x) := by
  intro hg
  have := no_front hc hf hg (rdHist_fits (fun s => fits_wrap _) _) (tx x) (Or.inr (tx_append _ _))
  have hs := congrArg ByteArray.size this
  rw [ByteArray.size_append] at hs
  omega
theorem MadeOk.fits {h : Hist} (m : MadeOk h) : HistFits h := m.sizes.sizQ
theorem package_pos {h : Hist} (hc : closeErr h = 0) : 1 ≤ (package h).size := by
  unfold package
  rw [if_pos hc]
  unfold pkTo
  have : ∀ (o : ByteArray) (ps : List (List Ent)) (bs ts : List (List Int)), o.size ≤ (persText o ps bs ts).size := by
    intro o ps bs ts
    have h1 := congrArg List.length (tx_persText o ps bs ts)
    rw [tx_length, List.length_append, tx_length] at h1
    omega
  have h1 := this (signT ++ chartB h.accs ++ beB h.pers.length 1) (h.pers.take h.pers.length) ((balances h).take h.pers.length) ((totals h).take h.pers.length)
  rw [ByteArray.size_append, beB_size] at h1
  omega
theorem persText_size : ∀ (ps : List (List Ent)) (bs ts : List (List Int)) (o : ByteArray), (∀ p ∈ ps, p.length ≤ 12 ∧ ∀ e ∈ p, e.memo.size ≤ 20 ∧ e.posts.length ≤ 6) → (∀ b ∈ bs, b.length ≤ 8) → (∀ t ∈ ts, t.length ≤ 4) → (persText o ps bs ts).size ≤ o.size + 1100 * ps.length
  | [], _, _, o, _, _, _ => by simp [persText]
  | _ :: _, [], _, o, _, _, _ => by simp only [persText]; omega
  | _ :: _, _ :: _, [], o, _, _, _ => by simp only [persText]; omega
  | p :: ps, b :: bs, t :: ts, o, h1, h2, h3 => by
    simp only [persText, List.length_cons]
    have hp := h1 p (by simp)
    have k1 := perText_size o p b t hp.2 hp.1 (h2 b (by simp)) (h3 t (by simp))
    have k2 := persText_size ps bs ts (perText o p b t) (fun q hq => h1 q (by simp [hq])) (fun q hq => h2 q (by simp [hq])) (fun q hq => h3 q (by simp [hq]))
    omega
theorem package_small {h : Hist} (hc : closeErr h = 0) : (package h).size ≤ 10000 := by
  have hi : inBounds h = true := by
    cases hb : inBounds h with
    | true => rfl
    | false => unfold closeErr at hc; rw [hb] at hc; simp at hc
  have hp0 : (persTo h.accs h.pers (List.replicate h.accs.length 0)).1 = 0 := by
    unfold closeErr at hc; rw [if_pos hi] at hc; exact hc
  obtain ⟨l1, l2, l3, l4⟩ := persTo_lens h.accs h.pers _ hp0
  have hnum : (1 ≤ h.accs.length ∧ h.accs.length ≤ 8) ∧ 1 ≤ h.pers.length ∧ h.pers.length ≤ 6 := by
    unfold inBounds at hi
    simp only [Bool.and_eq_true, decide_eq_true_eq] at hi
    omega
  unfold package
  rw [if_pos hc]
  unfold pkTo
  have hb := bnd_pers hi
  have k := persText_size (h.pers.take h.pers.length) ((balances h).take h.pers.length) ((totals h).take h.pers.length) (signT ++ chartB h.accs ++ beB h.pers.length 1)
    (fun p hp => hb p (List.mem_of_mem_take hp)) (fun b hb' => by have := l3 b (List.mem_of_mem_take hb'); rw [this]; simp; omega) (fun t ht' => by have := l4 t (List.mem_of_mem_take ht'); omega)
  rw [ByteArray.size_append, ByteArray.size_append, beB_size, List.take_length] at k
  have k1 := chartB_size h.accs (fun a ha => (bnd_accs hi a ha).1)
  have k2 : signT.size = 4 := rfl
  rw [List.take_length]
  omega
theorem headOf_size {h : Hist} (hc : closeErr h = 0) : (headOf h).size = 2 := by
  unfold headOf
  rw [if_pos hc]
  exact hdTo_last _ _ _ _
end Go.Proofs.Ytoadiibfmcjgaaa.Sg

/-
  THE WALK of signetkeep.sameHistory, of two histories that are the same.
-/
namespace Go.Proofs.Ytoadiibfmcjgaaa
open Go.RowKit
set_option maxRecDepth 100000
attribute [local go_sem ↓] Go.wp_at_zero Go.wp_at_succ

set_option maxHeartbeats 6400000 in
theorem keepSame_any (h : Sg.Hist) (aoA aoP aoB aoQ : Option Addr) (nA nP capA capP capB capQ : Nat) (w : World) (h1 : HistIn w aoA aoP nA nP h) (h2 : HistIn w aoB aoQ nA nP h) (hnA : nA ≤ 140737488355328) (hnP : nP ≤ 140737488355328) :
    Calls Try.prog 38 #[.agg #[.slice aoA nA capA, .slice aoP nP capP], .agg #[.slice aoB nA capB, .slice aoQ nP capQ]] w fun e w' => e = .returned (.bool true) ∧ Below w.heap.size w w' := by
  have hb0 : Below w.heap.size w ((w.alloc (.cells #[.slice aoA nA capA, .slice aoP nP capP] 41)).alloc (.cells #[.slice aoB nA capB, .slice aoQ nP capQ] 41)) := ((Below.refl _ _).alloc (Nat.le_refl _) _).alloc (by simp) _
  have hT1 : Two ((w.alloc (.cells #[.slice aoA nA capA, .slice aoP nP capP] 41)).alloc (.cells #[.slice aoB nA capB, .slice aoQ nP capQ] 41)) w.heap.size (.slice aoA nA capA) (.slice aoP nP capP) 41 := (Two.new w _ _ _).below ((Below.refl _ _).alloc (Nat.le_refl _) _)
  have hT2 : Two ((w.alloc (.cells #[.slice aoA nA capA, .slice aoP nP capP] 41)).alloc (.cells #[.slice aoB nA capB, .slice aoQ nP capQ] 41)) (w.heap.size + 1) (.slice aoB nA capB) (.slice aoQ nP capQ) 41 := by
    have e := Two.new (w.alloc (.cells #[.slice aoA nA capA, .slice aoP nP capP] 41)) (.slice aoB nA capB) (.slice aoQ nP capQ) 41
    rw [show (w.alloc (.cells #[.slice aoA nA capA, .slice aoP nP capP] 41)).heap.size = w.heap.size + 1 by simp] at e
    exact e
  have k1 := h1.below hb0
  have k2 := h2.below hb0
  clear h1 h2
  go_enter Try.func38, Try.ntmps38
  go_wp2_with fail
  generalize (w.alloc (.cells #[.slice aoA nA capA, .slice aoP nP capP] 41)).alloc (.cells #[.slice aoB nA capB, .slice aoQ nP capQ] 41) = W0 at *
  have HK1 : Hid (HistIn W0 aoA aoP nA nP h) := k1
  have HK2 : Hid (HistIn W0 aoB aoQ nA nP h) := k2
  clear k1 k2
  go_loopw [5] (fun i wr => ∃ k : Nat, k ≤ nA ∧ i = .int .i64 (k : Int) ∧ Below W0.heap.size W0 wr) (fun i _ => nA - (intOf i).toNat)
  case atStart => exact ⟨0, by omega, rfl, Below.refl _ _⟩
  case round =>
    obtain ⟨k, hk, rfl, hbel⟩ := hrel
    obtain ⟨wz, ewz⟩ : ∃ z : World, z = wr := ⟨_, rfl⟩
    subst ewz
    obtain ⟨s0, s1⟩ := (hT1.below hbel).cells
    obtain ⟨t0, t1⟩ := (hT2.below hbel).cells
    by_cases hlt : k < nA
    · have hka : k < h.accs.length := by rw [HK1.out.lenA]; exact hlt
      obtain ⟨b1, o1, e1, _, x1, y1⟩ := (HK1.out.accs.below hbel).cell (k := k) hka
      obtain ⟨b2, o2, e2, _, x2, y2⟩ := (HK2.out.accs.below hbel).cell (k := k) hka
      subst e1
      subst e2
      generalize h.accs[k].name = nm at *
      generalize h.accs[k].line = ln at *
      have i1 : (0 : Int) ≤ (k : Int) := by omega
      have i2 : (k : Int) < (nA : Int) := by omega
      go_wp2_with fail
      go_quiet (fail)
      go_wp2_with fail
      go_roundw
      case rel => exact ⟨k + 1, by omega, by go_num, below_drewN hbel _⟩
      case measure => simp [intOf]; omega
    · have i2 : ¬ (k : Int) < (nA : Int) := by omega
      go_wp2_with fail
      go_loopw [6] (fun i wr => ∃ q : Nat, q ≤ nP ∧ i = .int .i64 (q : Int) ∧ Below W0.heap.size W0 wr) (fun i _ => nP - (intOf i).toNat)
      case atStart => exact ⟨0, by omega, rfl, hbel⟩
      case round =>
        clear s0 s1 t0 t1 hbel
        obtain ⟨q, hq, rfl, hbe⟩ := hrel
        obtain ⟨wy, ewy⟩ : ∃ z : World, z = wr := ⟨_, rfl⟩
        subst ewy
        obtain ⟨s0, s1⟩ := (hT1.below hbe).cells
        obtain ⟨t0, t1⟩ := (hT2.below hbe).cells
        by_cases hlq : q < nP
        · have hqa : q < h.pers.length := by rw [HK1.out.lenP]; exact hlq
          obtain ⟨b1, o1, e1, _, a1, c1, x1, hE1⟩ := (HK1.out.pers.below hbe).cell (k := q) hqa
          obtain ⟨b2, o2, e2, _, a2, c2, x2, hE2⟩ := (HK2.out.pers.below hbe).cell (k := q) hqa
          subst e1
          subst e2
          have hsz := HK1.out.sizP _ (List.getElem_mem hqa)
          obtain ⟨es, hes⟩ : ∃ es, h.pers[q] = es := ⟨_, rfl⟩
          rw [hes] at x1 x2 hE1 hE2 hsz
          clear hes
          obtain ⟨n, hn⟩ : ∃ n, es.length = n := ⟨_, rfl⟩
          rw [hn] at x1 x2 hsz
          have HN : Hid (es.length = n) := hn
          have HSz : Hid (∀ e ∈ es, e.memo.size ≤ 140737488355328 ∧ e.posts.length ≤ 140737488355328) := hsz.2
          have hn47 := hsz.1
          clear hn hsz
          have i1 : (0 : Int) ≤ (q : Int) := by omega
          have i3 : (q : Int) < (nP : Int) := by omega
          go_wp2_with fail
          go_loopw [9] (fun i wr => ∃ j : Nat, j ≤ n ∧ i = .int .i64 (j : Int) ∧ Below wy.heap.size wy wr) (fun i _ => n - (intOf i).toNat)
          case atStart => exact ⟨0, by omega, rfl, Below.refl _ _⟩
          case round =>
            clear s0 s1 t0 t1 x1 x2
            obtain ⟨j, hj, rfl, hbj⟩ := hrel
            obtain ⟨wx, ewx⟩ : ∃ z : World, z = wr := ⟨_, rfl⟩
            subst ewx
            by_cases hlj : j < n
            · have hja : j < es.length := by rw [HN.out]; exact hlj
              obtain ⟨d1, f1, e1, hd1, m1, aq1, cq1, y1, hp1⟩ := (hE1.below hbj).cell (k := j) hja
              obtain ⟨d2, f2, e2, hd2, m2, aq2, cq2, y2, hp2⟩ := (hE2.below hbj).cell (k := j) hja
              subst e1
              subst e2
              have hlp := (HSz.out es[j] (List.getElem_mem _)).2
              obtain ⟨mm, pp, hmp⟩ : ∃ mm pp, es[j] = ⟨mm, pp⟩ := ⟨_, _, rfl⟩
              rw [hmp] at m1 y1 hp1 m2 y2 hp2 hlp
              simp only at m1 y1 hp1 m2 y2 hp2 hlp
              clear hmp
              obtain ⟨np, hnp⟩ : ∃ np, pp.length = np := ⟨_, rfl⟩
              rw [hnp] at y1 y2 hlp
              have HNP : Hid (pp.length = np) := hnp
              clear hnp
              have i4 : (0 : Int) ≤ (j : Int) := by omega
              have i5 : (j : Int) < (n : Int) := by omega
              go_wp2_with fail
              go_quiet (fail)
              go_wp2_with fail
              go_loopw [10] (fun i wr => ∃ z : Nat, z ≤ np ∧ i = .int .i64 (z : Int) ∧ Below wx.heap.size wx wr) (fun i _ => np - (intOf i).toNat)
              case atStart => exact ⟨0, by omega, rfl, below_drewN (Below.refl _ _) _⟩
              case round =>
                obtain ⟨z, hz, rfl, hbz⟩ := hrel
                have y1' := (hbz.cell (p := ⟨d1, f1 + j * 2 + 1, none⟩) hd1).trans y1
                have y2' := (hbz.cell (p := ⟨d2, f2 + j * 2 + 1, none⟩) hd2).trans y2
                by_cases hlz : z < np
                · have hza : z < pp.length := by rw [HNP.out]; exact hlz
                  obtain ⟨u1, v1, e1, _, ha1, hn1⟩ := (hp1.below hbz).cell (k := z) hza
                  obtain ⟨u2, v2, e2, _, ha2, hn2⟩ := (hp2.below hbz).cell (k := z) hza
                  subst e1
                  subst e2
                  generalize pp[z].acct = a at *
                  generalize pp[z].amt = m at *
                  have i6 : (0 : Int) ≤ (z : Int) := by omega
                  have i7 : (z : Int) < (np : Int) := by omega
                  clear m1 m2 y1 y2 hp1 hp2
                  go_wp2_with fail
                  go_quiet (fail)
                  go_wp2_with fail
                  go_roundw
                  case rel => exact ⟨z + 1, by omega, by go_num, below_drewN hbz _⟩
                  case measure => simp [intOf]; omega
                · clear m1 m2 y1 y2
                  have i7 : ¬ (z : Int) < (np : Int) := by omega
                  have hbn := hbj.trans (hbz.mono hbj.size)
                  go_wp2_with fail
                  go_roundw
                  case rel => exact ⟨j + 1, by omega, by go_num, hbn⟩
                  case measure => simp [intOf]; omega
            · have i5 : ¬ (j : Int) < (n : Int) := by omega
              have hbn := hbe.trans (hbj.mono hbe.size)
              go_wp2_with fail
              go_roundw
              case rel => exact ⟨q + 1, by omega, by go_num, hbn⟩
              case measure => simp [intOf]; omega
        · have i3 : ¬ (q : Int) < (nP : Int) := by omega
          go_wp2_with fail
          go_ret
          exact ⟨rfl, hb0.trans (hbe.mono hb0.size)⟩
end Go.Proofs.Ytoadiibfmcjgaaa

/-
  THE WALK of signetkeep.Opened (P5 to P8).
-/
namespace Go.Proofs.Ytoadiibfmcjgaaa
open Go.RowKit
set_option maxRecDepth 100000
attribute [local go_sem ↓] Go.wp_at_zero Go.wp_at_succ

/-- Decode of a package. -/
theorem decode_pk {h : Sg.Hist} {t : ByteArray} {nA nP : Nat} (hr : Sg.rdHist Sg.rdP (Sg.tx t) = h) (hp : Sg.isPk h t) (hA : h.accs.length = nA) (hP : h.pers.length = nP) (w : World) :
    Calls Try.prog 29 #[.string t] w fun e w' => ∃ aoA capA aoP capP, e = .returned (.tuple #[.agg #[.slice aoA nA capA, .slice aoP nP capP], .int .i64 0]) ∧ (nA ≤ capA ∧ capA ≤ 9223372036854775807) ∧ HistIn w' aoA aoP nA nP h ∧ Below w.heap.size w w' := by
  refine (decode_any t w).mono ?_
  rw [hr]
  rintro e w' ⟨hb, ⟨hn, _⟩ | ⟨_, aoA, mA, capA, aoP, mP, capP, rfl, hcc, hH⟩⟩
  · exact absurd hp hn
  · obtain rfl : nA = mA := by rw [← hA]; exact hH.lenA
    obtain rfl : nP = mP := by rw [← hP]; exact hH.lenP
    exact ⟨aoA, capA, aoP, capP, rfl, hcc, hH, hb⟩
/-- Decode of what is none. -/
theorem decode_no {t : ByteArray} (hn : ¬ Sg.isPk (Sg.rdHist Sg.rdP (Sg.tx t)) t) (w : World) :
    Calls Try.prog 29 #[.string t] w fun e w' => e = .returned (.tuple #[.agg #[nilV, nilV], .int .i64 5]) ∧ Below w.heap.size w w' := by
  refine (decode_any t w).mono ?_
  rintro e w' ⟨hb, ⟨_, rfl⟩ | ⟨hp, _⟩⟩
  · exact ⟨rfl, hb⟩
  · exact absurd hp hn
theorem seal_as {h : Sg.Hist} {pk hd : ByteArray} {nA nP : Nat} (h1 : Sg.package h = pk) (h2 : Sg.headOf h = hd) (h3 : Sg.closeErr h = 0) (aoA aoP : Option Addr) (capA capP : Nat) (W : World) (hH : HistIn W aoA aoP nA nP h) (hc : nA ≤ capA ∧ capA ≤ 9223372036854775807) :
    Calls Try.prog 25 #[.agg #[.slice aoA nA capA, .slice aoP nP capP]] W fun e w' => e = .returned (.tuple #[.string pk, .string hd, .int .i64 0]) ∧ Below W.heap.size W w' := by
  have := seal_any h aoA aoP nA nP capA capP W hH hc.1 hc.2
  rw [h1, h2, h3] at this
  exact this

set_option maxHeartbeats 6400000 in
theorem opened_any (c each cut : Int) (other : ByteArray) (rs : List Raw) (ao : Option Addr) (nr cap : Nat) (w : World) (hc : -9223372036854775808 ≤ c ∧ c ≤ 9223372036854775807) (he : -9223372036854775808 ≤ each ∧ each ≤ 9223372036854775807) (hcu : -9223372036854775808 ≤ cut ∧ cut ≤ 9223372036854775807) (hl : rs.length = nr) (hnr : nr ≤ 4611686018427387904) (hR : RawsIn w ao rs) (hf : ∀ r ∈ rs, rawFits r) :
    Calls Try.prog 9 #[.int .i64 c, .slice ao nr cap, .int .i64 each, .string other, .int .i64 cut] w fun e w' => e = .returned (.bool true) ∧ Below w.heap.size w w' := by
  have hcall := made_any c each rs ao nr cap w hc he hl hnr hR hf
  clear hl hR hf hnr hc he
  go_enter Try.func9, Try.ntmps9
  go_wp2_with fail
  refine hcall.mono ?_
  rintro e w1 ⟨vA, vP, rfl, HM⟩
  clear hcall
  obtain ⟨ac, ps, hA, hP, hok, hb1⟩ := HM
  obtain ⟨aoA, capA, aoP, capP, e1, e2, c1, c2, hH⟩ := hist_own (h := ⟨ac, ps⟩) hA hP hok.sizes
  obtain ⟨h, hh⟩ : ∃ h, (⟨ac, ps⟩ : Sg.Hist) = h := ⟨_, rfl⟩
  rw [hh] at e1 e2 c1 hH hok
  obtain ⟨nA, hnA⟩ : ∃ k, h.accs.length = k := ⟨_, rfl⟩
  obtain ⟨nP, hnP⟩ : ∃ k, h.pers.length = k := ⟨_, rfl⟩
  rw [hnA] at e1 c1 hH
  rw [hnP] at e2 hH
  subst e1 e2
  have hc0 := hok.sealed
  obtain ⟨pk, hpk⟩ : ∃ k, Sg.package h = k := ⟨_, rfl⟩
  obtain ⟨hd, hhd⟩ : ∃ k, Sg.headOf h = k := ⟨_, rfl⟩
  have q1 := Sg.isPk_package hc0 hok.fits
  have q2 := Sg.package_pos hc0
  have q3 := Sg.package_small hc0
  have q4 := Sg.headOf_size hc0
  have q5 := Sg.not_cut hc0 hok.fits
  have q6 := Sg.not_more hc0 hok.fits ⟨#[0]⟩ (by decide)
  have q7 : ∀ o, Sg.verAll (Sg.package h) o = if Sg.headOf h = o then 0 else 6 := fun o => by
    unfold Sg.verAll
    rw [q1.1, if_pos q1.2]
    rfl
  rw [hpk] at q1 q2 q3 q5 q6 q7
  rw [hhd] at q4 q7
  have HQ1 : Hid (Sg.rdHist Sg.rdP (Sg.tx pk) = h ∧ Sg.isPk h pk) := q1
  have HQ5 : Hid (∀ k < pk.size, ¬ Sg.isPk (Sg.rdHist Sg.rdP (Sg.tx (pk.extract 0 k))) (pk.extract 0 k)) := q5
  have HQ6 : Hid (¬ Sg.isPk (Sg.rdHist Sg.rdP (Sg.tx (pk ++ ⟨#[0]⟩))) (pk ++ ⟨#[0]⟩)) := q6
  have HQ7 : Hid (∀ o, Sg.verAll pk o = if hd = o then 0 else 6) := q7
  have HS : Hid (∀ (aoA aoP : Option Addr) (capA capP : Nat) (W : World), HistIn W aoA aoP nA nP h → (nA ≤ capA ∧ capA ≤ 9223372036854775807) → Calls Try.prog 25 #[.agg #[.slice aoA nA capA, .slice aoP nP capP]] W fun e w' => e = .returned (.tuple #[.string pk, .string hd, .int .i64 0]) ∧ Below W.heap.size W w') := fun a b c d W hH hc => seal_as hpk hhd hc0 a b c d W hH hc
  have HNA : Hid (h.accs.length = nA) := hnA
  have HNP : Hid (h.pers.length = nP) := hnP
  have hn8 : nA ≤ 8 := by rw [← hnA]; exact hok.accs.2
  have hn6 : nP ≤ 6 := by rw [← hnP]; exact hok.pers.2
  have hcc : nA ≤ capA ∧ capA ≤ 9223372036854775807 := ⟨c1, c2⟩
  have hd2 : ((hd.size : Int) != 2) = false := by rw [q4]; rfl
  have HH1 : Hid (HistIn w1 aoA aoP nA nP h) := hH
  clear hA hP hok hh hH q1 q5 q6 q7 hpk hhd hc0 hnA hnP q4 c1 c2
  have aB : Below w1.heap.size w1 (w1.alloc (.cells #[.slice aoA nA capA, .slice aoP nP capP] 41)) := (Below.refl _ _).alloc (Nat.le_refl _) _
  have hT := Two.new w1 (.slice aoA nA capA) (.slice aoP nP capP) 41
  have b1 := hb1.trans (aB.mono hb1.size)
  have HH2 : Hid (HistIn (w1.alloc (.cells #[.slice aoA nA capA, .slice aoP nP capP] 41)) aoA aoP nA nP h) := HH1.out.below aB
  clear HH1 aB hb1
  go_wp2_with fail
  generalize w1.alloc (.cells #[.slice aoA nA capA, .slice aoP nP capP] 41) = W at *
  refine (lives_any _).mono ?_
  rintro e w2 ⟨rfl, hb2⟩
  have hT2 := hT.below hb2
  have b2 := b1.trans (hb2.mono b1.size)
  have HH3 : Hid (HistIn w2 aoA aoP nA nP h) := HH2.out.below hb2
  clear HH2 hT b1 hb2
  obtain ⟨bx0, bx1⟩ := hT2.cells
  go_wp2_with fail
  refine (HS.out aoA aoP capA capP w2 HH3.out hcc).mono ?_
  rintro e w3 ⟨rfl, hb3⟩
  have hT3 := hT2.below hb3
  have b3 := b2.trans (hb3.mono b2.size)
  have HH4 : Hid (HistIn w3 aoA aoP nA nP h) := HH3.out.below hb3
  clear HH3 hT2 b2 hb3 bx0 bx1
  go_wp2_with fail
  refine (decode_pk HQ1.out.1 HQ1.out.2 HNA.out HNP.out w3).mono ?_
  rintro e w4 ⟨aoG, capG, aoQ, capQ, rfl, hcg, hG, hb4⟩
  have hT4 := hT3.below hb4
  have b4 := b3.trans (hb4.mono b3.size)
  have HH5 : Hid (HistIn w4 aoA aoP nA nP h) := HH4.out.below hb4
  have aB : Below w4.heap.size w4 (w4.alloc (.cells #[.slice aoG nA capG, .slice aoQ nP capQ] 41)) := (Below.refl _ _).alloc (Nat.le_refl _) _
  have hg := Two.new w4 (.slice aoG nA capG) (.slice aoQ nP capQ) 41
  have hT5 := hT4.below aB
  have b5 := b4.trans (aB.mono b4.size)
  have HH6 : Hid (HistIn (w4.alloc (.cells #[.slice aoG nA capG, .slice aoQ nP capQ] 41)) aoA aoP nA nP h ∧ HistIn (w4.alloc (.cells #[.slice aoG nA capG, .slice aoQ nP capQ] 41)) aoG aoQ nA nP h) := ⟨HH5.out.below aB, hG.below aB⟩
  have hlt : w1.heap.size < w4.heap.size := lt_of_block hT4
  clear HH4 HH5 hT3 hT4 b3 b4 hb4 hG aB
  obtain ⟨bx0, bx1⟩ := hT5.cells
  obtain ⟨gx0, gx1⟩ := hg.cells
  go_wp2_with fail
  generalize w4.alloc (.cells #[.slice aoG nA capG, .slice aoQ nP capQ] 41) = W5 at *
  refine (keepSame_any h aoG aoQ aoA aoP nA nP capG capQ capA capP W5 HH6.out.2 HH6.out.1 (by omega) (by omega)).mono ?_
  rintro e w6 ⟨rfl, hb6⟩
  have hg6 := hg.below hb6
  have b6 := b5.trans (hb6.mono b5.size)
  have HH7 : Hid (HistIn w6 aoG aoQ nA nP h) := HH6.out.2.below hb6
  clear HH6 hT5 hg b5 hb6 bx0 bx1 gx0 gx1
  obtain ⟨gx0, gx1⟩ := hg6.cells
  go_wp2_with fail
  refine (HS.out aoG aoQ capG capQ w6 HH7.out hcg).mono ?_
  rintro e w7 ⟨rfl, hb7⟩
  have b7 := b6.trans (hb7.mono b6.size)
  clear HH7 hg6 b6 hb7 gx0 gx1 HS
  go_wp2_with fail
  refine (verify_all pk hd w7).mono ?_
  rintro e w8 ⟨rfl, hb8⟩
  have b8 := b7.trans (hb8.mono b7.size)
  rw [HQ7.out hd, if_pos rfl]
  clear b7 hb8
  go_wp2_with fail
  refine (verify_all pk other w8).mono ?_
  rintro e w9 ⟨rfl, hb9⟩
  have b9 := b8.trans (hb9.mono b8.size)
  obtain ⟨vv, hvv⟩ : ∃ vv, Sg.verAll pk other = vv := ⟨_, rfl⟩
  rw [hvv]
  have HVV : Hid (vv = if hd = other then 0 else 6) := by show _ = _; rw [← hvv]; exact HQ7.out other
  clear b8 hb9 hvv
  go_wp2_with fail
  refine (pick_any cut pk.size w9 hcu (by omega) (by omega)).mono ?_
  rintro e w10 ⟨k, rfl, hk, hw⟩
  have hw' := hw.symm
  subst hw'
  clear hw
  have k1 : (0 : Int) ≤ (k : Int) := by omega
  have k2 : (k : Int) ≤ (pk.size : Int) := by omega
  have hdn := decode_no (HQ5.out k hk)
  go_wp2_with fail
  refine (hdn _).mono ?_
  rintro e w11 ⟨rfl, hb11⟩
  have b11 := b9.trans (hb11.mono b9.size)
  have aC : Below w11.heap.size w11 (w11.alloc (.cells #[nilV, nilV] 41)) := (Below.refl _ _).alloc (Nat.le_refl _) _
  have b12 := b11.trans (aC.mono b11.size)
  have hcat := cat pk ⟨#[0]⟩ (by have : (⟨#[0]⟩ : ByteArray).size = 1 := rfl; omega)
  have hdm := decode_no HQ6.out
  obtain ⟨pm, hpm⟩ : ∃ pm, pk ++ ⟨#[0]⟩ = pm := ⟨_, rfl⟩
  rw [hpm] at hcat hdm
  clear hdn hpm b11 hb11 b9 aC HQ5 HQ6
  go_wp2_with fail
  generalize w11.alloc (.cells #[nilV, nilV] 41) = W12 at *
  refine (hdm _).mono ?_
  rintro e w13 ⟨rfl, hb13⟩
  have b13 := b12.trans (hb13.mono b12.size)
  have HB : Hid (Below w.heap.size w (w13.alloc (.cells #[nilV, nilV] 41))) := b13.alloc b13.size _
  clear hdm b12 hb13 hcat
  by_cases e : other.toList = hd.toList
  · have eo := same_txt e
    subst eo
    have hv0 : vv = 0 := by rw [HVV.out, if_pos rfl]
    subst hv0
    clear HVV
    go_wp2_with fail
    go_ret
    exact ⟨rfl, HB.out⟩
  · have eb : (other.toList == hd.toList) = false := by simp [e]
    have hv6 : vv = 6 := by
      rw [HVV.out, if_neg]
      intro h'
      exact e (by rw [h'])
    subst hv6
    clear HVV
    go_wp2_with fail
    go_ret
    exact ⟨rfl, HB.out⟩
end Go.Proofs.Ytoadiibfmcjgaaa
