import Derived.Test.YtpkkhkkkgjhkeabGreatMade
import Derived.Test.YtpkkhkkkgjhkeabGreatHhead
import Derived.Test.YtpkkhkkkgjhkeabGreatMadeSpec
import Derived.Test.YtpkkhkkkgjhkeabGreatMadeInv
import Derived.Test.YtpkkhkkkgjhkeabGreatOpen
import Derived.Deep.Slices
/-
  WHAT Balanced LEANS ON: a history of signetkeep's, in memory; one whose period got an entry more.
-/
namespace Go.Proofs.YtpkkhkkkgjhkeabGreat
open Go.RowKit
set_option maxRecDepth 100000

/-- What Seal asks of a history's sizes. -/
structure HistSizes (h : Sg.Hist) : Prop where
  sizA : ∀ a ∈ h.accs, a.name.size ≤ 140737488355328 ∧ Sg.fits a.line = true
  sizP : ∀ p ∈ h.pers, p.length ≤ 140737488355328 ∧ ∀ e ∈ p, e.memo.size ≤ 140737488355328 ∧ e.posts.length ≤ 140737488355328
  sizQ : ∀ p ∈ h.pers, ∀ e ∈ p, ∀ t ∈ e.posts, Sg.fits t.acct = true ∧ Sg.fits t.amt = true
theorem entFine_sizes {nA : Nat} (hn : nA ≤ 8) {e : Sg.Ent} (h : Sg.EntFine nA e) : (e.memo.size ≤ 140737488355328 ∧ e.posts.length ≤ 140737488355328) ∧ ∀ t ∈ e.posts, Sg.fits t.acct = true ∧ Sg.fits t.amt = true := by
  refine ⟨⟨by have := h.memo; omega, by have := h.few; omega⟩, fun t ht => ?_⟩
  have h1 := h.accts t ht
  have h2 := h.small t ht
  unfold Sg.acctOk at h1
  exact ⟨decide_eq_true (by omega), decide_eq_true (by omega)⟩
theorem Sg.MadeOk.sizes {h : Sg.Hist} (m : Sg.MadeOk h) : HistSizes h := by
  refine ⟨fun a ha => ?_, fun p hp => ⟨by have := (m.ents p hp).1; omega, fun e he => (entFine_sizes m.accs.2 ((m.ents p hp).2 e he)).1⟩, fun p hp e he => (entFine_sizes m.accs.2 ((m.ents p hp).2 e he)).2⟩
  have := Sg.bnd_accs m.inb a ha
  exact ⟨by omega, decide_eq_true (by omega)⟩
/-- One period got an entry more. -/
theorem HistSizes.more {ac : List Sg.Acc} {ps : List (List Sg.Ent)} (s : HistSizes ⟨ac, ps⟩) {i : Nat} (hi : i < ps.length) (h12 : ps[i].length < 12) (x : Sg.Ent) (hm : x.memo.size ≤ 20) (hl : x.posts.length ≤ 6) (hx : ∀ t ∈ x.posts, Sg.fits t.acct = true ∧ Sg.fits t.amt = true) : HistSizes ⟨ac, ps.set i (ps[i] ++ [x])⟩ := by
  refine ⟨s.sizA, fun p hp => ?_, fun p hp e he => ?_⟩
  · rcases List.mem_or_eq_of_mem_set hp with hp | rfl
    · exact s.sizP p hp
    · have h1 := s.sizP _ (List.getElem_mem hi)
      refine ⟨by simp; omega, fun e he => ?_⟩
      rcases List.mem_append.1 he with he | he
      · exact h1.2 e he
      · simp at he; subst he; omega
  · rcases List.mem_or_eq_of_mem_set hp with hp | rfl
    · exact s.sizQ p hp e he
    · rcases List.mem_append.1 he with he | he
      · exact s.sizQ _ (List.getElem_mem hi) e he
      · simp at he; subst he; exact hx

/-- A history of own lists, as Seal asks for it. -/
theorem hist_own {W : World} {B : Nat} {vA vP : Value} {h : Sg.Hist} (hA : OwnA W B vA h.accs) (hP : OwnPs W B vP h.pers) (s : HistSizes h) : ∃ aoA capA aoP capP, vA = .slice aoA h.accs.length capA ∧ vP = .slice aoP h.pers.length capP ∧ h.accs.length ≤ capA ∧ capA ≤ 9223372036854775807 ∧ HistIn W aoA aoP h.accs.length h.pers.length h := by
  obtain ⟨aoA, capA, e1, c1, c2, iA⟩ := hA.in_
  obtain ⟨aoP, capP, e2, _, iP⟩ := hP.in_
  refine ⟨aoA, capA, aoP, capP, e1, e2, c1, by unfold maxLen at c2; omega, iA, iP, rfl, rfl, s.sizA, s.sizP, s.sizQ⟩
theorem seal_own {W : World} {B : Nat} {vA vP : Value} {h : Sg.Hist} (hA : OwnA W B vA h.accs) (hP : OwnPs W B vP h.pers) (s : HistSizes h) :
    Calls Tryz.prog 7 #[.agg #[vA, vP]] W fun e w' => e = .returned (.tuple #[.string (Sg.package h), .string (Sg.headOf h), .int .i64 (Sg.closeErr h)]) ∧ Below W.heap.size W w' := by
  obtain ⟨aoA, capA, aoP, capP, rfl, rfl, c1, c2, hH⟩ := hist_own hA hP s
  exact seal_any h aoA aoP _ _ capA capP W hH c1 c2

/-- A store into the list of periods. -/
theorem OwnPs.set {w : World} {B g n cap i : Nat} {ps : List (List Sg.Ent)} {es : List Sg.Ent} {u : Value} (h : OwnPs w B (.slice (some ⟨g, 0, none⟩) n cap) ps) (hE : OwnE w B u es) : OwnPs (w.setCell ⟨g, i, none⟩ u) B (.slice (some ⟨g, 0, none⟩) n cap) (ps.set i es) ∧ KeptT 42 w (w.setCell ⟨g, i, none⟩ u) := by
  obtain ⟨us, a, b, c⟩ := h
  have hn : n = ps.length := by
    rcases b.2 with ⟨h0, _⟩ | ⟨g', cap', cur, h0, _⟩
    · simp at h0
    · simp at h0; exact h0.2.1
  subst hn
  have hb := b
  rcases b.2 with ⟨h0, _⟩ | ⟨g', cap', cur, h0, _, hg, _⟩
  · simp at h0
  simp only [Value.slice.injEq, Option.some.injEq, Addr.mk.injEq, and_true, true_and] at h0
  obtain ⟨rfl, rfl⟩ := h0
  have hk : KeptT 42 w (w.setCell ⟨g, i, none⟩ u) := keptT_setCell hg
  refine ⟨⟨us.set i u, by simp [a], ?_, fun j hj hj2 => ?_⟩, hk⟩
  · rw [List.length_set]
    exact (hb.stored i u).1
  · rw [List.length_set] at hj
    by_cases e : i = j
    · subst e
      rw [List.getElem_set_self, List.getElem_set_self]
      exact hE.keptT hk (by decide) (by decide)
    · rw [List.getElem_set_ne e, List.getElem_set_ne e]
      exact (c j hj (by omega)).keptT hk (by decide) (by decide)
theorem OwnPs.at_ {w : World} {B g n cap i : Nat} {ps : List (List Sg.Ent)} (h : OwnPs w B (.slice (some ⟨g, 0, none⟩) n cap) ps) (hi : i < ps.length) : ∃ v, w.cell? ⟨g, i, none⟩ = some v ∧ w.frozen? ⟨g, i, none⟩ = false ∧ OwnE w B v ps[i] ∧ B ≤ g ∧ g < w.heap.size := by
  obtain ⟨us, a, b, c⟩ := h
  have hn : n = ps.length := by
    rcases b.2 with ⟨h0, _⟩ | ⟨g', cap', cur, h0, _⟩
    · simp at h0
    · simp at h0; exact h0.2.1
  subst hn
  have hlt : B ≤ g ∧ g < w.heap.size := by
    rcases b.2 with ⟨h0, _⟩ | ⟨g', cap', cur, h0, hB, hg, _⟩
    · simp at h0
    · simp only [Value.slice.injEq, Option.some.injEq, Addr.mk.injEq, and_true, true_and] at h0
      obtain ⟨rfl, rfl⟩ := h0
      exact ⟨hB, lt_of_block hg⟩
  refine ⟨us[i]'(by omega), ?_, b.frozenAt i, c i hi (by omega), hlt⟩
  rw [World.ownsRow.cellAt b i (by omega), List.getElem?_eq_getElem (by omega)]

theorem eCells_length (es : List Sg.Ent) (us : List Value) (h : us.length = es.length) : (eCells es us).length = es.length * 2 := by
  unfold eCells
  induction es generalizing us with
  | nil => simp
  | cons e es ih =>
    cases us with
    | nil => simp at h
    | cons u us => simp only [List.zip_cons_cons, List.flatMap_cons, List.length_append, List.length_cons, List.length_nil]; rw [ih us (by simpa using h)]; omega
theorem eCells_one (es : List Sg.Ent) (us : List Value) (h : ∀ u ∈ us, u.oneCell' = true) : ∀ x ∈ eCells es us, x.oneCell' = true := by
  intro x hx
  unfold eCells at hx
  rw [List.mem_flatMap] at hx
  obtain ⟨⟨e, u⟩, h1, h2⟩ := hx
  simp at h2
  rcases h2 with rfl | rfl
  · rfl
  · exact h _ (List.of_mem_zip h1).2
/-- A list of entries, copied behind nothing: the row is new, the postings are shared. -/
theorem copy_ents {W : World} {B : Nat} {v : Value} {es : List Sg.Ent} (ty : TypeId) (h : OwnE W B v es) (h12 : es.length ≤ 12) :
    ∃ v' w' us, (Builtin.append_ #[40, 40] ty #[.slice none 0 0, v]).run Tryz.prog W = .ok v' w' ∧ us.length = es.length ∧ w'.ownsRow W.heap.size 45 2 v' es.length (eCells es us) ∧ (∀ i (h : i < es.length) (h2 : i < us.length), OwnP w' B us[i] es[i].posts) ∧ Below W.heap.size W w' := by
  obtain ⟨q0, qi, qz0, qz1, qz2⟩ := info_parts Tryz.infoEnt2
  obtain ⟨us, a, b, c⟩ := h
  have hk := b
  rcases b.2 with ⟨rfl, h0⟩ | ⟨g, cap, cur, rfl, hBg, hh, hle, hm, _, _⟩
  · have e0 : es = [] := List.eq_nil_of_length_eq_zero h0
    subst e0
    refine ⟨.slice none 0 0, W, us, run_append_owned_none (P := Tryz.prog) W B 40 ty 45 q0 2 Tryz.underlying40 qi _ 0 [] (World.ownsRow_nil W B _ _), a, World.ownsRow_nil W _ _ _, c, Below.refl _ _⟩
  · have hone : ∀ u ∈ us, u.oneCell' = true := by
      intro u hu
      obtain ⟨i, hi, rfl⟩ := List.getElem_of_mem hu
      obtain ⟨ao, n, cp, e⟩ := OwnP.shape (c i (by omega) hi)
      rw [e]; rfl
    obtain ⟨v', w', hr, hown, hg, _, _⟩ := run_append_own_at (P := Tryz.prog) W W.heap.size 40 ty 45 q0 (.agg #[.string ByteArray.empty, .slice none 0 0]) 2 40 Tryz.underlying40 qi qz0 qz1 qz2 rfl (by decide) (.slice none 0 0) 0 [] (World.ownsRow_nil W _ _ _) ⟨g, 0, none⟩ es.length cap (eCells es us) (eCells_length es us a)
      (fun j u hu => by
        have hj : j < es.length * 2 := by
          have := (List.getElem?_eq_some_iff.1 hu).1
          rw [eCells_length es us a] at this; exact this
        have ea : Addr.add ⟨g, 0, none⟩ j = ⟨g, j, none⟩ := by cases j <;> simp [Addr.add]
        rw [ea, World.ownsRow.cellAt hk j hj]; exact hu)
      (eCells_one es us hone) (by unfold maxLen; omega) (by omega) (Nat.le_refl _)
    have hb : Below W.heap.size W w' := (Below.refl _ _).grown hg (Nat.le_refl _) (fun k hk => by simp [Value.ownBlock] at hk)
    refine ⟨v', w', us, hr, a, ?_, fun i hi hi2 => ownsRow_below (c i hi hi2) hb, hb⟩
    simpa using hown
theorem OwnE.shape {w : World} {B : Nat} {v : Value} {es : List Sg.Ent} (h : OwnE w B v es) : ∃ ao cap, v = .slice ao es.length cap := by
  obtain ⟨us, a, b, c⟩ := h
  rcases b.2 with ⟨e, h0⟩ | ⟨g, cap, cur, e, _⟩
  · exact ⟨none, 0, by rw [e, h0]⟩
  · exact ⟨_, cap, e⟩

theorem OwnA.lt0 {w : World} {B : Nat} {v : Value} {ac : List Sg.Acc} (h : OwnA w B v ac) (hn : 0 < ac.length) : B < w.heap.size := by
  obtain ⟨g, cap, _, h1, h2⟩ := World.ownsRow.form h hn
  omega
theorem old_block2 (w : World) (o : Obj) (cs : Array Value) (t : TypeId) : ((w.alloc (.cells cs t)).alloc o).heap[w.heap.size]? = some (.cells cs t (0, 0)) := by
  rw [Below.heap_alloc _ _ _ (by simp)]
  exact heap_alloc_new w _
/-- An append whose run is known. -/
theorem wpList_append_known {P : Program} {w w' : World} {ops : Array Oper} {rest : List Oper} {o : Oper} {a : Act} {Q : Exit → Act → World → Prop} (hgd : o.guard = none) (s x : Operand) (t : TypeId)
    (ho : o.op = .call { callee := .builtin .append, args := #[s, x], argTypes := #[t, t] }) (v y v' : Value) (hs : a.eval s = v) (hx : a.eval x = y)
    (hrun : (Builtin.append_ #[t, t] o.type #[v, y]).run P w = .ok v' w') (h : wpList P ops Q rest (a.put o.dst v') w') : wpList P ops Q (o :: rest) a w := by
  refine wpList_plain hgd fun K hK => ?_
  unfold Oper.wp
  simp [execOp, ho, resolve, invoke, builtin, hs, hx, hrun, Result.andThen]
  exact hK _ _ h

/-- What stands between Balanced's steps: h's box, its lists, the entries that were there. -/
structure BdInv (w W : World) (hb B : Nat) (vA vP vW : Value) (ac : List Sg.Acc) (ps : List (List Sg.Ent)) (es : List Sg.Ent) : Prop where
  bel : Below w.heap.size w W
  box : Two W hb vA vP 26
  base : w.heap.size ≤ B
  accs : OwnA W B vA ac
  pers : OwnPs W B vP ps
  was : OwnE W B vW es
theorem BdInv.below {w W W' : World} {hb B : Nat} {vA vP vW : Value} {ac : List Sg.Acc} {ps : List (List Sg.Ent)} {es : List Sg.Ent} (m : BdInv w W hb B vA vP vW ac ps es) (h : Below W.heap.size W W') : BdInv w W' hb B vA vP vW ac ps es :=
  ⟨m.bel.trans (h.mono m.bel.size), m.box.below h, m.base, m.accs.below h, m.pers.below h, m.was.below h⟩
/-- An entry more, behind the copy. -/
theorem spoil_out {w W0 W X w5 : World} {hb B pb k : Nat} {vA vP vW vL v5 : Value} {ac : List Sg.Acc} {ps : List (List Sg.Ent)} {es es0 : List Sg.Ent} {us : List Value} {xs : List Sg.Pst} (m : BdInv w W0 hb B vA vP vW ac ps es0) (hB : B ≤ W0.heap.size) (hul : us.length = es.length) (hrow : W.ownsRow W0.heap.size 45 2 vL es.length (eCells es us)) (hus : ∀ i (h : i < es.length) (h2 : i < us.length), OwnP W B us[i] es[i].posts) (hb0 : Below W0.heap.size W0 W) (hX : Below W.heap.size W X)
    (hpb : X.heap[pb]? = some (.cells (pCells xs).toArray 49 (0, 0))) (hpB : B ≤ pb) (hk : xs.length = k) (hkm : k ≤ maxLen)
    (hgrow : X.grownBy w5 vL.ownBlock) (hown5 : w5.ownsRow W0.heap.size 45 2 v5 (es.length + 1) (eCells es us ++ [.string ByteArray.empty, .slice (some ⟨pb, 0, none⟩) k k])) :
    BdInv w w5 hb B vA vP vW ac ps es0 ∧ OwnE w5 B v5 (es ++ [⟨ByteArray.empty, xs⟩]) := by
  have h1 : Below W0.heap.size W0 X := hb0.trans (hX.mono hb0.size)
  have h2 : Below W0.heap.size W0 w5 := h1.grown hgrow h1.size (fun q hq => (World.ownsRow.lt hrow q hq).1)
  refine ⟨m.below h2, ?_⟩
  have hp : OwnP X B (.slice (some ⟨pb, 0, none⟩) k k) xs := by
    have hl : (pCells xs).length = k * 2 := by
      rw [← hk]
      unfold pCells
      clear hk hpb hown5
      induction xs with
      | nil => rfl
      | cons x xs ih => simp only [List.flatMap_cons, List.length_append, List.length_cons, List.length_nil]; rw [ih]; omega
    refine ⟨by rw [hl, hk], Or.inr ⟨pb, k, (pCells xs).toArray, by rw [hk], hpB, hpb, by omega, hkm, by rw [List.size_toArray, hl], ?_⟩⟩
    rw [List.toList_toArray, hk, ← hl, List.take_length]
  exact OwnE.push (W := X) (e := ⟨ByteArray.empty, xs⟩) hul (ownsRow_mono (ownsRow_below hrow hX) hB) (fun i h h2 => ownsRow_below (hus i h h2) hX) hp hgrow (ownsRow_mono hown5 hB)
/-- The store. -/
theorem BdInv.set {w W : World} {hb B g n cap i : Nat} {vA vW u : Value} {ac : List Sg.Acc} {ps : List (List Sg.Ent)} {es es1 : List Sg.Ent} (m : BdInv w W hb B vA (.slice (some ⟨g, 0, none⟩) n cap) vW ac ps es) (hi : i < ps.length) (hE : OwnE W B u es1) : BdInv w (W.setCell ⟨g, i, none⟩ u) hb B vA (.slice (some ⟨g, 0, none⟩) n cap) vW ac (ps.set i es1) es := by
  obtain ⟨hp, hk⟩ := m.pers.set (i := i) hE
  obtain ⟨_, _, _, _, hBg, _⟩ := m.pers.at_ hi
  exact ⟨m.bel.setCell (Nat.le_trans m.base hBg) _, hk _ _ _ _ m.box (by decide), m.base, m.accs.keptT hk (by decide), hp, m.was.keptT hk (by decide) (by decide)⟩
end Go.Proofs.YtpkkhkkkgjhkeabGreat

/-
  A SLICE OF RAWS that came in, opened.
-/
namespace Go.Proofs.YtpkkhkkkgjhkeabGreat
set_option maxRecDepth 100000
open Go.ChangeShapes Go.WideShapes Go.ChangeAt Go.RowKit

theorem Tryz.cellsRaw : Tryz.prog.cellsOf 61 = 5 := by kernel_rfl
theorem Tryz.bytesRaw : Tryz.prog.bytesOf 61 = 48 := by kernel_rfl
theorem Tryz.cellsInt : Tryz.prog.cellsOf 3 = 1 := by kernel_rfl
theorem fits_wf {n : Int} (h : (Lit.int .i64 n).wf = true) : Sg.fits n = true := by
  have : -9223372036854775808 ≤ n ∧ n ≤ 9223372036854775807 := by simpa [Lit.wf, IntKind.min, IntKind.max, IntKind.signed, IntKind.bits] using h
  exact decide_eq_true this

/-- One Raw that came in. -/
theorem open_raw {H : Type} {enc : TypeId × Value → H} {W : World} {n : Nat} {cs : List Value} {x : DataW H × List MemPlace} (h : DataW.trod enc Tryz.prog W 0 (fun _ => true) true n 61 cs = some x) :
    ∃ r : Raw, cs = [.string r.memo, .int .i64 r.a, .int .i64 r.b, .int .i64 r.c, .int .i64 r.n] ∧ rawFits r := by
  obtain ⟨xs, k, _, _, hcl, hxl, hf⟩ := DataW.trod_struct Tryz.underlying61 h
  rw [Tryz.cellsRaw] at hcl
  match cs, hcl with
  | [c0, c1, c2, c3, c4], _ =>
    match xs, hxl with
    | [y0, y1, y2, y3, y4], _ =>
      have g0 : DataW.trod enc Tryz.prog W 0 (fun _ => true) true k 9 (([c0, c1, c2, c3, c4].drop 0).take (Tryz.prog.cellsOf 9)) = some y0 := hf 0 { name := "Memo", type := 9, offset := 0, embedded := false, tag := "", pkgPath := "", byteOffset := 0 } rfl
      have g1 : DataW.trod enc Tryz.prog W 0 (fun _ => true) true k 3 (([c0, c1, c2, c3, c4].drop 1).take (Tryz.prog.cellsOf 3)) = some y1 := hf 1 { name := "A", type := 3, offset := 1, embedded := false, tag := "", pkgPath := "", byteOffset := 16 } rfl
      have g2 : DataW.trod enc Tryz.prog W 0 (fun _ => true) true k 3 (([c0, c1, c2, c3, c4].drop 2).take (Tryz.prog.cellsOf 3)) = some y2 := hf 2 { name := "B", type := 3, offset := 2, embedded := false, tag := "", pkgPath := "", byteOffset := 24 } rfl
      have g3 : DataW.trod enc Tryz.prog W 0 (fun _ => true) true k 3 (([c0, c1, c2, c3, c4].drop 3).take (Tryz.prog.cellsOf 3)) = some y3 := hf 3 { name := "C", type := 3, offset := 3, embedded := false, tag := "", pkgPath := "", byteOffset := 32 } rfl
      have g4 : DataW.trod enc Tryz.prog W 0 (fun _ => true) true k 3 (([c0, c1, c2, c3, c4].drop 4).take (Tryz.prog.cellsOf 3)) = some y4 := hf 4 { name := "N", type := 3, offset := 4, embedded := false, tag := "", pkgPath := "", byteOffset := 40 } rfl
      rw [Tryz.cellsStr] at g0
      rw [Tryz.cellsInt] at g1 g2 g3 g4
      simp only [List.drop_succ_cons, List.drop_zero, List.take_succ_cons, List.take_zero] at g0 g1 g2 g3 g4
      obtain ⟨s, e0, _, hs⟩ := DataW.trod_string Tryz.underlying9 g0
      obtain ⟨a, e1, _, ha⟩ := DataW.trod_int Tryz.underlying3 g1
      obtain ⟨b, e2, _, hb⟩ := DataW.trod_int Tryz.underlying3 g2
      obtain ⟨c, e3, _, hc⟩ := DataW.trod_int Tryz.underlying3 g3
      obtain ⟨m, e4, _, _⟩ := DataW.trod_int Tryz.underlying3 g4
      simp only [List.cons.injEq, and_true] at e0 e1 e2 e3 e4
      subst e0 e1 e2 e3 e4
      exact ⟨⟨s, a, b, c, m⟩, rfl, hs, fits_wf ha, fits_wf hb, fits_wf hc⟩

/-- A slice of Raws that came in: what the walks ask of it. -/
theorem open_raws {H : Type} {enc : TypeId × Value → H} {W : World} {v : Value} {d : DataW H} {p : List MemPlace} {base : Nat} {ts : List TypeId} {ds : List (DataW H)} {j : Nat}
    (hv : Value.okWide Tryz.prog W .any base 22 v) (h : DataW.Trod enc Tryz.prog W 0 (fun _ => true) true 22 v d p)
    (hsz : (DataW.weightsEach Tryz.prog ts ds).all (· ≤ reachBytes) = true) (ht : ts[j]? = some 22) (hd : ds[j]? = some d) :
    ∃ ao len cap rs, v = .slice ao len cap ∧ rs.length = len ∧ len ≤ 4611686018427387904 ∧ RawsIn W ao rs ∧ ∀ r ∈ rs, rawFits r := by
  obtain ⟨ao, len, cap, rfl⟩ := okWide_slice Tryz.underlying22 hv
  obtain ⟨fuel, hf⟩ := h
  rcases Go.Deep.open_slice Tryz.underlying22 hf with ⟨hcs, _⟩ | ⟨a, l', c', m, n, D, Pl, hcs, _, hl, _, hm, hx, hel⟩
  · simp [Value.cells] at hcs
    obtain ⟨rfl, rfl, rfl⟩ := hcs
    exact ⟨none, 0, 0, [], rfl, rfl, by omega, Or.inl rfl, by simp⟩
  · simp [Value.cells] at hcs
    obtain ⟨rfl, rfl, rfl⟩ := hcs
    simp only [if_true] at hm
    rw [hm] at hx
    have hx1 : d = .slice ((List.range len).map D) ((List.range (cap - len)).map fun j => D (len + j)) := by
      have := congrArg Prod.fst hx; simpa using this
    subst hx1
    have hw := sized_slice hsz ht hd Tryz.underlying22
    rw [Tryz.bytesRaw] at hw
    simp only [List.length_map, List.length_range, reachBytes] at hw
    rw [Tryz.cellsRaw] at hel
    have each : ∀ i, i < len → ∃ r : Raw, (W.cell? (a.add (i * 5)) = some (.string r.memo) ∧ W.cell? (a.add (i * 5 + 1)) = some (.int .i64 r.a) ∧ W.cell? (a.add (i * 5 + 2)) = some (.int .i64 r.b) ∧ W.cell? (a.add (i * 5 + 3)) = some (.int .i64 r.c) ∧ W.cell? (a.add (i * 5 + 4)) = some (.int .i64 r.n)) ∧ rawFits r := by
      intro i hi
      obtain ⟨cs', h1, h2⟩ := hel i (by omega)
      obtain ⟨r, hr, hfit⟩ := open_raw h2
      subst hr
      obtain ⟨_, _, hcell⟩ := World.cells?_some h1
      have e0 := hcell 0 (by omega)
      have e1 := hcell 1 (by omega)
      have e2 := hcell 2 (by omega)
      have e3 := hcell 3 (by omega)
      have e4 := hcell 4 (by omega)
      rw [Go.Deep.add_add] at e0 e1 e2 e3 e4
      exact ⟨r, ⟨by simpa using e0, by simpa using e1, by simpa using e2, by simpa using e3, by simpa using e4⟩, hfit⟩
    haveI : Inhabited Raw := ⟨⟨ByteArray.empty, 0, 0, 0, 0⟩⟩
    obtain ⟨q, hq⟩ := Go.Deep.choose_lt each
    refine ⟨some a, len, cap, (List.range len).map q, rfl, by simp, by omega, ?_, ?_⟩
    · by_cases h0 : len = 0
      · exact Or.inl (by simp [h0])
      · right
        obtain ⟨b, off, spot⟩ := a
        have hc0 := (hq 0 (by omega)).1.1
        have hspot : spot = none := by simpa [Addr.add] using World.cell?_spot hc0
        subst hspot
        refine ⟨b, off, rfl, World.block_lt_of_cell? W _ hc0, fun i hi => ?_⟩
        have hi' : i < len := by simpa using hi
        have ea : ∀ k, Addr.add ⟨b, off, none⟩ k = ⟨b, off + k, none⟩ := fun k => by cases k <;> simp [Addr.add]
        have := (hq i hi').1
        simp only [ea, ← Nat.add_assoc] at this
        simp only [List.getElem_map, List.getElem_range]
        exact this
    · intro r hr
      simp only [List.mem_map, List.mem_range] at hr
      obtain ⟨i, hi, rfl⟩ := hr
      exact (hq i hi).2

end Go.Proofs.YtpkkhkkkgjhkeabGreat
