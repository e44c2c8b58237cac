import Derived.Test.YtpkkhkkkgjhkeabGreatMadeSpec
/-
  WHAT STANDS at the head of made's loops, and what made answers.
-/
namespace Go.Proofs.YtpkkhkkkgjhkeabGreat
open Go.RowKit
set_option maxRecDepth 100000
attribute [local go_sem ↓] Go.wp_at_zero Go.wp_at_succ

theorem Tryz.infoEnt2 : (Tryz.prog.info? 45).map (fun i => (i.zero, i.size, i.bytes)) = some (some (.agg #[.string ByteArray.empty, .slice none 0 0]), 2, 40) := by kernel_rfl
theorem Tryz.infoPer1 : (Tryz.prog.info? 42).map (fun i => (i.zero, i.size, i.bytes)) = some (some (.agg #[.slice none 0 0]), 1, 24) := by kernel_rfl

structure Raw where
  memo : ByteArray
  a : Int
  b : Int
  c : Int
  n : Int
def RawsIn (w : World) (ao : Option Addr) (rs : List Raw) : Prop := rs.length = 0 ∨ ∃ b off, ao = some ⟨b, off, none⟩ ∧ b < w.heap.size ∧ ∀ i (h : i < rs.length), w.cell? ⟨b, off + i * 5, none⟩ = some (.string rs[i].memo) ∧ w.cell? ⟨b, off + i * 5 + 1, none⟩ = some (.int .i64 rs[i].a) ∧ w.cell? ⟨b, off + i * 5 + 2, none⟩ = some (.int .i64 rs[i].b) ∧ w.cell? ⟨b, off + i * 5 + 3, none⟩ = some (.int .i64 rs[i].c) ∧ w.cell? ⟨b, off + i * 5 + 4, none⟩ = some (.int .i64 rs[i].n)
theorem RawsIn.below {w w' : World} {ao : Option Addr} {rs : List Raw} (h : RawsIn w ao rs) (hb : Below w.heap.size w w') : RawsIn w' ao rs := by
  rcases h with h0 | ⟨b, off, e, hbw, hat⟩
  · exact Or.inl h0
  · refine Or.inr ⟨b, off, e, Nat.lt_of_lt_of_le hbw hb.size, fun i hi => ?_⟩
    rw [hb.cell (p := ⟨b, off + i * 5, none⟩) hbw, hb.cell (p := ⟨b, off + i * 5 + 1, none⟩) hbw, hb.cell (p := ⟨b, off + i * 5 + 2, none⟩) hbw, hb.cell (p := ⟨b, off + i * 5 + 3, none⟩) hbw, hb.cell (p := ⟨b, off + i * 5 + 4, none⟩) hbw]
    exact hat i hi
def rawFits (r : Raw) : Prop := r.memo.size ≤ maxLen ∧ Sg.fits r.a = true ∧ Sg.fits r.b = true ∧ Sg.fits r.c = true

/-- What stands at the head of both loops: the result's box, h's box, its lists. -/
structure MdInv (w wr : World) (hb : Nat) (A vP : Value) (ac : List Sg.Acc) (ps : List (List Sg.Ent)) (nA : Nat) : Prop where
  bel : Below w.heap.size w wr
  res : Two wr w.heap.size (.slice none 0 0) (.slice none 0 0) 26
  box : Two wr hb A vP 26
  accs : OwnA wr (w.heap.size + 1) A ac
  pers : OwnPs wr (w.heap.size + 1) vP ps
  fine : ∀ p ∈ ps, p.length ≤ 12 ∧ ∀ e ∈ p, Sg.EntFine nA e
theorem MdInv.size {w wr : World} {hb : Nat} {A vP : Value} {ac : List Sg.Acc} {ps : List (List Sg.Ent)} {nA : Nat} (m : MdInv w wr hb A vP ac ps nA) : w.heap.size < wr.heap.size ∧ hb < wr.heap.size := ⟨lt_of_block m.res, lt_of_block m.box⟩
theorem MdInv.below {w wr w' : World} {hb : Nat} {A vP : Value} {ac : List Sg.Acc} {ps : List (List Sg.Ent)} {nA : Nat} (m : MdInv w wr hb A vP ac ps nA) (h : Below wr.heap.size wr w') : MdInv w w' hb A vP ac ps nA :=
  ⟨m.bel.trans (h.mono m.bel.size), m.res.below h, m.box.below h, m.accs.below h, m.pers.below h, m.fine⟩

/-- What made answers: a history of its own lists that can be sealed. -/
def MadeRes (w w' : World) (vA vP : Value) : Prop := ∃ ac ps, OwnA w' (w.heap.size + 1) vA ac ∧ OwnPs w' (w.heap.size + 1) vP ps ∧ Sg.MadeOk ⟨ac, ps⟩ ∧ Below w.heap.size w w'

theorem ownsRow_mono {w : World} {B B' : Nat} {e : TypeId} {sz n : Nat} {v : Value} {xs : List Value} (h : w.ownsRow B e sz v n xs) (hB : B' ≤ B) : w.ownsRow B' e sz v n xs := by
  refine ⟨h.1, ?_⟩
  rcases h.2 with h0 | ⟨g, cap, cur, h1, h2, h3⟩
  · exact Or.inl h0
  · exact Or.inr ⟨g, cap, cur, h1, Nat.le_trans hB h2, h3⟩
theorem OwnE.mono {w : World} {B B' : Nat} {v : Value} {es : List Sg.Ent} (h : OwnE w B v es) (hB : B' ≤ B) : OwnE w B' v es := by
  obtain ⟨us, a, b, c⟩ := h
  exact ⟨us, a, ownsRow_mono b hB, fun i hi hi2 => ownsRow_mono (c i hi hi2) hB⟩

/-- A period more in h. -/
theorem MdInv.push {w W w5 : World} {hb nA g cap' : Nat} {A vP u : Value} {ac : List Sg.Acc} {ps : List (List Sg.Ent)} {es : List Sg.Ent} {us : List Value} (m : MdInv w W hb A vP ac ps nA) (hlt : w.heap.size < hb) (hlen : us.length = ps.length) (hrow : W.ownsRow (w.heap.size + 1) 42 1 vP ps.length us) (hes : ∀ i (h : i < ps.length) (h2 : i < us.length), OwnE W (w.heap.size + 1) us[i] ps[i]) (hu : OwnE W (w.heap.size + 1) u es) (hl : es.length ≤ 12) (hf : ∀ e ∈ es, Sg.EntFine nA e)
    (hg : W.grownBy w5 vP.ownBlock) (hown : w5.ownsRow (w.heap.size + 1) 42 1 (.slice (some ⟨g, 0, none⟩) (ps.length + 1) cap') (ps.length + 1) (us ++ [u])) :
    Two w5 hb A vP 26 ∧ MdInv w (w5.setCell ⟨hb, 1, none⟩ (.slice (some ⟨g, 0, none⟩) (ps.length + 1) cap')) hb A (.slice (some ⟨g, 0, none⟩) (ps.length + 1) cap') ac (ps ++ [es]) nA := by
  have hk := keptT_append hrow hg
  have box5 : Two w5 hb A vP 26 := hk _ _ _ _ m.box (by decide)
  have res5 : Two w5 w.heap.size (.slice none 0 0) (.slice none 0 0) 26 := hk _ _ _ _ m.res (by decide)
  have hk6 : KeptT 26 w5 (w5.setCell ⟨hb, 1, none⟩ (.slice (some ⟨g, 0, none⟩) (ps.length + 1) cap')) := keptT_setCell box5
  have hp := OwnPs.push hlen hrow hes hu hg hown
  refine ⟨box5, ⟨?_, ?_, ?_, ?_, ?_, ?_⟩⟩
  · exact (m.bel.grown hg (Nat.le_trans m.bel.size (Nat.le_refl _)) (fun q hq => by have := (World.ownsRow.lt hrow q hq).1; omega)).setCell (by show _ ≤ hb; omega) _
  · exact (Below.heap_setCell _ _ _ _ (by show w.heap.size ≠ hb; omega)).trans res5
  · have := heap_setCell_same w5 hb 1 _ _ (.slice (some ⟨g, 0, none⟩) (ps.length + 1) cap') box5
    exact this
  · exact (m.accs.keptT hk (by decide)).keptT hk6 (by decide)
  · exact hp.keptT hk6 (by decide) (by decide) (by decide)
  · intro p hp
    rcases List.mem_append.1 hp with h | h
    · exact m.fine p h
    · simp at h; subst h; exact ⟨hl, hf⟩

/-- What stands at the head of the inner loop: p's box, its entries. -/
structure PeInv (wz wr : World) (vE : Value) (es : List Sg.Ent) (nA : Nat) : Prop where
  bel : Below wz.heap.size wz wr
  box : wr.heap[wz.heap.size]? = some (.cells #[vE] 42 (0, 0))
  ents : OwnE wr (wz.heap.size + 1) vE es
  fine : ∀ e ∈ es, Sg.EntFine nA e
theorem PeInv.below {wz wr w' : World} {vE : Value} {es : List Sg.Ent} {nA : Nat} (m : PeInv wz wr vE es nA) (h : Below wr.heap.size wr w') : PeInv wz w' vE es nA :=
  ⟨m.bel.trans (h.mono m.bel.size), (h.block _ (lt_of_block m.box)).trans m.box, m.ents.below h, m.fine⟩
theorem PeInv.start (wz : World) (nA : Nat) : PeInv wz (wz.alloc (.cells #[.slice none 0 0] 42)) (.slice none 0 0) [] nA :=
  ⟨(Below.refl _ _).alloc (Nat.le_refl _) _, heap_alloc_new wz _, OwnE.nil _ _, fun e he => absurd he (by simp)⟩
/-- An entry more in p. -/
theorem PeInv.push {wz W w5 : World} {nA g cap' : Nat} {vE pv : Value} {es : List Sg.Ent} {e : Sg.Ent} {us : List Value} (m : PeInv wz W vE es nA) (hlen : us.length = es.length) (hrow : W.ownsRow (wz.heap.size + 1) 45 2 vE es.length (eCells es us)) (hps : ∀ i (h : i < es.length) (h2 : i < us.length), OwnP W (wz.heap.size + 1) us[i] es[i].posts) (hu : OwnP W (wz.heap.size + 1) pv e.posts) (hf : Sg.EntFine nA e)
    (hg : W.grownBy w5 vE.ownBlock) (hown : w5.ownsRow (wz.heap.size + 1) 45 2 (.slice (some ⟨g, 0, none⟩) (es.length + 1) cap') (es.length + 1) (eCells es us ++ [.string e.memo, pv])) :
    w5.heap[wz.heap.size]? = some (.cells #[vE] 42 (0, 0)) ∧ PeInv wz (w5.setCell ⟨wz.heap.size, 0, none⟩ (.slice (some ⟨g, 0, none⟩) (es.length + 1) cap')) (.slice (some ⟨g, 0, none⟩) (es.length + 1) cap') (es ++ [e]) nA := by
  have hk := keptT_append hrow hg
  have box5 := hk _ _ _ _ m.box (by decide)
  have hk6 : KeptT 42 w5 (w5.setCell ⟨wz.heap.size, 0, none⟩ (.slice (some ⟨g, 0, none⟩) (es.length + 1) cap')) := keptT_setCell box5
  refine ⟨box5, ⟨?_, ?_, ?_, ?_⟩⟩
  · exact (m.bel.grown hg m.bel.size (fun q hq => by have := (World.ownsRow.lt hrow q hq).1; omega)).setCell (Nat.le_refl _) _
  · have := heap_setCell_same w5 wz.heap.size 0 _ _ (.slice (some ⟨g, 0, none⟩) (es.length + 1) cap') box5
    exact this
  · exact (OwnE.push hlen hrow hps hu hg hown).keptT hk6 (by decide) (by decide)
  · intro p hp
    rcases List.mem_append.1 hp with h | h
    · exact m.fine p h
    · simp at h; subst h; exact hf
/-- A row is a slice. -/
theorem OwnP.shape {w : World} {B : Nat} {v : Value} {ps : List Sg.Pst} (h : OwnP w B v ps) : ∃ ao n cap, v = .slice ao n cap := by
  rcases h.2 with ⟨e, _⟩ | ⟨g, cap, cur, e, _⟩
  · exact ⟨_, _, _, e⟩
  · exact ⟨_, _, _, e⟩
/-- A box of zeros that was made ahead of a call stands behind it. -/
theorem ebox {b : Nat} {W w2 : World} (hb2 : Below W.heap.size W w2) (hW : W.heap[b]? = some (.cells #[.string ByteArray.empty, .slice none 0 0] 45 (0, 0))) :
    w2.heap[b]? = some (.cells #[.string ByteArray.empty, .slice none 0 0] 45 (0, 0)) ∧ w2.cell? ⟨b, 0, none⟩ = some (.string ByteArray.empty) ∧ w2.cell? ⟨b, 1, none⟩ = some (.slice none 0 0) ∧ w2.frozen? ⟨b, 0, none⟩ = false ∧ w2.frozen? ⟨b, 1, none⟩ = false := by
  have h := (hb2.block _ (lt_of_block hW)).trans hW
  refine ⟨h, ?_, ?_, ?_, ?_⟩
  · rw [cell_of_row w2 _ 0 _ _ _ h]; rfl
  · rw [cell_of_row w2 _ 1 _ _ _ h]; rfl
  · simp [World.frozen?, h]
  · simp [World.frozen?, h]
/-- Behind the call of entry, however it was drawn: e's box, and the postings in it. -/
structure EAt (wy W : World) (eb : Nat) (mm : ByteArray) (pv : Value) (pp : List Sg.Pst) : Prop where
  bel : Below wy.heap.size wy W
  box : W.heap[eb]? = some (.cells #[.string mm, pv] 45 (0, 0))
  own : OwnP W wy.heap.size pv pp
theorem EAt.c0 {wy W : World} {eb : Nat} {mm : ByteArray} {pv : Value} {pp : List Sg.Pst} (h : EAt wy W eb mm pv pp) : W.cell? ⟨eb, 0, none⟩ = some (.string mm) := by rw [cell_of_row W _ 0 _ _ _ h.box]; rfl
theorem EAt.c1 {wy W : World} {eb : Nat} {mm : ByteArray} {pv : Value} {pp : List Sg.Pst} (h : EAt wy W eb mm pv pp) : W.cell? ⟨eb, 1, none⟩ = some pv := by rw [cell_of_row W _ 1 _ _ _ h.box]; rfl
/-- The box behind the call. -/
theorem EAt.late {wy w2 : World} {B : Nat} {mm : ByteArray} {pv : Value} {pp : List Sg.Pst} (hb : Below wy.heap.size wy w2) (ho : OwnP w2 B pv pp) (hB : wy.heap.size ≤ B) : EAt wy (w2.alloc (.cells #[.string mm, pv] 45)) w2.heap.size mm pv pp :=
  ⟨hb.alloc hb.size _, heap_alloc_new w2 _, ownsRow_mono (World.ownsRow.alloc ho _) hB⟩
/-- The box ahead of the call. -/
theorem EAt.early {wy w2 : World} {B : Nat} {mm : ByteArray} {pv a b : Value} {pp : List Sg.Pst} (hb : Below wy.heap.size wy w2) (ho : OwnP w2 B pv pp) (hB : wy.heap.size + 1 ≤ B) (hx : w2.heap[wy.heap.size]? = some (.cells #[a, b] 45 (0, 0))) : EAt wy ((w2.setCell ⟨wy.heap.size, 0, none⟩ (.string mm)).setCell ⟨wy.heap.size, 1, none⟩ pv) wy.heap.size mm pv pp := by
  refine ⟨(hb.setCell (Nat.le_refl _) _).setCell (Nat.le_refl _) _, ?_, ?_⟩
  · have h1 := heap_setCell_same w2 wy.heap.size 0 _ _ (.string mm) hx
    have h2 := heap_setCell_same _ wy.heap.size 1 _ _ pv h1
    exact h2
  · exact ownsRow_mono (ownsRow_setCell_below (ownsRow_setCell_below (ownsRow_mono ho hB) (by show wy.heap.size < _; omega) _) (by show wy.heap.size < _; omega) _) (Nat.le_succ _)
end Go.Proofs.YtpkkhkkkgjhkeabGreat
