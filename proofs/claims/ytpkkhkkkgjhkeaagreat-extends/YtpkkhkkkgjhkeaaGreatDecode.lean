import Derived.Test.YtpkkhkkkgjhkeaaGreatOff
import Derived.Deep.CutRange
/-
  THE WALKS of Book.History, seal.Decode.
-/
namespace Go.Proofs.YtpkkhkkkgjhkeaaGreat
open Go.RowKit
set_option maxRecDepth 100000
attribute [local go_sem ↓] Go.wp_at_zero Go.wp_at_succ

def evs (rs : List Rec) : List Value := rs.map Rec.eV
theorem evs_get (rs : List Rec) (n i : Nat) (h1 : i < (evs (rs.take n)).length) (h2 : i < rs.length) : (evs (rs.take n))[i] = rs[i].eV := by simp [evs]
/-- What stands at the head of History's loop. -/
structure HsInv (w wr : World) (hb : Nat) (A vP : Value) (rs : List Rec) (k : Nat) : Prop where
  bel : Below w.heap.size w wr
  res : Two wr (w.heap.size + 1) nilV nilV 36
  box : Two wr hb A vP 36
  ord : w.heap.size + 1 < hb
  row : wr.ownsRow (hb + 1) 24 1 vP k (evs (rs.take k))
theorem HsInv.push {w wr X w5 : World} {hb k : Nat} {A vP v' : Value} {rs : List Rec} (m : HsInv w wr hb A vP rs k) (hk : k < rs.length) (aX : Below wr.heap.size wr X) (hg : X.grownBy w5 vP.ownBlock) (hown : w5.ownsRow (hb + 1) 24 1 v' (k + 1) (evs (rs.take k) ++ [rs[k].eV])) :
    Two w5 hb A vP 36 ∧ HsInv w (w5.setCell ⟨hb, 1, none⟩ v') hb A v' rs (k + 1) := by
  have hrX := ownsRow_below m.row aX
  have hk' := keptT_append hrX hg
  have box5 : Two w5 hb A vP 36 := hk' _ _ _ _ (m.box.below aX) (by decide)
  have hk6 : KeptT 36 w5 (w5.setCell ⟨hb, 1, none⟩ v') := keptT_setCell box5
  have bX := m.bel.trans (aX.mono m.bel.size)
  have ho := m.ord
  refine ⟨box5, ⟨?_, ?_, ?_, m.ord, ?_⟩⟩
  · exact (bX.grown hg bX.size (fun q hq => by have := (World.ownsRow.lt hrX q hq).1; omega)).setCell (by show _ ≤ hb; omega) _
  · exact (Below.heap_setCell _ _ _ _ (by show w.heap.size + 1 ≠ hb; omega)).trans (hk' _ _ _ _ (m.res.below aX) (by decide))
  · have := heap_setCell_same w5 hb 1 _ _ v' box5
    exact this
  · refine ownsRow_keptT (e := 24) ?_ hk6 (by decide)
    have e : evs (rs.take (k + 1)) = evs (rs.take k) ++ [rs[k].eV] := by
      unfold evs
      rw [List.take_succ_eq_append_getElem hk, List.map_append]; rfl
    rw [e]
    exact hown
theorem Closed.ev {w : World} {aoA : Option Addr} {nA nP b i : Nat} {h : Sg.Hist} {A : Value} {ao : Option Addr} {rs : List Rec} (c : Closed w aoA nA nP h A ao rs b) (hi : i < nP) : ∃ (h1 : i < rs.length) (h2 : i < h.pers.length) (aoE : Option Addr) (capE : Nat), rs[i].eV = .slice aoE h.pers[i].length capE ∧ EntsIn w aoE h.pers[i] := by
  have hl := c.bk.len
  have h1 : i < rs.length := by omega
  obtain ⟨g1, _, _, _, _, _, aoE, capE, g4, g5⟩ := c.bk.recs i h1
  exact ⟨h1, g1, aoE, capE, g4, g5⟩
/-- The history that comes out. -/
theorem hist_of_rows {w w' : World} {aoA ao : Option Addr} {nA nP b B : Nat} {h : Sg.Hist} {A vP : Value} {rs : List Rec} (c : Closed w aoA nA nP h A ao rs b) (hb : Below w.heap.size w w') (hrow : w'.ownsRow B 24 1 vP nP (evs (rs.take nP))) : ∃ aoP capP, vP = .slice aoP nP capP ∧ HistIn w' aoA aoP nA nP h := by
  have cw := c.below hb
  have hi := c.inb
  have hA := Sg.bnd_accs hi
  have hP := Sg.bnd_pers hi
  have hn : 1 ≤ nP := by
    have h3 := c.lenP
    unfold Sg.inBounds at hi
    simp only [Bool.and_eq_true, decide_eq_true_eq] at hi
    omega
  obtain ⟨g, cap, rfl, _, hg⟩ := hrow.form (by omega)
  refine ⟨_, cap, rfl, cw.accs, ?_, c.lenA, c.lenP, fun a ha => ?_, fun p hp => ?_, c.sizQ⟩
  · refine Or.inr ⟨g, 0, rfl, hg, fun i hi' => ?_⟩
    have hin : i < nP := by rw [← c.lenP]; exact hi'
    obtain ⟨h1, h2, aoE, capE, e, hE⟩ := cw.ev hin
    refine ⟨aoE, capE, ?_, hE⟩
    rw [Nat.zero_add, World.ownsRow.cellAt hrow i (by omega)]
    unfold evs
    rw [List.getElem?_map, List.getElem?_take_of_lt hin, List.getElem?_eq_getElem h1]
    simp [e]
  · have := hA a ha
    exact ⟨by omega, decide_eq_true (by omega)⟩
  · have := hP p hp
    exact ⟨by omega, fun e he => by have := this.2 e he; omega⟩

set_option maxHeartbeats 3200000 in
/-- Book.History. -/
theorem bHistory_any (h : Sg.Hist) (aoA ao : Option Addr) (nA nP capA cap b : Nat) (rs : List Rec) (w : World) (hC : Closed w aoA nA nP h (.slice aoA nA capA) ao rs b) :
    Calls Tryz.prog 37 #[.agg #[.slice aoA nA capA, .slice ao nP cap]] w fun e w' => ∃ aoP capP, e = .returned (.agg #[.slice aoA nA capA, .slice aoP nP capP]) ∧ Hid (w'.ownsRow w.heap.size 24 1 (.slice aoP nP capP) nP (evs (rs.take nP))) ∧ Below w.heap.size w w' := by
  obtain ⟨p0, pi, pz0, pz1, pz2⟩ := info_parts Tryz.infoPer1
  have HC : Hid (Closed w aoA nA nP h (.slice aoA nA capA) ao rs b) := hC
  have hao := hC.bk.at_
  have hlen := hC.bk.len
  have hn6 : nP ≤ 6 := by
    have hi := hC.inb
    have h3 := hC.lenP
    unfold Sg.inBounds at hi
    simp only [Bool.and_eq_true, decide_eq_true_eq] at hi
    omega
  have HLEN : Hid (rs.length = nP) := hlen
  subst hao
  clear hC hlen
  have hb0 : Below w.heap.size w (((w.alloc (.cells #[.slice aoA nA capA, .slice (some ⟨b, 0, none⟩) nP cap] 72)).alloc (.cells #[nilV, nilV] 36)).alloc (.cells #[.slice aoA nA capA, nilV] 36)) := (((Below.refl _ _).alloc (Nat.le_refl _) _).alloc (by simp) _).alloc (by simp; omega) _
  have HI0 : Hid (HsInv w (((w.alloc (.cells #[.slice aoA nA capA, .slice (some ⟨b, 0, none⟩) nP cap] 72)).alloc (.cells #[nilV, nilV] 36)).alloc (.cells #[.slice aoA nA capA, nilV] 36)) (w.heap.size + 2) (.slice aoA nA capA) nilV rs 0) := by
    refine ⟨hb0, ?_, ?_, by omega, World.ownsRow_nil _ _ _ _⟩
    · have e := heap_alloc_new (w.alloc (.cells #[.slice aoA nA capA, .slice (some ⟨b, 0, none⟩) nP cap] 72)) (.cells #[nilV, nilV] 36)
      rw [show (w.alloc (.cells #[.slice aoA nA capA, .slice (some ⟨b, 0, none⟩) nP cap] 72)).heap.size = w.heap.size + 1 by simp] at e
      exact (Below.heap_alloc _ _ _ (by simp)).trans e
    · have e := heap_alloc_new ((w.alloc (.cells #[.slice aoA nA capA, .slice (some ⟨b, 0, none⟩) nP cap] 72)).alloc (.cells #[nilV, nilV] 36)) (.cells #[.slice aoA nA capA, nilV] 36)
      rw [show ((w.alloc (.cells #[.slice aoA nA capA, .slice (some ⟨b, 0, none⟩) nP cap] 72)).alloc (.cells #[nilV, nilV] 36)).heap.size = w.heap.size + 2 by simp] at e
      exact e
  clear hb0
  go_enter Tryz.func37, Tryz.ntmps37
  go_wp2_with fail
  go_loopw [12] (fun i wr => ∃ k : Nat, k ≤ nP ∧ i = .int .i64 (k : Int) ∧ ∃ vP, Hid (HsInv w wr (w.heap.size + 2) (.slice aoA nA capA) vP rs k)) (fun i _ => nP - (intOf i).toNat)
  case atStart => exact ⟨0, by omega, rfl, _, HI0⟩
  case round =>
    obtain ⟨k, hk, rfl, vP, HI⟩ := hrel
    obtain ⟨wz, ewz⟩ : ∃ z : World, z = wr := ⟨_, rfl⟩
    subst ewz
    clear HI0
    obtain ⟨aoP, nX, capP, hvP⟩ : ∃ a n c, vP = .slice a n c := by
      rcases HI.out.row.2 with ⟨e, _⟩ | ⟨g, c, cur, e, _⟩
      · exact ⟨_, _, _, e⟩
      · exact ⟨_, _, _, e⟩
    subst hvP
    obtain ⟨bx0, bx1⟩ := HI.out.box.cells
    by_cases hgo : k < nP
    · have g1 : (k : Int) < (nP : Int) := by omega
      have g0 : (0 : Int) ≤ (k : Int) := by omega
      have hC := HC.out.below HI.out.bel
      obtain ⟨h1, h2, aoE, capE, eE, hEE⟩ := hC.ev hgo
      have cl := fun j hj => hC.bk.cells k h1 j hj
      have x0 := cl 0 (by omega)
      have x1 := cl 1 (by omega)
      have x2 := cl 2 (by omega)
      have x3 := cl 3 (by omega)
      have x4 := cl 4 (by omega)
      have x5 := cl 5 (by omega)
      have x6 := cl 6 (by omega)
      have x7 := cl 7 (by omega)
      have x8 := cl 8 (by omega)
      have x9 := cl 9 (by omega)
      have x10 := cl 10 (by omega)
      simp only [recCells, eE, Nat.add_zero, List.getElem?_cons_zero, List.getElem?_cons_succ] at x0 x1 x2 x3 x4 x5 x6 x7 x8 x9 x10
      have hbw := hC.bk.lt
      have HEv : Hid (rs[k].eV = .slice aoE h.pers[k].length capE) := eE
      have HRk : Hid (k < rs.length) := h1
      generalize h.pers[k].length = nE at *
      clear cl hC eE hEE
      have hrow : wz.ownsRow (w.heap.size + 2 + 1) 24 1 (.slice aoP nX capP) k (evs (rs.take k)) := HI.out.row
      have hsb : w.heap.size + 2 < wz.heap.size := lt_of_block HI.out.box
      go_wp2_with (at_builtin; (refine wpList_append_lies _ rfl _ _ 34 rfl (w.heap.size + 2 + 1) 24 p0 (.agg #[.slice none 0 0]) 1 24 Tryz.underlying34 pi pz0 pz1 pz2 rfl (by decide) (.slice aoP nX capP) k (evs (rs.take k)) rfl ((hrow.alloc _).alloc _) ⟨wz.heap.size + 1, 0, none⟩ 1 1 [.slice aoE nE capE] rfl rfl (World.news_of_block (cs := #[.slice aoE nE capE]) (t := 24) (fr := (0, 0)) (new_block2 wz _ _ _)) (by intro u hu; simp at hu; subst hu; rfl) (by omega) (by unfold maxLen; omega) (by omega) (by simp; omega) (wz.heap.size + 2) (by simp) ?_))
      intro g cap' w5 hown5 hgrow _ hlt5
      obtain ⟨box5, M6⟩ := HI.out.push (v' := .slice (some ⟨g, 0, none⟩) (k + 1) cap') HRk.out (((Below.refl _ _).alloc (Nat.le_refl _) _).alloc (by simp) _) hgrow (by rw [HEv.out]; exact hown5)
      obtain ⟨by0, by1⟩ := box5.cells
      have bf1 : w5.frozen? ⟨w.heap.size + 2, 1, none⟩ = false := (two_frozen box5).2
      have HM6 : Hid (HsInv w (w5.setCell ⟨w.heap.size + 2, 1, none⟩ (.slice (some ⟨g, 0, none⟩) (k + 1) cap')) (w.heap.size + 2) (.slice aoA nA capA) (.slice (some ⟨g, 0, none⟩) (k + 1) cap') rs (k + 1)) := M6
      clear M6 hgrow hown5 box5 hrow bx0 bx1 x0 x1 x2 x3 x4 x5 x6 x7 x8 x9 x10 HI
      go_wp2_with fail
      go_roundw
      case rel => exact ⟨k + 1, by omega, by go_num, _, HM6⟩
      case measure => simp [intOf]; omega
    · have g1 : ¬ (k : Int) < (nP : Int) := by omega
      have hkn : k = nP := by omega
      obtain ⟨z0, z1⟩ := HI.out.res.cells
      obtain ⟨y0, y1⟩ := two_frozen HI.out.res
      have hbe : Below w.heap.size w ((wz.setCell ⟨w.heap.size + 1, 0, none⟩ (.slice aoA nA capA)).setCell ⟨w.heap.size + 1, 1, none⟩ (.slice aoP nX capP)) := (HI.out.bel.setCell (by show _ ≤ w.heap.size + 1; omega) _).setCell (by show _ ≤ w.heap.size + 1; omega) _
      have hrw : ((wz.setCell ⟨w.heap.size + 1, 0, none⟩ (.slice aoA nA capA)).setCell ⟨w.heap.size + 1, 1, none⟩ (.slice aoP nX capP)).ownsRow (w.heap.size + 2 + 1) 24 1 (.slice aoP nX capP) nP (evs (rs.take nP)) := by
        have := HI.out.row
        rw [hkn] at this
        exact ownsRow_setCell_below (ownsRow_setCell_below this (by show w.heap.size + 1 < _; omega) _) (by show w.heap.size + 1 < _; omega) _
      obtain ⟨aoP', capP', e', hH⟩ := hist_of_rows HC.out hbe hrw
      simp only [Value.slice.injEq] at e'
      obtain ⟨rfl, rfl, rfl⟩ := e'
      have HH : Hid (((wz.setCell ⟨w.heap.size + 1, 0, none⟩ (.slice aoA nA capA)).setCell ⟨w.heap.size + 1, 1, none⟩ (.slice aoP nX capP)).ownsRow w.heap.size 24 1 (.slice aoP nX capP) nX (evs (rs.take nX)) ∧ Below w.heap.size w ((wz.setCell ⟨w.heap.size + 1, 0, none⟩ (.slice aoA nA capA)).setCell ⟨w.heap.size + 1, 1, none⟩ (.slice aoP nX capP))) := ⟨ownsRow_mono hrw (by omega), hbe⟩
      clear hH hbe hrw HI hkn hgo
      go_wp2_with fail
      refine bodyPost_ret (v := .agg #[.slice aoA nA capA, .slice aoP nX capP]) (by simp [results, Tryz.results37, go_sem, z0, z1]) rfl ⟨_, _, rfl, HH.out.1, HH.out.2⟩

set_option maxHeartbeats 1600000 in
/-- seal.Decode. -/
theorem decode_any (t : ByteArray) (w : World) :
    Calls Tryz.prog 17 #[.string t] w fun e w' => Below w.heap.size w w' ∧
      ((¬ Sg.isPk (Sg.pdHist (Sg.tx t)) t ∧ e = .returned (.tuple #[.agg #[nilV, nilV], .int .i64 5])) ∨
       (Sg.isPk (Sg.pdHist (Sg.tx t)) t ∧ ∃ aoA nA capA aoP nP capP, e = .returned (.tuple #[.agg #[.slice aoA nA capA, .slice aoP nP capP], .int .i64 0]) ∧ (nA ≤ capA ∧ capA ≤ 9223372036854775807) ∧ HistIn w' aoA aoP nA nP (Sg.pdHist (Sg.tx t)) ∧ OwnA w' w.heap.size (.slice aoA nA capA) (Sg.pdHist (Sg.tx t)).accs ∧ OwnPsA w' w.heap.size (.slice aoP nP capP) (Sg.pdHist (Sg.tx t)).pers)) := by
  obtain ⟨h, hh⟩ : ∃ h, Sg.pdHist (Sg.tx t) = h := ⟨_, rfl⟩
  have hcall := fun W => bRead_any t W
  rw [hh] at hcall ⊢
  clear hh
  have hT := Two.new w nilV nilV 36
  have a0 : Below w.heap.size w (w.alloc (.cells #[nilV, nilV] 36)) := (Below.refl _ _).alloc (Nat.le_refl _) _
  go_enter Tryz.func17, Tryz.ntmps17
  go_wp2_with fail
  refine (hcall _).mono ?_
  rintro e w1 ⟨hb1, hcase⟩
  clear hcall
  have hT1 := hT.below hb1
  have b01 := a0.trans (hb1.mono a0.size)
  clear hT a0 hb1
  rcases hcase with ⟨hn, rfl⟩ | ⟨hy, aoA, nA, nP, capA, ao, cap, rs, b, rfl, hcc, hC, hRO⟩
  · have HN : Hid (¬ Sg.isPk h t) := hn
    have aB : Below w1.heap.size w1 (w1.alloc (.cells #[nilV, nilV] 72)) := (Below.refl _ _).alloc (Nat.le_refl _) _
    have hT2 := hT1.below aB
    have b02 := b01.trans (aB.mono b01.size)
    clear hn hT1 b01 aB
    go_upto_region 2 with fail
    generalize w1.alloc (.cells #[nilV, nilV] 72) = w2 at *
    obtain ⟨c0, c1⟩ := hT2.cells
    obtain ⟨f0, f1⟩ := two_frozen hT2
    have HB : Hid (Below w.heap.size w ((w2.setCell ⟨w.heap.size, 0, none⟩ nilV).setCell ⟨w.heap.size, 1, none⟩ nilV)) := (b02.setCell (Nat.le_refl _) _).setCell (Nat.le_refl _) _
    go_wp2_with fail
    refine bodyPost_ret (v := .tuple #[.agg #[nilV, nilV], .int .i64 5]) (by simp [results, Tryz.results17, go_sem, c0, c1]) rfl ⟨HB.out, Or.inl ⟨HN.out, rfl⟩⟩
  · have aB : Below w1.heap.size w1 (w1.alloc (.cells #[.slice aoA nA capA, .slice ao nP cap] 72)) := (Below.refl _ _).alloc (Nat.le_refl _) _
    have hT2 := hT1.below aB
    have b02 := b01.trans (aB.mono b01.size)
    have hcall := bHistory_any h aoA ao nA nP capA cap b rs _ (hC.below aB)
    have HC : Hid (Closed (w1.alloc (.cells #[.slice aoA nA capA, .slice ao nP cap] 72)) aoA nA nP h (.slice aoA nA capA) ao rs b) := hC.below aB
    have e0 : (w.alloc (.cells #[nilV, nilV] 36)).heap.size = w.heap.size + 1 := by simp
    have HOA : Hid (OwnA (w1.alloc (.cells #[.slice aoA nA capA, .slice ao nP cap] 72)) (w.heap.size + 1) (.slice aoA nA capA) h.accs) := by
      have := ownsRow_below hRO.1 aB
      rw [e0] at this
      exact this
    have HOE : Hid ((∀ i (_ : i < rs.length) (_ : i < h.pers.length), OwnE (w1.alloc (.cells #[.slice aoA nA capA, .slice ao nP cap] 72)) (w.heap.size + 1) rs[i].eV h.pers[i]) ∧ Apart (rs.map Rec.eV)) := ⟨fun i k1 k2 => by
      have := (hRO.2.1 i k1 k2).below aB
      rw [e0] at this
      exact this, hRO.2.2⟩
    have HY : Hid (Sg.isPk h t) := hy
    have HLEN : Hid (rs.length = nP ∧ h.pers.length = nP) := ⟨hC.bk.len, hC.lenP⟩
    have hlt1 : w.heap.size < w1.heap.size := lt_of_block hT1
    have HCC : Hid (nA ≤ capA ∧ capA ≤ 9223372036854775807) := hcc
    clear hy hC hT1 b01 aB hcc hRO e0
    go_wp2_with fail
    refine hcall.mono ?_
    clear hcall
    rintro e w3 ⟨aoP, capP, rfl, HRow, hb3⟩
    have hT3 := hT2.below hb3
    have b03 := b02.trans (hb3.mono b02.size)
    obtain ⟨c0, c1⟩ := hT3.cells
    obtain ⟨f0, f1⟩ := two_frozen hT3
    have HB : Hid (Below w.heap.size w ((w3.setCell ⟨w.heap.size, 0, none⟩ (.slice aoA nA capA)).setCell ⟨w.heap.size, 1, none⟩ (.slice aoP nP capP))) := (b03.setCell (Nat.le_refl _) _).setCell (Nat.le_refl _) _
    have HH : Hid (HistIn ((w3.setCell ⟨w.heap.size, 0, none⟩ (.slice aoA nA capA)).setCell ⟨w.heap.size, 1, none⟩ (.slice aoP nP capP)) aoA aoP nA nP h) := by
      have hC5 := (HC.out.below hb3).off (g := w.heap.size) (j := 0) (u := .slice aoA nA capA) (slBox_two hT3)
      have hC6 := hC5.off (g := w.heap.size) (j := 1) (u := .slice aoP nP capP) ((slBox_two hT3).set _ _ _ _)
      have k0 := keptT_setCell (j := 0) (u := .slice aoA nA capA) hT3
      have h0 := heap_setCell_same w3 w.heap.size 0 _ _ (.slice aoA nA capA) hT3
      have k1 := keptT_setCell (j := 1) (u := .slice aoP nP capP) h0
      have hr := ownsRow_keptT HRow.out (k0.trans k1) (by decide)
      obtain ⟨aoP', capP', e', hH⟩ := hist_of_rows hC6 (Below.refl _ _) hr
      simp only [Value.slice.injEq] at e'
      obtain ⟨rfl, _, rfl⟩ := e'
      exact hH
    have HOO : Hid (OwnA ((w3.setCell ⟨w.heap.size, 0, none⟩ (.slice aoA nA capA)).setCell ⟨w.heap.size, 1, none⟩ (.slice aoP nP capP)) w.heap.size (.slice aoA nA capA) h.accs ∧ OwnPsA ((w3.setCell ⟨w.heap.size, 0, none⟩ (.slice aoA nA capA)).setCell ⟨w.heap.size, 1, none⟩ (.slice aoP nP capP)) w.heap.size (.slice aoP nP capP) h.pers) := by
      refine ⟨?_, evs (rs.take nP), ?_, ?_, fun i k1 k2 => ?_, ?_⟩
      · exact ownsRow_mono (ownsRow_setCell_below (ownsRow_setCell_below (ownsRow_below HOA.out hb3) (by show w.heap.size < _; omega) _) (by show w.heap.size < _; omega) _) (Nat.le_succ _)
      · unfold evs
        rw [List.length_map, List.length_take, HLEN.out.1, HLEN.out.2]
        omega
      · rw [HLEN.out.2]
        have hr := ownsRow_mono HRow.out (B' := w.heap.size + 1) (by simp; omega)
        exact ownsRow_mono (ownsRow_setCell_below (ownsRow_setCell_below hr (by show w.heap.size < _; omega) _) (by show w.heap.size < _; omega) _) (Nat.le_succ _)
      · have hi : i < rs.length := by rw [HLEN.out.1, ← HLEN.out.2]; exact k1
        rw [evs_get rs nP i k2 hi]
        exact ((((HOE.out.1 i hi k1).below hb3).setCell_below (by omega) _).setCell_below (by omega) _).mono (Nat.le_succ _)
      · rw [List.take_of_length_le (by rw [HLEN.out.1]; exact Nat.le_refl _)]
        exact HOE.out.2
    clear HRow hT2 hT3 hb3 HC HOA HOE
    go_wp2_with fail
    refine bodyPost_ret (v := .tuple #[.agg #[.slice aoA nA capA, .slice aoP nP capP], .int .i64 0]) (by simp [results, Tryz.results17, go_sem, c0, c1]) rfl ⟨HB.out, Or.inr ⟨HY.out, _, _, _, _, _, _, rfl, HCC.out, HH.out, HOO.out.1, HOO.out.2⟩⟩
end Go.Proofs.YtpkkhkkkgjhkeaaGreat
