import Derived.Test.YtoadiibfmcjgaaaGreatMHh
import Derived.Test.YtoadiibfmcjgaaaGreatMRead
import Derived.Deep.CutRange
/-
  A STORE INTO A BOX OF SLICES turns nothing of what a closed book is read from.
-/
namespace Go.Proofs.YtoadiibfmcjgaaaGreat
open Go.RowKit
set_option maxRecDepth 100000

/-- A block whose cells are slices alone. -/
def SlBox (w : World) (g : Nat) : Prop := ∃ cs t, w.heap[g]? = some (.cells cs t (0, 0)) ∧ ∀ (i : Nat) (v : Value), cs[i]? = some v → ∃ ao n c, v = .slice ao n c
theorem SlBox.ne {w : World} {g b o : Nat} {v : Value} (h : SlBox w g) (hc : w.cell? ⟨b, o, none⟩ = some v) (hv : ∀ ao n c, v ≠ .slice ao n c) : b ≠ g := by
  intro e
  subst e
  obtain ⟨cs, t, hh, hall⟩ := h
  rw [cell_of_row w _ o _ _ _ hh] at hc
  obtain ⟨ao, n, c, e⟩ := hall o v hc
  exact hv ao n c e
theorem SlBox.set {w : World} {g : Nat} (h : SlBox w g) (j : Nat) (ao : Option Addr) (n c : Nat) : SlBox (w.setCell ⟨g, j, none⟩ (.slice ao n c)) g := by
  obtain ⟨cs, t, hh, hall⟩ := h
  refine ⟨cs.setIfInBounds j (.slice ao n c), t, heap_setCell_same w g j cs t _ hh, fun i v hv => ?_⟩
  by_cases e : i = j
  · subst e
    rw [Array.getElem?_setIfInBounds] at hv
    simp only [if_true] at hv
    split at hv
    · simp at hv; exact ⟨_, _, _, hv.symm⟩
    · simp at hv
  · rw [Array.getElem?_setIfInBounds_ne (Ne.symm e)] at hv
    exact hall i v hv
theorem off_cell {w : World} {g j : Nat} {u : Value} {p : Addr} (hne : p.block ≠ g) : (w.setCell ⟨g, j, none⟩ u).cell? p = w.cell? p :=
  World.cell?_of_block (heap_setCell_other w ⟨g, j, none⟩ p.block u hne)
theorem PstsIn.off {w : World} {g j : Nat} {u : Value} {ao : Option Addr} {ps : List Sg.Pst} (h : PstsIn w ao ps) (hB : SlBox w g) : PstsIn (w.setCell ⟨g, j, none⟩ u) ao ps := by
  rcases h with h0 | ⟨b, off, e, hb, hat⟩
  · exact Or.inl h0
  · by_cases h0 : ps.length = 0
    · exact Or.inl h0
    · have hne := hB.ne (hat 0 (by omega)).1 (by simp)
      refine Or.inr ⟨b, off, e, by simpa using hb, fun i hi => ?_⟩
      rw [off_cell (by exact hne), off_cell (by exact hne)]
      exact hat i hi
theorem EntsIn.off {w : World} {g j : Nat} {u : Value} {ao : Option Addr} {es : List Sg.Ent} (h : EntsIn w ao es) (hB : SlBox w g) : EntsIn (w.setCell ⟨g, j, none⟩ u) ao es := by
  rcases h with h0 | ⟨b, off, e, hb, hat⟩
  · exact Or.inl h0
  · by_cases h0 : es.length = 0
    · exact Or.inl h0
    · have hne := hB.ne (hat 0 (by omega)).1 (by simp)
      refine Or.inr ⟨b, off, e, by simpa using hb, fun i hi => ?_⟩
      rw [off_cell (by exact hne), off_cell (by exact hne)]
      obtain ⟨h1, ao', cap', h2, h3⟩ := hat i hi
      exact ⟨h1, ao', cap', h2, h3.off hB⟩
theorem AccsIn.off {w : World} {g j : Nat} {u : Value} {ao : Option Addr} {ac : List Sg.Acc} (h : AccsIn w ao ac) (hB : SlBox w g) : AccsIn (w.setCell ⟨g, j, none⟩ u) ao ac := by
  rcases h with h0 | ⟨b, off, e, hb, hat⟩
  · exact Or.inl h0
  · by_cases h0 : ac.length = 0
    · exact Or.inl h0
    · have hne := hB.ne (hat 0 (by omega)).1 (by simp)
      refine Or.inr ⟨b, off, e, by simpa using hb, fun i hi => ?_⟩
      rw [off_cell (by exact hne), off_cell (by exact hne)]
      exact hat i hi
theorem BalIn.off {w : World} {g j m c : Nat} {u : Value} {now : List Int} (h : BalIn w m c now) (hB : SlBox w g) : BalIn (w.setCell ⟨g, j, none⟩ u) m c now := by
  refine h.block (heap_setCell_other w ⟨g, j, none⟩ m u (fun e => ?_))
  obtain ⟨D, ⟨es, clock, h1, _⟩, _⟩ := h
  obtain ⟨cs, t, hh, _⟩ := hB
  have e' : m = g := e
  subst e'
  rw [hh] at h1
  simp at h1
theorem Closed.off {w : World} {g j nA nP b : Nat} {u A : Value} {aoA ao : Option Addr} {h : Sg.Hist} {rs : List Rec} (c : Closed w aoA nA nP h A ao rs b) (hB : SlBox w g) : Closed (w.setCell ⟨g, j, none⟩ u) aoA nA nP h A ao rs b := by
  have hn : 0 < rs.length := by
    have h1 := c.inb
    have h2 := c.bk.len
    have h3 := c.lenP
    unfold Sg.inBounds at h1
    simp only [Bool.and_eq_true, decide_eq_true_eq] at h1
    omega
  have hne : b ≠ g := hB.ne (o := 0 * 11 + 3) (v := .int .u64 (nHi rs[0].t0)) ((c.bk.cells 0 hn 3 (by omega)).trans rfl) (by simp)
  refine ⟨c.accs.off hB, c.lenA, c.lenP, c.inb, c.sizQ, c.bk.at_, by simpa using c.bk.lt, fun i hi j hj => ?_, c.bk.len, fun i hi => ?_, c.bk.fineB, c.bk.fineT⟩
  · rw [off_cell (by exact hne)]
    exact c.bk.cells i hi j hj
  · obtain ⟨h1, h2, h3, g1, g2, g3, aoE, capE, g4, g5⟩ := c.bk.recs i hi
    exact ⟨h1, h2, h3, g1.off hB, g2, g3, aoE, capE, g4, g5.off hB⟩
end Go.Proofs.YtoadiibfmcjgaaaGreat

/-
  THE WALKS of book.Read, audit.Verify.
-/
namespace Go.Proofs.YtoadiibfmcjgaaaGreat
open Go.RowKit
set_option maxRecDepth 100000
attribute [local go_sem ↓] Go.wp_at_zero Go.wp_at_succ

namespace Sg
theorem rdAcc_small (s : List UInt8) : (rdAcc s).1.name.size ≤ 255 ∧ fits (rdAcc s).1.line = true := by
  unfold rdAcc
  refine ⟨?_, fits_nat (one_lt _)⟩
  show (ofL _).size ≤ 255
  rw [ofL_size]
  have := one_lt s
  simp
  omega
theorem rdEnt_small (s : List UInt8) : (rdEnt rdP s).1.memo.size ≤ 255 ∧ (rdEnt rdP s).1.posts.length ≤ 255 := by
  unfold rdEnt
  refine ⟨?_, ?_⟩
  · show (ofL _).size ≤ 255
    rw [ofL_size]
    have := one_lt s
    simp
    omega
  · show (rdMany _ _ _).1.length ≤ 255
    rw [rdMany_len]
    exact Nat.min_le_right _ _
theorem rdPer_small (n : Nat) (s : List UInt8) : (rdPer rdP n s).1.length ≤ 255 ∧ ∀ e ∈ (rdPer rdP n s).1, e.memo.size ≤ 255 ∧ e.posts.length ≤ 255 := by
  unfold rdPer
  refine ⟨?_, ?_⟩
  · show (rdMany _ _ _).1.length ≤ 255
    rw [rdMany_len]
    exact Nat.min_le_right _ _
  · exact rdMany_all (rdEnt rdP) (fun e => e.memo.size ≤ 255 ∧ e.posts.length ≤ 255) rdEnt_small _ _
end Sg

theorem same_txt {x y : ByteArray} (h : x.toList = y.toList) : x = y := by
  rw [ByteArray.toList_eq, ByteArray.toList_eq] at h
  exact Go.WideShapes.bytes_inj h
theorem slBox_two {w : World} {g : Nat} {t : TypeId} (h : Two w g nilV nilV t) : SlBox w g := by
  refine ⟨_, _, h, fun i v hv => ?_⟩
  match i, hv with
  | 0, hv => simp at hv; exact ⟨_, _, _, hv.symm⟩
  | 1, hv => simp at hv; exact ⟨_, _, _, hv.symm⟩
  | i + 2, hv => simp at hv
/-- A history that was read, as Close asks for it. -/
theorem rdHist_in {W : World} {B : Nat} {vA vP : Value} {s : List UInt8} (hA : OwnA W B vA (Sg.rdHist Sg.rdP s).accs) (hP : OwnPs W B vP (Sg.rdHist Sg.rdP s).pers) :
    ∃ aoA capA aoP capP, vA = .slice aoA (Sg.rdHist Sg.rdP s).accs.length capA ∧ vP = .slice aoP (Sg.rdHist Sg.rdP s).pers.length capP ∧ (Sg.rdHist Sg.rdP s).accs.length ≤ capA ∧ capA ≤ 9223372036854775807 ∧ HistIn W aoA aoP (Sg.rdHist Sg.rdP s).accs.length (Sg.rdHist Sg.rdP s).pers.length (Sg.rdHist Sg.rdP s) := by
  obtain ⟨aoA, capA, e1, c1, c2, iA⟩ := hA.in_
  obtain ⟨aoP, capP, e2, _, iP⟩ := hP.in_
  have kA : ∀ a ∈ (Sg.rdHist Sg.rdP s).accs, a.name.size ≤ 255 ∧ Sg.fits a.line = true := Sg.rdMany_all Sg.rdAcc (fun a => a.name.size ≤ 255 ∧ Sg.fits a.line = true) Sg.rdAcc_small _ _
  have kP : ∀ p ∈ (Sg.rdHist Sg.rdP s).pers, p.length ≤ 255 ∧ ∀ e ∈ p, e.memo.size ≤ 255 ∧ e.posts.length ≤ 255 := Sg.rdMany_all (Sg.rdPer Sg.rdP _) (fun p => p.length ≤ 255 ∧ ∀ e ∈ p, e.memo.size ≤ 255 ∧ e.posts.length ≤ 255) (Sg.rdPer_small _) _ _
  refine ⟨aoA, capA, aoP, capP, e1, e2, c1, by unfold maxLen at c2; omega, iA, iP, rfl, rfl, fun a ha => ⟨by have := (kA a ha).1; omega, (kA a ha).2⟩, fun p hp => ⟨by have := (kP p hp).1; omega, fun e he => ?_⟩, Sg.rdHist_fits (fun s => Sg.fits_wrap _) s⟩
  have := (kP p hp).2 e he
  omega

/-- A book that was read holds lists of its own. -/
def ReadOwn (w w' : World) (rs : List Rec) (h : Sg.Hist) (A : Value) : Prop := OwnA w' w.heap.size A h.accs ∧ (∀ i (_ : i < rs.length) (_ : i < h.pers.length), OwnE w' w.heap.size rs[i].eV h.pers[i]) ∧ Apart (rs.map Rec.eV)
theorem ev_key {w : World} {B nP capP : Nat} {aoP : Option Addr} {rs : List Rec} {ps : List (List Sg.Ent)} {us : List Value} (hEv : EvAt w aoP rs) (hrow : w.ownsRow B 24 1 (.slice aoP nP capP) ps.length us) (ul : us.length = ps.length) (i : Nat) (h1 : i < rs.length) (h3 : i < us.length) : rs[i].eV = us[i] := by
  obtain ⟨b, off, e1, e2⟩ := hEv i h1
  obtain ⟨g, cap, e3, _, _⟩ := hrow.form (by omega)
  subst e1
  simp only [Value.slice.injEq, Option.some.injEq, Addr.mk.injEq, and_true] at e3
  obtain ⟨⟨rfl, rfl⟩, rfl, rfl⟩ := e3
  have hc := World.ownsRow.cellAt hrow i (by omega)
  rw [Nat.zero_add, hc, List.getElem?_eq_getElem (by omega)] at e2
  simp only [Option.some.injEq] at e2
  exact e2.symm
theorem ev_own {w : World} {B nP capP : Nat} {aoP : Option Addr} {rs : List Rec} {ps : List (List Sg.Ent)} (hEv : EvAt w aoP rs) (hP : OwnPsA w B (.slice aoP nP capP) ps) (hl : rs.length = ps.length) : (∀ i (_ : i < rs.length) (_ : i < ps.length), OwnE w B rs[i].eV ps[i]) ∧ Apart (rs.map Rec.eV) := by
  obtain ⟨us, ul, hrow, hus, hap⟩ := hP
  have key : ∀ i (_ : i < rs.length) (_ : i < us.length), rs[i].eV = us[i] := fun i h1 h3 => ev_key hEv hrow ul i h1 h3
  have e : rs.map Rec.eV = us := by
    apply List.ext_getElem
    · simp; omega
    · intro i h1 h2
      rw [List.getElem_map]
      exact key i (by simpa using h1) h2
  refine ⟨fun i h1 h2 => ?_, by rw [e]; exact hap⟩
  rw [key i h1 (by omega)]
  exact hus i h2 (by omega)

set_option maxHeartbeats 3200000 in
/-- book.Read: a text is a package, or it is refused. -/
theorem bRead_any (t : ByteArray) (w : World) :
    Calls Tryz.prog 19 #[.string t] w fun e w' => Below w.heap.size w w' ∧
      ((¬ Sg.isPk (Sg.rdHist Sg.rdP (Sg.tx t)) t ∧ e = .returned (.tuple #[.agg #[nilV, nilV], .int .i64 5])) ∨
       (Sg.isPk (Sg.rdHist Sg.rdP (Sg.tx t)) t ∧ ∃ aoA nA nP capA ao cap rs b, e = .returned (.tuple #[.agg #[.slice aoA nA capA, .slice ao nP cap], .int .i64 0]) ∧ (nA ≤ capA ∧ capA ≤ 9223372036854775807) ∧ Closed w' aoA nA nP (Sg.rdHist Sg.rdP (Sg.tx t)) (.slice aoA nA capA) ao rs b ∧ ReadOwn w w' rs (Sg.rdHist Sg.rdP (Sg.tx t)) (.slice aoA nA capA))) := by
  obtain ⟨h, hh⟩ : ∃ h, Sg.rdHist Sg.rdP (Sg.tx t) = h := ⟨_, rfl⟩
  rw [hh]
  have HHH : Hid (Sg.rdHist Sg.rdP (Sg.tx t) = h) := hh
  clear hh
  have hT := Two.new w nilV nilV 66
  have a0 : Below w.heap.size w (w.alloc (.cells #[nilV, nilV] 66)) := (Below.refl _ _).alloc (Nat.le_refl _) _
  go_enter Tryz.func19, Tryz.ntmps19
  go_wp2_with fail
  refine (layRead_any t _).mono ?_
  rintro e w1 ⟨rfl, hR1, hb1, hz1⟩
  have hT1 := hT.below hb1
  have b01 := a0.trans (hb1.mono a0.size)
  have hz0 : (w.alloc (.cells #[nilV, nilV] 66)).heap.size = w.heap.size + 1 := by simp
  rw [hz0] at hR1 hz1
  clear hT a0 hb1
  go_wp2_with fail
  refine (readHistory_any (Sg.tx t) (w.heap.size + 1) _ hR1).mono ?_
  rintro e w2 ⟨vA, vP, rfl, hA, hP, s', hr2⟩
  have hT2 : Two w2 w.heap.size nilV nilV 66 := (hr2.block (lt_of_block hT1) (by omega)).trans hT1
  have b02 : Below w.heap.size w w2 := b01.grown hr2.grown b01.size (fun k hk => by simp at hk; omega)
  obtain ⟨aoA, capA, aoP, capP, hvA, hvP, hnc, hcap, hH⟩ := rdHist_in hA hP.own
  rw [HHH.out] at hvA hvP hnc hH hA hP
  obtain ⟨nA, hnA⟩ : ∃ k, h.accs.length = k := ⟨_, rfl⟩
  obtain ⟨nP, hnP⟩ : ∃ k, h.pers.length = k := ⟨_, rfl⟩
  rw [hnA] at hvA hnc hH
  rw [hnP] at hvP hH
  subst hvA hvP
  have HOA : Hid (OwnA w2 (w.heap.size + 1) (.slice aoA nA capA) h.accs) := ownsRow_mono hA (by omega)
  have HOP : Hid (OwnPsA w2 (w.heap.size + 1) (.slice aoP nP capP) h.pers) := hP.mono (by omega)
  have hcall := bClose_any h aoA aoP nA nP capA capP w2 hH hnc hcap
  have HH : Hid (HistIn w2 aoA aoP nA nP h) := hH
  clear hA hP hr2 b01 hT1 hR1 hnA hnP hH hz1 hz0
  go_wp2_with fail
  refine hcall.mono ?_
  rintro e w3 ⟨hb3, hcase⟩
  have b03 := b02.trans (hb3.mono b02.size)
  have hT3 := hT2.below hb3
  have hsz3 : w.heap.size < w3.heap.size := lt_of_block hT3
  clear hcall
  rcases hcase with ⟨he, rfl⟩ | ⟨hib, he, ao, cap, rs, b, rfl, hcc, hBk, hEv⟩
  · have qz : (Sg.closeErr h != 0) = true := by rw [bne_iff_ne]; exact he
    have HN : Hid (¬ Sg.isPk h t) := fun hp => he hp.1
    clear he
    generalize Sg.closeErr h = ee at *
    have aB : Below w3.heap.size w3 (w3.alloc (.cells #[nilV, nilV] 66)) := (Below.refl _ _).alloc (Nat.le_refl _) _
    have hT4 := hT3.below aB
    have b04 := b03.trans (aB.mono b03.size)
    clear hT3 b03 aB hb3
    go_upto_region 2 with fail
    generalize w3.alloc (.cells #[nilV, nilV] 66) = w4 at *
    obtain ⟨c0, c1⟩ := hT4.cells
    obtain ⟨f0, f1⟩ := two_frozen hT4
    have HB : Hid (Below w.heap.size w ((w4.setCell ⟨w.heap.size, 0, none⟩ nilV).setCell ⟨w.heap.size, 1, none⟩ nilV)) := (b04.setCell (Nat.le_refl _) _).setCell (Nat.le_refl _) _
    go_wp2_with fail
    refine bodyPost_ret (v := .tuple #[.agg #[nilV, nilV], .int .i64 5]) (by simp [results, Tryz.results19, go_sem, c0, c1]) rfl ⟨HB.out, Or.inl ⟨HN.out, rfl⟩⟩
  · have hC : Closed w3 aoA nA nP h (.slice aoA nA capA) ao rs b := ⟨HH.out.accs.below hb3, HH.out.lenA, HH.out.lenP, hib, HH.out.sizQ, hBk⟩
    have HPk : Hid (Sg.package h = Sg.pkTo h (Sg.balances h) (Sg.totals h) nP ∧ Sg.closeErr h = 0) := by
      unfold Sg.package; rw [if_pos he, HH.out.lenP]; exact ⟨rfl, he⟩
    have HOE : Hid ((∀ i (_ : i < rs.length) (_ : i < h.pers.length), OwnE w2 (w.heap.size + 1) rs[i].eV h.pers[i]) ∧ Apart (rs.map Rec.eV)) := ev_own hEv HOP.out (by rw [hBk.len, HH.out.lenP])
    have aB : Below w3.heap.size w3 (w3.alloc (.cells #[.slice aoA nA capA, .slice ao nP cap] 66)) := (Below.refl _ _).alloc (Nat.le_refl _) _
    have hT4 := hT3.below aB
    have b04 := b03.trans (aB.mono b03.size)
    have hTb := Two.new w3 (.slice aoA nA capA) (.slice ao nP cap) 66
    have hcall := bText_any h aoA ao nA nP capA cap b rs _ (hC.below aB)
    have HC : Hid (Closed (w3.alloc (.cells #[.slice aoA nA capA, .slice ao nP cap] 66)) aoA nA nP h (.slice aoA nA capA) ao rs b) := hC.below aB
    clear hC hBk he hib aB hT3 b03
    go_wp2_with fail
    refine hcall.mono ?_
    rintro e w5 ⟨y, rfl, hy, hb5⟩
    clear hcall
    have hT5 := hT4.below hb5
    have hTb5 := hTb.below hb5
    have b05 := b04.trans (hb5.mono b04.size)
    have hb25 : Below w2.heap.size w2 w5 := (hb3.trans (((Below.refl _ _).alloc (Nat.le_refl _) (.cells #[.slice aoA nA capA, .slice ao nP cap] 66)).mono hb3.size)).trans (hb5.mono (by have := hb3.size; simp; omega))
    have HC5 : Hid (Closed w5 aoA nA nP h (.slice aoA nA capA) ao rs b) := HC.out.below hb5
    obtain ⟨c0, c1⟩ := hT5.cells
    obtain ⟨f0, f1⟩ := two_frozen hT5
    obtain ⟨d0, d1⟩ := hTb5.cells
    clear hT4 hTb b04 HC hb5
    by_cases e : y.toList = t.toList
    · have HY : Hid (Sg.isPk h t) := ⟨HPk.out.2, by rw [HPk.out.1, ← hy.out]; exact same_txt e⟩
      have hyt := same_txt e
      subst hyt
      have HB : Hid (Below w.heap.size w ((w5.setCell ⟨w.heap.size, 0, none⟩ (.slice aoA nA capA)).setCell ⟨w.heap.size, 1, none⟩ (.slice ao nP cap))) := (b05.setCell (Nat.le_refl _) _).setCell (Nat.le_refl _) _
      have HC6 : Hid (Closed ((w5.setCell ⟨w.heap.size, 0, none⟩ (.slice aoA nA capA)).setCell ⟨w.heap.size, 1, none⟩ (.slice ao nP cap)) aoA nA nP h (.slice aoA nA capA) ao rs b) := (HC5.out.off (slBox_two hT5)).off ((slBox_two hT5).set _ _ _ _)
      have HRO : Hid (ReadOwn w ((w5.setCell ⟨w.heap.size, 0, none⟩ (.slice aoA nA capA)).setCell ⟨w.heap.size, 1, none⟩ (.slice ao nP cap)) rs h (.slice aoA nA capA)) := by
        refine ⟨?_, fun i h1 h2 => ?_, HOE.out.2⟩
        · exact ownsRow_mono (ownsRow_setCell_below (ownsRow_setCell_below (ownsRow_below HOA.out hb25) (by show w.heap.size < _; omega) _) (by show w.heap.size < _; omega) _) (Nat.le_succ _)
        · exact ((((HOE.out.1 i h1 h2).below hb25).setCell_below (by omega) _).setCell_below (by omega) _).mono (Nat.le_succ _)
      go_wp2_with fail
      refine bodyPost_ret (v := .tuple #[.agg #[.slice aoA nA capA, .slice ao nP cap], .int .i64 0]) (by simp [results, Tryz.results19, go_sem, c0, c1]) rfl ⟨HB.out, Or.inr ⟨HY.out, _, _, _, _, _, _, _, _, rfl, ⟨hnc, hcap⟩, HC6.out, HRO.out⟩⟩
    · have eb : (y.toList == t.toList) = false := by simp [e]
      have HN : Hid (¬ Sg.isPk h t) := fun hp => e (by rw [hy.out, ← HPk.out.1, hp.2])
      have HB : Hid (Below w.heap.size w ((w5.setCell ⟨w.heap.size, 0, none⟩ nilV).setCell ⟨w.heap.size, 1, none⟩ nilV)) := (b05.setCell (Nat.le_refl _) _).setCell (Nat.le_refl _) _
      go_wp2_with fail
      refine bodyPost_ret (v := .tuple #[.agg #[nilV, nilV], .int .i64 5]) (by simp [results, Tryz.results19, go_sem, c0, c1]) rfl ⟨HB.out, Or.inl ⟨HN.out, rfl⟩⟩

/-- What Verify answers of a package. -/
def Sg.verErr (h : Sg.Hist) (hd : ByteArray) : Int := if Sg.headOf h = hd then 0 else 6
end Go.Proofs.YtoadiibfmcjgaaaGreat

/-
  THE WALKS of Book.History, seal.Decode.
-/
namespace Go.Proofs.YtoadiibfmcjgaaaGreat
open Go.RowKit
set_option maxRecDepth 100000
attribute [local go_sem ↓] Go.wp_at_zero Go.wp_at_succ

def evs (rs : List Rec) : List Value := rs.map Rec.eV
theorem evs_get (rs : List Rec) (n i : Nat) (h1 : i < (evs (rs.take n)).length) (h2 : i < rs.length) : (evs (rs.take n))[i] = rs[i].eV := by simp [evs]
/-- What stands at the head of History's loop. -/
structure HsInv (w wr : World) (hb : Nat) (A vP : Value) (rs : List Rec) (k : Nat) : Prop where
  bel : Below w.heap.size w wr
  res : Two wr (w.heap.size + 1) nilV nilV 36
  box : Two wr hb A vP 36
  ord : w.heap.size + 1 < hb
  row : wr.ownsRow (hb + 1) 24 1 vP k (evs (rs.take k))
theorem HsInv.push {w wr X w5 : World} {hb k : Nat} {A vP v' : Value} {rs : List Rec} (m : HsInv w wr hb A vP rs k) (hk : k < rs.length) (aX : Below wr.heap.size wr X) (hg : X.grownBy w5 vP.ownBlock) (hown : w5.ownsRow (hb + 1) 24 1 v' (k + 1) (evs (rs.take k) ++ [rs[k].eV])) :
    Two w5 hb A vP 36 ∧ HsInv w (w5.setCell ⟨hb, 1, none⟩ v') hb A v' rs (k + 1) := by
  have hrX := ownsRow_below m.row aX
  have hk' := keptT_append hrX hg
  have box5 : Two w5 hb A vP 36 := hk' _ _ _ _ (m.box.below aX) (by decide)
  have hk6 : KeptT 36 w5 (w5.setCell ⟨hb, 1, none⟩ v') := keptT_setCell box5
  have bX := m.bel.trans (aX.mono m.bel.size)
  have ho := m.ord
  refine ⟨box5, ⟨?_, ?_, ?_, m.ord, ?_⟩⟩
  · exact (bX.grown hg bX.size (fun q hq => by have := (World.ownsRow.lt hrX q hq).1; omega)).setCell (by show _ ≤ hb; omega) _
  · exact (Below.heap_setCell _ _ _ _ (by show w.heap.size + 1 ≠ hb; omega)).trans (hk' _ _ _ _ (m.res.below aX) (by decide))
  · have := heap_setCell_same w5 hb 1 _ _ v' box5
    exact this
  · refine ownsRow_keptT (e := 24) ?_ hk6 (by decide)
    have e : evs (rs.take (k + 1)) = evs (rs.take k) ++ [rs[k].eV] := by
      unfold evs
      rw [List.take_succ_eq_append_getElem hk, List.map_append]; rfl
    rw [e]
    exact hown
theorem Closed.ev {w : World} {aoA : Option Addr} {nA nP b i : Nat} {h : Sg.Hist} {A : Value} {ao : Option Addr} {rs : List Rec} (c : Closed w aoA nA nP h A ao rs b) (hi : i < nP) : ∃ (h1 : i < rs.length) (h2 : i < h.pers.length) (aoE : Option Addr) (capE : Nat), rs[i].eV = .slice aoE h.pers[i].length capE ∧ EntsIn w aoE h.pers[i] := by
  have hl := c.bk.len
  have h1 : i < rs.length := by omega
  obtain ⟨g1, _, _, _, _, _, aoE, capE, g4, g5⟩ := c.bk.recs i h1
  exact ⟨h1, g1, aoE, capE, g4, g5⟩
/-- The history that comes out. -/
theorem hist_of_rows {w w' : World} {aoA ao : Option Addr} {nA nP b B : Nat} {h : Sg.Hist} {A vP : Value} {rs : List Rec} (c : Closed w aoA nA nP h A ao rs b) (hb : Below w.heap.size w w') (hrow : w'.ownsRow B 24 1 vP nP (evs (rs.take nP))) : ∃ aoP capP, vP = .slice aoP nP capP ∧ HistIn w' aoA aoP nA nP h := by
  have cw := c.below hb
  have hi := c.inb
  have hA := Sg.bnd_accs hi
  have hP := Sg.bnd_pers hi
  have hn : 1 ≤ nP := by
    have h3 := c.lenP
    unfold Sg.inBounds at hi
    simp only [Bool.and_eq_true, decide_eq_true_eq] at hi
    omega
  obtain ⟨g, cap, rfl, _, hg⟩ := hrow.form (by omega)
  refine ⟨_, cap, rfl, cw.accs, ?_, c.lenA, c.lenP, fun a ha => ?_, fun p hp => ?_, c.sizQ⟩
  · refine Or.inr ⟨g, 0, rfl, hg, fun i hi' => ?_⟩
    have hin : i < nP := by rw [← c.lenP]; exact hi'
    obtain ⟨h1, h2, aoE, capE, e, hE⟩ := cw.ev hin
    refine ⟨aoE, capE, ?_, hE⟩
    rw [Nat.zero_add, World.ownsRow.cellAt hrow i (by omega)]
    unfold evs
    rw [List.getElem?_map, List.getElem?_take_of_lt hin, List.getElem?_eq_getElem h1]
    simp [e]
  · have := hA a ha
    exact ⟨by omega, decide_eq_true (by omega)⟩
  · have := hP p hp
    exact ⟨by omega, fun e he => by have := this.2 e he; omega⟩

set_option maxHeartbeats 3200000 in
/-- Book.History. -/
theorem bHistory_any (h : Sg.Hist) (aoA ao : Option Addr) (nA nP capA cap b : Nat) (rs : List Rec) (w : World) (hC : Closed w aoA nA nP h (.slice aoA nA capA) ao rs b) :
    Calls Tryz.prog 20 #[.agg #[.slice aoA nA capA, .slice ao nP cap]] w fun e w' => ∃ aoP capP, e = .returned (.agg #[.slice aoA nA capA, .slice aoP nP capP]) ∧ Hid (w'.ownsRow w.heap.size 24 1 (.slice aoP nP capP) nP (evs (rs.take nP))) ∧ Below w.heap.size w w' := by
  obtain ⟨p0, pi, pz0, pz1, pz2⟩ := info_parts Tryz.infoPer1
  have HC : Hid (Closed w aoA nA nP h (.slice aoA nA capA) ao rs b) := hC
  have hao := hC.bk.at_
  have hlen := hC.bk.len
  have hn6 : nP ≤ 6 := by
    have hi := hC.inb
    have h3 := hC.lenP
    unfold Sg.inBounds at hi
    simp only [Bool.and_eq_true, decide_eq_true_eq] at hi
    omega
  have HLEN : Hid (rs.length = nP) := hlen
  subst hao
  clear hC hlen
  have hb0 : Below w.heap.size w (((w.alloc (.cells #[.slice aoA nA capA, .slice (some ⟨b, 0, none⟩) nP cap] 66)).alloc (.cells #[nilV, nilV] 36)).alloc (.cells #[.slice aoA nA capA, nilV] 36)) := (((Below.refl _ _).alloc (Nat.le_refl _) _).alloc (by simp) _).alloc (by simp; omega) _
  have HI0 : Hid (HsInv w (((w.alloc (.cells #[.slice aoA nA capA, .slice (some ⟨b, 0, none⟩) nP cap] 66)).alloc (.cells #[nilV, nilV] 36)).alloc (.cells #[.slice aoA nA capA, nilV] 36)) (w.heap.size + 2) (.slice aoA nA capA) nilV rs 0) := by
    refine ⟨hb0, ?_, ?_, by omega, World.ownsRow_nil _ _ _ _⟩
    · have e := heap_alloc_new (w.alloc (.cells #[.slice aoA nA capA, .slice (some ⟨b, 0, none⟩) nP cap] 66)) (.cells #[nilV, nilV] 36)
      rw [show (w.alloc (.cells #[.slice aoA nA capA, .slice (some ⟨b, 0, none⟩) nP cap] 66)).heap.size = w.heap.size + 1 by simp] at e
      exact (Below.heap_alloc _ _ _ (by simp)).trans e
    · have e := heap_alloc_new ((w.alloc (.cells #[.slice aoA nA capA, .slice (some ⟨b, 0, none⟩) nP cap] 66)).alloc (.cells #[nilV, nilV] 36)) (.cells #[.slice aoA nA capA, nilV] 36)
      rw [show ((w.alloc (.cells #[.slice aoA nA capA, .slice (some ⟨b, 0, none⟩) nP cap] 66)).alloc (.cells #[nilV, nilV] 36)).heap.size = w.heap.size + 2 by simp] at e
      exact e
  clear hb0
  go_enter Tryz.func20, Tryz.ntmps20
  go_wp2_with fail
  go_loopw [12] (fun i wr => ∃ k : Nat, k ≤ nP ∧ i = .int .i64 (k : Int) ∧ ∃ vP, Hid (HsInv w wr (w.heap.size + 2) (.slice aoA nA capA) vP rs k)) (fun i _ => nP - (intOf i).toNat)
  case atStart => exact ⟨0, by omega, rfl, _, HI0⟩
  case round =>
    obtain ⟨k, hk, rfl, vP, HI⟩ := hrel
    obtain ⟨wz, ewz⟩ : ∃ z : World, z = wr := ⟨_, rfl⟩
    subst ewz
    clear HI0
    obtain ⟨aoP, nX, capP, hvP⟩ : ∃ a n c, vP = .slice a n c := by
      rcases HI.out.row.2 with ⟨e, _⟩ | ⟨g, c, cur, e, _⟩
      · exact ⟨_, _, _, e⟩
      · exact ⟨_, _, _, e⟩
    subst hvP
    obtain ⟨bx0, bx1⟩ := HI.out.box.cells
    by_cases hgo : k < nP
    · have g1 : (k : Int) < (nP : Int) := by omega
      have g0 : (0 : Int) ≤ (k : Int) := by omega
      have hC := HC.out.below HI.out.bel
      obtain ⟨h1, h2, aoE, capE, eE, hEE⟩ := hC.ev hgo
      have cl := fun j hj => hC.bk.cells k h1 j hj
      have x0 := cl 0 (by omega)
      have x1 := cl 1 (by omega)
      have x2 := cl 2 (by omega)
      have x3 := cl 3 (by omega)
      have x4 := cl 4 (by omega)
      have x5 := cl 5 (by omega)
      have x6 := cl 6 (by omega)
      have x7 := cl 7 (by omega)
      have x8 := cl 8 (by omega)
      have x9 := cl 9 (by omega)
      have x10 := cl 10 (by omega)
      simp only [recCells, eE, Nat.add_zero, List.getElem?_cons_zero, List.getElem?_cons_succ] at x0 x1 x2 x3 x4 x5 x6 x7 x8 x9 x10
      have hbw := hC.bk.lt
      have HEv : Hid (rs[k].eV = .slice aoE h.pers[k].length capE) := eE
      have HRk : Hid (k < rs.length) := h1
      generalize h.pers[k].length = nE at *
      clear cl hC eE hEE
      have hrow : wz.ownsRow (w.heap.size + 2 + 1) 24 1 (.slice aoP nX capP) k (evs (rs.take k)) := HI.out.row
      have hsb : w.heap.size + 2 < wz.heap.size := lt_of_block HI.out.box
      go_wp2_with (at_builtin; (refine wpList_append_lies _ rfl _ _ 34 rfl (w.heap.size + 2 + 1) 24 p0 (.agg #[.slice none 0 0]) 1 24 Tryz.underlying34 pi pz0 pz1 pz2 rfl (by decide) (.slice aoP nX capP) k (evs (rs.take k)) rfl ((hrow.alloc _).alloc _) ⟨wz.heap.size + 1, 0, none⟩ 1 1 [.slice aoE nE capE] rfl rfl (World.news_of_block (cs := #[.slice aoE nE capE]) (t := 24) (fr := (0, 0)) (new_block2 wz _ _ _)) (by intro u hu; simp at hu; subst hu; rfl) (by omega) (by unfold maxLen; omega) (by omega) (by simp; omega) (wz.heap.size + 2) (by simp) ?_))
      intro g cap' w5 hown5 hgrow _ hlt5
      obtain ⟨box5, M6⟩ := HI.out.push (v' := .slice (some ⟨g, 0, none⟩) (k + 1) cap') HRk.out (((Below.refl _ _).alloc (Nat.le_refl _) _).alloc (by simp) _) hgrow (by rw [HEv.out]; exact hown5)
      obtain ⟨by0, by1⟩ := box5.cells
      have bf1 : w5.frozen? ⟨w.heap.size + 2, 1, none⟩ = false := (two_frozen box5).2
      have HM6 : Hid (HsInv w (w5.setCell ⟨w.heap.size + 2, 1, none⟩ (.slice (some ⟨g, 0, none⟩) (k + 1) cap')) (w.heap.size + 2) (.slice aoA nA capA) (.slice (some ⟨g, 0, none⟩) (k + 1) cap') rs (k + 1)) := M6
      clear M6 hgrow hown5 box5 hrow bx0 bx1 x0 x1 x2 x3 x4 x5 x6 x7 x8 x9 x10 HI
      go_wp2_with fail
      go_roundw
      case rel => exact ⟨k + 1, by omega, by go_num, _, HM6⟩
      case measure => simp [intOf]; omega
    · have g1 : ¬ (k : Int) < (nP : Int) := by omega
      have hkn : k = nP := by omega
      obtain ⟨z0, z1⟩ := HI.out.res.cells
      obtain ⟨y0, y1⟩ := two_frozen HI.out.res
      have hbe : Below w.heap.size w ((wz.setCell ⟨w.heap.size + 1, 0, none⟩ (.slice aoA nA capA)).setCell ⟨w.heap.size + 1, 1, none⟩ (.slice aoP nX capP)) := (HI.out.bel.setCell (by show _ ≤ w.heap.size + 1; omega) _).setCell (by show _ ≤ w.heap.size + 1; omega) _
      have hrw : ((wz.setCell ⟨w.heap.size + 1, 0, none⟩ (.slice aoA nA capA)).setCell ⟨w.heap.size + 1, 1, none⟩ (.slice aoP nX capP)).ownsRow (w.heap.size + 2 + 1) 24 1 (.slice aoP nX capP) nP (evs (rs.take nP)) := by
        have := HI.out.row
        rw [hkn] at this
        exact ownsRow_setCell_below (ownsRow_setCell_below this (by show w.heap.size + 1 < _; omega) _) (by show w.heap.size + 1 < _; omega) _
      obtain ⟨aoP', capP', e', hH⟩ := hist_of_rows HC.out hbe hrw
      simp only [Value.slice.injEq] at e'
      obtain ⟨rfl, rfl, rfl⟩ := e'
      have HH : Hid (((wz.setCell ⟨w.heap.size + 1, 0, none⟩ (.slice aoA nA capA)).setCell ⟨w.heap.size + 1, 1, none⟩ (.slice aoP nX capP)).ownsRow w.heap.size 24 1 (.slice aoP nX capP) nX (evs (rs.take nX)) ∧ Below w.heap.size w ((wz.setCell ⟨w.heap.size + 1, 0, none⟩ (.slice aoA nA capA)).setCell ⟨w.heap.size + 1, 1, none⟩ (.slice aoP nX capP))) := ⟨ownsRow_mono hrw (by omega), hbe⟩
      clear hH hbe hrw HI hkn hgo
      go_wp2_with fail
      refine bodyPost_ret (v := .agg #[.slice aoA nA capA, .slice aoP nX capP]) (by simp [results, Tryz.results20, go_sem, z0, z1]) rfl ⟨_, _, rfl, HH.out.1, HH.out.2⟩

set_option maxHeartbeats 1600000 in
/-- seal.Decode. -/
theorem decode_any (t : ByteArray) (w : World) :
    Calls Tryz.prog 10 #[.string t] w fun e w' => Below w.heap.size w w' ∧
      ((¬ Sg.isPk (Sg.rdHist Sg.rdP (Sg.tx t)) t ∧ e = .returned (.tuple #[.agg #[nilV, nilV], .int .i64 5])) ∨
       (Sg.isPk (Sg.rdHist Sg.rdP (Sg.tx t)) t ∧ ∃ aoA nA capA aoP nP capP, e = .returned (.tuple #[.agg #[.slice aoA nA capA, .slice aoP nP capP], .int .i64 0]) ∧ (nA ≤ capA ∧ capA ≤ 9223372036854775807) ∧ HistIn w' aoA aoP nA nP (Sg.rdHist Sg.rdP (Sg.tx t)) ∧ OwnA w' w.heap.size (.slice aoA nA capA) (Sg.rdHist Sg.rdP (Sg.tx t)).accs ∧ OwnPsA w' w.heap.size (.slice aoP nP capP) (Sg.rdHist Sg.rdP (Sg.tx t)).pers)) := by
  obtain ⟨h, hh⟩ : ∃ h, Sg.rdHist Sg.rdP (Sg.tx t) = h := ⟨_, rfl⟩
  have hcall := fun W => bRead_any t W
  rw [hh] at hcall ⊢
  clear hh
  have hT := Two.new w nilV nilV 36
  have a0 : Below w.heap.size w (w.alloc (.cells #[nilV, nilV] 36)) := (Below.refl _ _).alloc (Nat.le_refl _) _
  go_enter Tryz.func10, Tryz.ntmps10
  go_wp2_with fail
  refine (hcall _).mono ?_
  rintro e w1 ⟨hb1, hcase⟩
  clear hcall
  have hT1 := hT.below hb1
  have b01 := a0.trans (hb1.mono a0.size)
  clear hT a0 hb1
  rcases hcase with ⟨hn, rfl⟩ | ⟨hy, aoA, nA, nP, capA, ao, cap, rs, b, rfl, hcc, hC, hRO⟩
  · have HN : Hid (¬ Sg.isPk h t) := hn
    have aB : Below w1.heap.size w1 (w1.alloc (.cells #[nilV, nilV] 66)) := (Below.refl _ _).alloc (Nat.le_refl _) _
    have hT2 := hT1.below aB
    have b02 := b01.trans (aB.mono b01.size)
    clear hn hT1 b01 aB
    go_upto_region 2 with fail
    generalize w1.alloc (.cells #[nilV, nilV] 66) = w2 at *
    obtain ⟨c0, c1⟩ := hT2.cells
    obtain ⟨f0, f1⟩ := two_frozen hT2
    have HB : Hid (Below w.heap.size w ((w2.setCell ⟨w.heap.size, 0, none⟩ nilV).setCell ⟨w.heap.size, 1, none⟩ nilV)) := (b02.setCell (Nat.le_refl _) _).setCell (Nat.le_refl _) _
    go_wp2_with fail
    refine bodyPost_ret (v := .tuple #[.agg #[nilV, nilV], .int .i64 5]) (by simp [results, Tryz.results10, go_sem, c0, c1]) rfl ⟨HB.out, Or.inl ⟨HN.out, rfl⟩⟩
  · have aB : Below w1.heap.size w1 (w1.alloc (.cells #[.slice aoA nA capA, .slice ao nP cap] 66)) := (Below.refl _ _).alloc (Nat.le_refl _) _
    have hT2 := hT1.below aB
    have b02 := b01.trans (aB.mono b01.size)
    have hcall := bHistory_any h aoA ao nA nP capA cap b rs _ (hC.below aB)
    have HC : Hid (Closed (w1.alloc (.cells #[.slice aoA nA capA, .slice ao nP cap] 66)) aoA nA nP h (.slice aoA nA capA) ao rs b) := hC.below aB
    have e0 : (w.alloc (.cells #[nilV, nilV] 36)).heap.size = w.heap.size + 1 := by simp
    have HOA : Hid (OwnA (w1.alloc (.cells #[.slice aoA nA capA, .slice ao nP cap] 66)) (w.heap.size + 1) (.slice aoA nA capA) h.accs) := by
      have := ownsRow_below hRO.1 aB
      rw [e0] at this
      exact this
    have HOE : Hid ((∀ i (_ : i < rs.length) (_ : i < h.pers.length), OwnE (w1.alloc (.cells #[.slice aoA nA capA, .slice ao nP cap] 66)) (w.heap.size + 1) rs[i].eV h.pers[i]) ∧ Apart (rs.map Rec.eV)) := ⟨fun i k1 k2 => by
      have := (hRO.2.1 i k1 k2).below aB
      rw [e0] at this
      exact this, hRO.2.2⟩
    have HY : Hid (Sg.isPk h t) := hy
    have HLEN : Hid (rs.length = nP ∧ h.pers.length = nP) := ⟨hC.bk.len, hC.lenP⟩
    have hlt1 : w.heap.size < w1.heap.size := lt_of_block hT1
    have HCC : Hid (nA ≤ capA ∧ capA ≤ 9223372036854775807) := hcc
    clear hy hC hT1 b01 aB hcc hRO e0
    go_wp2_with fail
    refine hcall.mono ?_
    clear hcall
    rintro e w3 ⟨aoP, capP, rfl, HRow, hb3⟩
    have hT3 := hT2.below hb3
    have b03 := b02.trans (hb3.mono b02.size)
    obtain ⟨c0, c1⟩ := hT3.cells
    obtain ⟨f0, f1⟩ := two_frozen hT3
    have HB : Hid (Below w.heap.size w ((w3.setCell ⟨w.heap.size, 0, none⟩ (.slice aoA nA capA)).setCell ⟨w.heap.size, 1, none⟩ (.slice aoP nP capP))) := (b03.setCell (Nat.le_refl _) _).setCell (Nat.le_refl _) _
    have HH : Hid (HistIn ((w3.setCell ⟨w.heap.size, 0, none⟩ (.slice aoA nA capA)).setCell ⟨w.heap.size, 1, none⟩ (.slice aoP nP capP)) aoA aoP nA nP h) := by
      have hC5 := (HC.out.below hb3).off (g := w.heap.size) (j := 0) (u := .slice aoA nA capA) (slBox_two hT3)
      have hC6 := hC5.off (g := w.heap.size) (j := 1) (u := .slice aoP nP capP) ((slBox_two hT3).set _ _ _ _)
      have k0 := keptT_setCell (j := 0) (u := .slice aoA nA capA) hT3
      have h0 := heap_setCell_same w3 w.heap.size 0 _ _ (.slice aoA nA capA) hT3
      have k1 := keptT_setCell (j := 1) (u := .slice aoP nP capP) h0
      have hr := ownsRow_keptT HRow.out (k0.trans k1) (by decide)
      obtain ⟨aoP', capP', e', hH⟩ := hist_of_rows hC6 (Below.refl _ _) hr
      simp only [Value.slice.injEq] at e'
      obtain ⟨rfl, _, rfl⟩ := e'
      exact hH
    have HOO : Hid (OwnA ((w3.setCell ⟨w.heap.size, 0, none⟩ (.slice aoA nA capA)).setCell ⟨w.heap.size, 1, none⟩ (.slice aoP nP capP)) w.heap.size (.slice aoA nA capA) h.accs ∧ OwnPsA ((w3.setCell ⟨w.heap.size, 0, none⟩ (.slice aoA nA capA)).setCell ⟨w.heap.size, 1, none⟩ (.slice aoP nP capP)) w.heap.size (.slice aoP nP capP) h.pers) := by
      refine ⟨?_, evs (rs.take nP), ?_, ?_, fun i k1 k2 => ?_, ?_⟩
      · exact ownsRow_mono (ownsRow_setCell_below (ownsRow_setCell_below (ownsRow_below HOA.out hb3) (by show w.heap.size < _; omega) _) (by show w.heap.size < _; omega) _) (Nat.le_succ _)
      · unfold evs
        rw [List.length_map, List.length_take, HLEN.out.1, HLEN.out.2]
        omega
      · rw [HLEN.out.2]
        have hr := ownsRow_mono HRow.out (B' := w.heap.size + 1) (by simp; omega)
        exact ownsRow_mono (ownsRow_setCell_below (ownsRow_setCell_below hr (by show w.heap.size < _; omega) _) (by show w.heap.size < _; omega) _) (Nat.le_succ _)
      · have hi : i < rs.length := by rw [HLEN.out.1, ← HLEN.out.2]; exact k1
        rw [evs_get rs nP i k2 hi]
        exact ((((HOE.out.1 i hi k1).below hb3).setCell_below (by omega) _).setCell_below (by omega) _).mono (Nat.le_succ _)
      · rw [List.take_of_length_le (by rw [HLEN.out.1]; exact Nat.le_refl _)]
        exact HOE.out.2
    clear HRow hT2 hT3 hb3 HC HOA HOE
    go_wp2_with fail
    refine bodyPost_ret (v := .tuple #[.agg #[.slice aoA nA capA, .slice aoP nP capP], .int .i64 0]) (by simp [results, Tryz.results10, go_sem, c0, c1]) rfl ⟨HB.out, Or.inr ⟨HY.out, _, _, _, _, _, _, rfl, HCC.out, HH.out, HOO.out.1, HOO.out.2⟩⟩
end Go.Proofs.YtoadiibfmcjgaaaGreat

/-
  THE WALK of seal.Extend.
-/
namespace Go.Proofs.YtoadiibfmcjgaaaGreat
open Go.RowKit
set_option maxRecDepth 100000
attribute [local go_sem ↓] Go.wp_at_zero Go.wp_at_succ

/-- What Seal asks of a period. -/
def PerSizes (p : List Sg.Ent) : Prop := (p.length ≤ 140737488355328 ∧ ∀ e ∈ p, e.memo.size ≤ 140737488355328 ∧ e.posts.length ≤ 140737488355328) ∧ ∀ e ∈ p, ∀ t ∈ e.posts, Sg.fits t.acct = true ∧ Sg.fits t.amt = true
/-- A history with a period more. -/
def Sg.plus (h : Sg.Hist) (p : List Sg.Ent) : Sg.Hist := ⟨h.accs, h.pers ++ [p]⟩
theorem snoc_last {α : Type} (l : List α) (x : α) (i : Nat) (hi : i < (l ++ [x]).length) (e : l.length = i) : (l ++ [x])[i] = x := by subst e; simp
theorem snoc_old {α : Type} (l : List α) (x : α) (i : Nat) (hi : i < (l ++ [x]).length) (h : i < l.length) : (l ++ [x])[i] = l[i] := List.getElem_append_left h
theorem ext_hist {X w5 : World} {B hb g cap' nA nP capA capX : Nat} {aoA aoX : Option Addr} {vP : Value} {h : Sg.Hist} {p : List Sg.Ent} {us : List Value} {aoP0 : Option Addr} {W0 : World} (hH : HistIn W0 aoA aoP0 nA nP h) (hA : OwnA X B (.slice aoA nA capA) h.accs) (hul : us.length = h.pers.length) (hrow : X.ownsRow B 24 1 vP nP us) (hus : ∀ i (h1 : i < h.pers.length) (h2 : i < us.length), OwnE X B us[i] h.pers[i]) (hbox : Two X hb (.slice aoA nA capA) vP 36)
    (hg : X.grownBy w5 vP.ownBlock) (hown5 : w5.ownsRow B 24 1 (.slice (some ⟨g, 0, none⟩) (nP + 1) cap') (nP + 1) (us ++ [.slice aoX p.length capX]))
    (hE : EntsIn (w5.setCell ⟨hb, 1, none⟩ (.slice (some ⟨g, 0, none⟩) (nP + 1) cap')) aoX p) (hp : PerSizes p) :
    Two w5 hb (.slice aoA nA capA) vP 36 ∧ HistIn (w5.setCell ⟨hb, 1, none⟩ (.slice (some ⟨g, 0, none⟩) (nP + 1) cap')) aoA (some ⟨g, 0, none⟩) nA (nP + 1) (Sg.plus h p) := by
  have hk := keptT_append hrow hg
  have box5 : Two w5 hb (.slice aoA nA capA) vP 36 := hk _ _ _ _ hbox (by decide)
  have hk6 : KeptT 36 w5 (w5.setCell ⟨hb, 1, none⟩ (.slice (some ⟨g, 0, none⟩) (nP + 1) cap')) := keptT_setCell box5
  have hA6 := (hA.keptT hk (by decide)).keptT hk6 (by decide)
  have hrow6 := ownsRow_keptT hown5 hk6 (by decide)
  obtain ⟨ao', cp', e', _, _, hin⟩ := hA6.in_
  simp only [Value.slice.injEq] at e'
  obtain ⟨rfl, _, _⟩ := e'
  have hgl : g < (w5.setCell ⟨hb, 1, none⟩ (.slice (some ⟨g, 0, none⟩) (nP + 1) cap')).heap.size := by
    obtain ⟨g', c', e, _, hlt⟩ := hrow6.form (by omega)
    simp only [Value.slice.injEq, Option.some.injEq, Addr.mk.injEq, and_true, true_and] at e
    obtain ⟨rfl, _⟩ := e
    exact hlt
  have hlP := hH.lenP
  refine ⟨box5, hin, ?_, hH.lenA, by show (h.pers ++ [p]).length = nP + 1; rw [List.length_append, hlP]; rfl, hH.sizA, fun q hq => ?_, fun q hq => ?_⟩
  · refine Or.inr ⟨g, 0, rfl, hgl, fun i hi => ?_⟩
    have hi' : i < nP + 1 := by
      have : (h.pers ++ [p]).length = nP + 1 := by rw [List.length_append, hlP]; rfl
      rw [← this]; exact hi
    rw [Nat.zero_add, World.ownsRow.cellAt hrow6 i (by omega)]
    by_cases e : i = nP
    · subst e
      have e1 : (Sg.plus h p).pers[i]'hi = p := snoc_last h.pers p i hi hlP
      refine ⟨aoX, capX, ?_, ?_⟩
      · rw [e1, List.getElem?_append_right (by omega), hul, hlP, Nat.sub_self]; rfl
      · rw [e1]; exact hE
    · have hii : i < h.pers.length := by omega
      have e1 : (Sg.plus h p).pers[i]'hi = h.pers[i] := snoc_old h.pers p i hi hii
      obtain ⟨ao', c', e2, _, _, h3⟩ := (((hus i hii (by omega)).keptT hk (by decide) (by decide)).keptT hk6 (by decide) (by decide)).in_
      refine ⟨ao', c', ?_, ?_⟩
      · rw [e1, List.getElem?_append_left (by omega), List.getElem?_eq_getElem (by omega), e2]
      · rw [e1]; exact h3
  · rcases List.mem_append.1 hq with hq | hq
    · exact hH.sizP q hq
    · simp at hq; subst hq; exact hp.1
  · rcases List.mem_append.1 hq with hq | hq
    · exact hH.sizQ q hq
    · simp at hq; subst hq; exact hp.2

set_option maxHeartbeats 3200000 in
/-- seal.Extend. -/
theorem extend_any (t : ByteArray) (p : List Sg.Ent) (aoX : Option Addr) (nX capX : Nat) (w : World) (hE : EntsIn w aoX p) (hn : p.length = nX) (hp : PerSizes p) :
    Calls Tryz.prog 5 #[.string t, .agg #[.slice aoX nX capX]] w fun e w' => Below w.heap.size w w' ∧
      ((¬ Sg.isPk (Sg.rdHist Sg.rdP (Sg.tx t)) t ∧ e = .returned (.tuple #[.string ByteArray.empty, .string ByteArray.empty, .int .i64 5])) ∨
       (Sg.isPk (Sg.rdHist Sg.rdP (Sg.tx t)) t ∧ e = .returned (.tuple #[.string (Sg.package (Sg.plus (Sg.rdHist Sg.rdP (Sg.tx t)) p)), .string (Sg.headOf (Sg.plus (Sg.rdHist Sg.rdP (Sg.tx t)) p)), .int .i64 (Sg.closeErr (Sg.plus (Sg.rdHist Sg.rdP (Sg.tx t)) p))]))) := by
  obtain ⟨p0, pi, pz0, pz1, pz2⟩ := info_parts Tryz.infoPer1
  obtain ⟨h, hh⟩ : ∃ h, Sg.rdHist Sg.rdP (Sg.tx t) = h := ⟨_, rfl⟩
  have hcall := fun W => decode_any t W
  rw [hh] at hcall ⊢
  clear hh
  obtain ⟨pk, hpk⟩ : ∃ k, Sg.package (Sg.plus h p) = k := ⟨_, rfl⟩
  obtain ⟨hd, hhd⟩ : ∃ k, Sg.headOf (Sg.plus h p) = k := ⟨_, rfl⟩
  obtain ⟨ee, hee⟩ : ∃ k, Sg.closeErr (Sg.plus h p) = k := ⟨_, rfl⟩
  rw [hpk, hhd, hee]
  have HPk : Hid (Sg.package (Sg.plus h p) = pk ∧ Sg.headOf (Sg.plus h p) = hd ∧ Sg.closeErr (Sg.plus h p) = ee) := ⟨hpk, hhd, hee⟩
  clear hpk hhd hee
  have HE : Hid (EntsIn w aoX p) := hE
  have HN : Hid (p.length = nX) := hn
  have HP : Hid (PerSizes p) := hp
  clear hE hn hp
  have a0 : Below w.heap.size w (w.alloc (.cells #[.slice aoX nX capX] 24)) := (Below.refl _ _).alloc (Nat.le_refl _) _
  have hT : (w.alloc (.cells #[.slice aoX nX capX] 24)).heap[w.heap.size]? = some (.cells #[.slice aoX nX capX] 24 (0, 0)) := heap_alloc_new w _
  have e0 : (w.alloc (.cells #[.slice aoX nX capX] 24)).heap.size = w.heap.size + 1 := by simp
  go_enter Tryz.func5, Tryz.ntmps5
  go_wp2_with fail
  refine (hcall _).mono ?_
  clear hcall
  rintro e w2 ⟨hb2, hcase⟩
  have hT2 := (hb2.block _ (lt_of_block hT)).trans hT
  have b2 := a0.trans (hb2.mono a0.size)
  rw [e0] at hcase
  clear hT a0 hb2 e0
  rcases hcase with ⟨hn, rfl⟩ | ⟨hy, aoA, nA, capA, aoP, nP, capP, rfl, hcc, hH, hOA, hOP⟩
  · have HNo : Hid (¬ Sg.isPk h t) := hn
    clear hn
    go_wp2_with fail
    refine bodyPost_ret (v := .tuple #[.string ByteArray.empty, .string ByteArray.empty, .int .i64 5]) (by simp [results, Tryz.results5, go_sem]; rfl) rfl ⟨b2.alloc b2.size _, Or.inl ⟨HNo.out, rfl⟩⟩
  · obtain ⟨us, hul, hrow, hus⟩ := hOP.own
    have hlP := hH.lenP
    rw [hlP] at hrow
    have aB : Below w2.heap.size w2 ((w2.alloc (.cells #[.slice aoA nA capA, .slice aoP nP capP] 36)).alloc (.cells #[.slice aoX nX capX] 24)) := ((Below.refl _ _).alloc (Nat.le_refl _) _).alloc (by simp) _
    have hbox : Two ((w2.alloc (.cells #[.slice aoA nA capA, .slice aoP nP capP] 36)).alloc (.cells #[.slice aoX nX capX] 24)) w2.heap.size (.slice aoA nA capA) (.slice aoP nP capP) 36 := (Two.new w2 _ _ _).below ((Below.refl _ _).alloc (Nat.le_refl _) _)
    have px0 : w2.cell? ⟨w.heap.size, 0, none⟩ = some (.slice aoX nX capX) := by rw [cell_of_row w2 _ 0 _ _ _ hT2]; rfl
    have hlt2 : w.heap.size < w2.heap.size := lt_of_block hT2
    have HA : Hid (OwnA ((w2.alloc (.cells #[.slice aoA nA capA, .slice aoP nP capP] 36)).alloc (.cells #[.slice aoX nX capX] 24)) (w.heap.size + 1) (.slice aoA nA capA) h.accs) := hOA.below aB
    have HUs : Hid (∀ i (h1 : i < h.pers.length) (h2 : i < us.length), OwnE ((w2.alloc (.cells #[.slice aoA nA capA, .slice aoP nP capP] 36)).alloc (.cells #[.slice aoX nX capX] 24)) (w.heap.size + 1) us[i] h.pers[i]) := fun i k1 k2 => (hus i k1 k2).below aB
    have hn6 : nP ≤ 6 := by
      have hc := hy.1
      have hi : Sg.inBounds h = true := by
        cases hb : Sg.inBounds h with
        | true => rfl
        | false => unfold Sg.closeErr at hc; rw [hb] at hc; simp at hc
      unfold Sg.inBounds at hi
      simp only [Bool.and_eq_true, decide_eq_true_eq] at hi
      omega
    have HH : Hid (HistIn w2 aoA aoP nA nP h) := hH
    have HUL : Hid (us.length = h.pers.length) := hul
    have HY : Hid (Sg.isPk h t) := hy
    have HCC : Hid (nA ≤ capA ∧ capA ≤ 9223372036854775807) := hcc
    clear hOA hus hH hul hy hcc hlP
    go_wp2_with (at_builtin; (refine wpList_append_lies _ rfl _ _ 34 rfl (w.heap.size + 1) 24 p0 (.agg #[.slice none 0 0]) 1 24 Tryz.underlying34 pi pz0 pz1 pz2 rfl (by decide) (.slice aoP nP capP) nP us rfl ((hrow.alloc _).alloc _) ⟨w2.heap.size + 1, 0, none⟩ 1 1 [.slice aoX nX capX] rfl rfl (World.news_of_block (cs := #[.slice aoX nX capX]) (t := 24) (fr := (0, 0)) (new_block2 w2 _ _ _)) (by intro u hu; simp at hu; subst hu; rfl) (by omega) (by unfold maxLen; omega) (by omega) (by simp; omega) (w2.heap.size + 2) (by simp) ?_))
    intro g cap' w5 hown5 hgrow _ hlt5
    have b3 := b2.trans (aB.mono b2.size)
    have b5 : Below w.heap.size w w5 := b3.grown hgrow b3.size (fun q hq => by have := (World.ownsRow.lt hrow q hq).1; omega)
    have b6 : Below w.heap.size w (w5.setCell ⟨w2.heap.size, 1, none⟩ (.slice (some ⟨g, 0, none⟩) (nP + 1) cap')) := b5.setCell (by show _ ≤ w2.heap.size; omega) _
    obtain ⟨box5, hH6⟩ := ext_hist (p := p) (capX := capX) (aoX := aoX) HH.out HA.out HUL.out ((hrow.alloc _).alloc _) HUs.out hbox hgrow (by rw [HN.out]; exact hown5) (HE.out.below b6) HP.out
    obtain ⟨by0, by1⟩ := box5.cells
    have bf1 : w5.frozen? ⟨w2.heap.size, 1, none⟩ = false := (two_frozen box5).2
    have hcall := seal_any (Sg.plus h p) aoA (some ⟨g, 0, none⟩) nA (nP + 1) capA cap' _ hH6 HCC.out.1 HCC.out.2
    clear hown5 hgrow hrow hbox hH6 HA HUs b3 b5 px0 box5 aB
    rw [HPk.out.1, HPk.out.2.1, HPk.out.2.2] at hcall
    go_wp2_with fail
    refine hcall.mono ?_
    clear hcall
    rintro e w7 ⟨rfl, hb7⟩
    have b7 := b6.trans (hb7.mono b6.size)
    go_wp2_with fail
    refine bodyPost_ret (v := .tuple #[.string pk, .string hd, .int .i64 ee]) (by simp [results, Tryz.results5, go_sem]) rfl ⟨b7, Or.inr ⟨HY.out, rfl⟩⟩
end Go.Proofs.YtoadiibfmcjgaaaGreat
